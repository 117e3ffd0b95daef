
import Derived.Test.YtcikfcplagelaaaGreatRow8
import Derived.Laws.EntriesVeiled
import Derived.Test.YtcikfcplagelaaaGreatSizeIn
namespace Go.Proofs.YtcikfcplagelaaaGreat
set_option maxHeartbeats 8000000
open _root_.Go.Proofs.Tryz Go.Deep
open Go.RowKit Go.BigFrame
set_option linter.unusedVariables false
set_option maxRecDepth 100000
def cntH (hN:Nat→Nat) (c:Nat):Nat→Nat
 |0=>0
 |k+1=>cntH hN c k+(if hN k=c then 1 else 0)
theorem cntH_le (hN:Nat→Nat) (c k:Nat):cntH hN c k≤k:=by
 induction k with
 |zero=>exact Nat.le_refl 0
 |succ k ih=>unfold cntH;split<;>omega
theorem cntH_mono (hN:Nat→Nat) (c:Nat) {j k:Nat} (h:j≤k):cntH hN c j≤cntH hN c k:=by
 induction h with
 |refl=>exact Nat.le_refl _
 |step _ ih=>exact Nat.le_trans ih (by show _≤cntH hN c _+_;omega)
theorem cntH_lt (hN:Nat→Nat) {j k:Nat} (h:j<k):cntH hN (hN j) j<cntH hN (hN j) k:=by
 have h1:cntH hN (hN j) (j+1)=cntH hN (hN j) j+1:=by show cntH hN (hN j) j+(if hN j=hN j then 1 else 0)=_;rw [if_pos rfl]
 have:=cntH_mono hN (hN j) (show j+1≤k from h)
 omega
theorem cntH_inj (hN:Nat→Nat) {t u:Nat} (e:hN t=hN u) (h:cntH hN (hN t) t=cntH hN (hN u) u):t=u:=by
 rcases Nat.lt_trichotomy t u with q|q|q
 ·have:=cntH_lt hN q;rw [e] at this h;omega
 ·exact q
 ·have:=cntH_lt hN q;rw [←e] at this h;omega
theorem cntH_pos (hN:Nat→Nat) (c n:Nat):0<cntH hN c n↔∃ t,t<n∧hN t=c:=by
 induction n with
 |zero=>simp [cntH]
 |succ n ih=>
  unfold cntH
  constructor
  ·intro h
   by_cases q:hN n=c
   ·exact ⟨n,by omega,q⟩
   ·rw [if_neg q] at h
    obtain ⟨t,a,b⟩:=ih.1 (by omega)
    exact ⟨t,by omega,b⟩
  ·rintro ⟨t,a,b⟩
   by_cases q:t=n
   ·subst q;rw [if_pos b];omega
   ·have:=ih.2 ⟨t,by omega,b⟩
    omega
def ndK (hN:Nat→Nat) (k t:Nat):Nat:=if t<k then hN t else 0
def owK (hN:Nat→Nat) (k t:Nat):Nat:=if t<k then cntH hN (hN t) t else 0
def nxK (k t:Nat):Value:=if t<k then .func (.func 123) #[] #[] else .nilFunc
theorem upK {α:Type} (g:Nat→α) (z:α) (k:Nat):upd (λt=>if t<k then g t else z) k (g k)=λt=>if t<k+1 then g t else z:=by
 funext t
 by_cases e:t=k
 ·subst e;rw [upd_same,if_pos (by omega)]
 ·rw [upd_other _ _ e]
  by_cases q:t<k
  ·rw [if_pos q,if_pos (by omega)]
  ·rw [if_neg q,if_neg (by omega)]
theorem cxs_set4 (n:Nat) (nd own:Nat→Nat) (nx:Nat→Value) (got:Nat→Int) (k a b:Nat) (v:Value) (x:Int):
  ((((cxs n nd own nx got).set (k*4) (.int .i64 (a:Nat))).set (k*4+1) (.int .i64 (b:Nat))).set (k*4+2) v).set (k*4+3) (.int .u32 x)=cxs n (upd nd k a) (upd own k b) (upd nx k v) (upd got k x):=by
 have e0:(cxs n nd own nx got).set (k*4) (.int .i64 (a:Nat))=cxs n (upd nd k a) own nx got:=by
  refine flat_set (cxC_len nd own nx got) (cxC_len _ _ _ _) _ k 0 (by decide) _ λi t ht l hl=> ?_
  obtain ⟨_,rfl⟩:=cx_range ht
  rcases four_of hl with rfl|rfl|rfl|rfl
  all_goals
   by_cases e:t=k
   ·subst e;simp [cxC,upd_same]
   ·simp [cxC,upd_other _ _ e,e]
 have e1:(cxs n (upd nd k a) own nx got).set (k*4+1) (.int .i64 (b:Nat))=cxs n (upd nd k a) (upd own k b) nx got:=by
  refine flat_set (cxC_len (upd nd k a) own nx got) (cxC_len _ _ _ _) _ k 1 (by decide) _ λi t ht l hl=> ?_
  obtain ⟨_,rfl⟩:=cx_range ht
  rcases four_of hl with rfl|rfl|rfl|rfl
  all_goals
   by_cases e:t=k
   ·subst e;simp [cxC,upd_same]
   ·simp [cxC,upd_other _ _ e,e]
 rw [e0,e1,cxs_set2,cxs_set3]
def rowK (hN:Nat→Nat) (k c:Nat):List Nat:=List.replicate (cntH hN c k) c
theorem rowK_same (hN:Nat→Nat) (k:Nat):rowK hN (k+1) (hN k)=rowK hN k (hN k)++[hN k]:=by
 unfold rowK
 rw [show cntH hN (hN k) (k+1)=cntH hN (hN k) k+1 from by show _+(if hN k=hN k then 1 else 0)=_;rw [if_pos rfl],List.replicate_succ']
theorem rowK_other (hN:Nat→Nat) (k:Nat) {c:Nat} (h:c≠hN k):rowK hN (k+1) c=rowK hN k c:=by
 unfold rowK
 rw [show cntH hN c (k+1)=cntH hN c k from by show _+(if hN k=c then 1 else 0)=_;rw [if_neg λe=>h e.symm,Nat.add_zero]]
structure PlSt (w:World) (tb n:Nat) (hN:Nat→Nat) (k:Nat) (vq:Nat→Value) (Y:World):Prop where
 ctx:Y.heap[tb]? =some (.cells (cxs n (ndK hN k) (owK hN k) (nxK k) (λ_=>0)).toArray 264 (0,0))
 r8:R8 Y (w.heap.size+1) (w.heap.size+1) vq (rowK hN k)
 wr:Wr (One tb) w Y
 lt:tb<w.heap.size
 res:Y.heap[w.heap.size]? =some (.cells #[.slice none 0 0,.slice none 0 0,.slice none 0 0,.slice none 0 0,.slice none 0 0,.slice none 0 0,.slice none 0 0,.slice none 0 0] 254 (0,0))
 size:w.heap.size+1≤Y.heap.size
def PlacesPost (w:World) (tb n:Nat) (hN:Nat→Nat) (e:Ending) (w':World):Prop:=
 ∃ vq:Nat→Value,e= .returned (.agg (arr8 vq))∧w'.heap[tb]? =some (.cells (cxs n hN (λt=>cntH hN (hN t) t) (λ_=> .func (.func 123) #[] #[]) (λ_=>0)).toArray 264 (0,0))∧
  (∀ c,c<8→RowQ w' (vq c) ((rowK hN n c).map natV)∧∀ j,(vq c).ownBlock=some j→w.heap.size≤j)∧Wr (One tb) w w'
theorem cxs_all {n:Nat} {nd nd' own own':Nat→Nat} {nx nx':Nat→Value} {got:Nat→Int} (h:∀ t,t<n→nd t=nd' t∧own t=own' t∧nx t=nx' t):cxs n nd own nx got=cxs n nd' own' nx' got:=by
 unfold cxs
 rw [List.flatMap_def,List.flatMap_def]
 congr 1
 refine List.map_congr_left λt ht=> ?_
 obtain ⟨a,b,c⟩:=h t (by simpa using ht)
 unfold cxC
 rw [a,b,c]
theorem four_store {w:World} {tb k:Nat} {l:List Value} {ty:TypeId} (h:w.heap[tb]? =some (.cells l.toArray ty (0,0))) (x0 x1 x2 x3:Value):
  ((((w.setCell ⟨tb,k*4,none⟩ x0).setCell ⟨tb,k*4+1,none⟩ x1).setCell ⟨tb,k*4+2,none⟩ x2).setCell ⟨tb,k*4+3,none⟩ x3).heap[tb]? =some (.cells ((((l.set (k*4) x0).set (k*4+1) x1).set (k*4+2) x2).set (k*4+3) x3).toArray ty (0,0))∧
  Wr (One tb) w ((((w.setCell ⟨tb,k*4,none⟩ x0).setCell ⟨tb,k*4+1,none⟩ x1).setCell ⟨tb,k*4+2,none⟩ x2).setCell ⟨tb,k*4+3,none⟩ x3):=by
 constructor
 ·rw [blk_setCell (blk_setCell (blk_setCell (blk_setCell h _ _) _ _) _ _) _ _,List.setIfInBounds_toArray,List.setIfInBounds_toArray,List.setIfInBounds_toArray,List.setIfInBounds_toArray]
 ·exact ((((Wr.refl (One tb) w).setCell ⟨tb,k*4,none⟩ x0 λ_=>rfl).setCell ⟨tb,k*4+1,none⟩ x1 λ_=>rfl).setCell ⟨tb,k*4+2,none⟩ x2 λ_=>rfl).setCell ⟨tb,k*4+3,none⟩ x3 λ_=>rfl
structure PlMid (w:World) (tb n:Nat) (hN:Nat→Nat) (k:Nat) (vq:Nat→Value) (Y:World):Prop where
 ctx:Y.heap[tb]? =some (.cells (cxs n (ndK hN (k+1)) (owK hN (k+1)) (nxK (k+1)) (λ_=>0)).toArray 264 (0,0))
 r8:R8 Y (w.heap.size+1) (w.heap.size+1) vq (rowK hN k)
 wr:Wr (One tb) w Y
 lt:tb<w.heap.size
 res:Y.heap[w.heap.size]? =some (.cells #[.slice none 0 0,.slice none 0 0,.slice none 0 0,.slice none 0 0,.slice none 0 0,.slice none 0 0,.slice none 0 0,.slice none 0 0] 254 (0,0))
 size:w.heap.size+1≤Y.heap.size
theorem PlMid.after {w X Y:World} {tb n k:Nat} {hN:Nat→Nat} {vq:Nat→Value} (h:PlMid w tb n hN k vq X) (q:Wr Nil X Y):PlMid w tb n hN k vq Y:=
 ⟨(q.block _ (blk_lt h.ctx) id).trans h.ctx,h.r8.after q,h.wr.trans q λ_ _ e=>e.elim,h.lt,(q.block _ (blk_lt h.res) id).trans h.res,Nat.le_trans h.size q.size⟩
namespace PlSt
variable {w X Y:World} {tb n k:Nat} {hN:Nat→Nat} {vq:Nat→Value}
theorem after (h:PlSt w tb n hN k vq X) (q:Wr Nil X Y):PlSt w tb n hN k vq Y:=
 ⟨(q.block _ (blk_lt h.ctx) id).trans h.ctx,h.r8.after q,h.wr.trans q λ_ _ e=>e.elim,h.lt,(q.block _ (blk_lt h.res) id).trans h.res,Nat.le_trans h.size q.size⟩
theorem mid (h:PlSt w tb n hN k vq X) (hc:Y.heap[tb]? =some (.cells (cxs n (ndK hN (k+1)) (owK hN (k+1)) (nxK (k+1)) (λ_=>0)).toArray 264 (0,0))) (q:Wr (One tb) X Y):PlMid w tb n hN k vq Y:=by
 have hlt:=h.lt
 refine ⟨hc,h.r8.beside q (by omega) λc hc e=> ?_,h.wr.trans q λ_ _ e=>e,h.lt,(q.block _ (blk_lt h.res) λe=>by unfold One at e;omega).trans h.res,Nat.le_trans h.size q.size⟩
 have:=(h.r8.low c hc tb e).1
 omega
end PlSt
theorem PlMid.placed {w X Y:World} {tb n k:Nat} {hN:Nat→Nat} {vq:Nat→Value} (h:PlMid w tb n hN k vq X) (h8:hN k<8) {v':Value} (hp:PushQ X Y (vq (hN k)) v' ((rowK hN k (hN k)).map natV) (natV (hN k))):
  PlSt w tb n hN (k+1) (upd vq (hN k) v') (Y.setCell ⟨w.heap.size+1,hN k,none⟩ v'):=by
 obtain ⟨a,b⟩:=h.r8.push h.size h8 hp (q':=rowK hN (k+1)) (rowK_same hN k) λd hd=>rowK_other hN k hd
 have hlt:=h.lt
 have hsz:=h.size
 refine ⟨(b.block _ (by omega) (by omega)).trans h.ctx,a,h.wr.trans b λj hj e=>by omega,h.lt,(b.block _ (by omega) (by omega)).trans h.res,Nat.le_trans h.size b.size⟩
theorem PlMid.cellQ {w X Y:World} {tb n k:Nat} {hN:Nat→Nat} {vq:Nat→Value} (h:PlMid w tb n hN k vq X) (h8:hN k<8) {v':Value} (hp:PushQ X Y (vq (hN k)) v' ((rowK hN k (hN k)).map natV) (natV (hN k))):
  Y.cell? ⟨w.heap.size+1,hN k,none⟩=some (vq (hN k))∧Y.frozen? ⟨w.heap.size+1,hN k,none⟩=false:=by
 have harr:Y.heap[w.heap.size+1]? =some (.cells (arr8 vq) 254 (0,0)):=(hp.2.1.block _ (blk_lt h.r8.arr) λe=>(h.r8.low _ h8 _ e).2 rfl).trans h.r8.arr
 exact ⟨(blk_cell harr _).trans (arr8_at vq h8),blk_frozen harr _⟩
theorem place_set {w:World} {tb n k:Nat} {hN:Nat→Nat} (h:w.heap[tb]? =some (.cells (cxs n (ndK hN k) (owK hN k) (nxK k) (λ_=>0)).toArray 264 (0,0))) {m:Nat} (hm:m=cntH hN (hN k) k):
  ((((w.setCell ⟨tb,k*4,none⟩ (.int .i64 (hN k:Nat))).setCell ⟨tb,k*4+1,none⟩ (.int .i64 (m:Nat))).setCell ⟨tb,k*4+2,none⟩ (.func (.func 123) #[] #[])).setCell ⟨tb,k*4+3,none⟩ (.int .u32 0)).heap[tb]? =some (.cells (cxs n (ndK hN (k+1)) (owK hN (k+1)) (nxK (k+1)) (λ_=>0)).toArray 264 (0,0))∧
  Wr (One tb) w ((((w.setCell ⟨tb,k*4,none⟩ (.int .i64 (hN k:Nat))).setCell ⟨tb,k*4+1,none⟩ (.int .i64 (m:Nat))).setCell ⟨tb,k*4+2,none⟩ (.func (.func 123) #[] #[])).setCell ⟨tb,k*4+3,none⟩ (.int .u32 0)):=by
 obtain ⟨a,b⟩:=four_store (k:=k) h (.int .i64 (hN k:Nat)) (.int .i64 (m:Nat)) (.func (.func 123) #[] #[]) (.int .u32 0)
 refine ⟨?_,b⟩
 rw [a,cxs_set4,hm]
 have e1:upd (ndK hN k) k (hN k)=ndK hN (k+1):=upK hN 0 k
 have e2:upd (owK hN k) k (cntH hN (hN k) k)=owK hN (k+1):=upK (λt=>cntH hN (hN t) t) 0 k
 have e3:upd (nxK k) k (.func (.func 123) #[] #[])=nxK (k+1):=upK (λ_=>(.func (.func 123) #[] #[]:Value)) Value.nilFunc k
 have e4:upd (λ_:Nat=>(0:Int)) k 0=λ_=>0:=by funext j;unfold upd;split<;>rfl
 rw [e1,e2,e3,e4]
theorem arr8_lit (vq:Nat→Value):arr8 vq= #[vq 0,vq 1,vq 2,vq 3,vq 4,vq 5,vq 6,vq 7]:=rfl
theorem set8 {Y:World} {B:Nat} {t:TypeId} {cs:Array Value} (h:Y.heap[B]? =some (.cells cs t (0,0))) (h8:cs.size=8) (x0 x1 x2 x3 x4 x5 x6 x7:Value):
  ((((((((Y.setCell ⟨B,0,none⟩ x0).setCell ⟨B,1,none⟩ x1).setCell ⟨B,2,none⟩ x2).setCell ⟨B,3,none⟩ x3).setCell ⟨B,4,none⟩ x4).setCell ⟨B,5,none⟩ x5).setCell ⟨B,6,none⟩ x6).setCell ⟨B,7,none⟩ x7).heap[B]? =some (.cells #[x0,x1,x2,x3,x4,x5,x6,x7] t (0,0)):=by
 rw [blk_setCell (blk_setCell (blk_setCell (blk_setCell (blk_setCell (blk_setCell (blk_setCell (blk_setCell h 0 x0) 1 x1) 2 x2) 3 x3) 4 x4) 5 x5) 6 x6) 7 x7]
 obtain ⟨l⟩:=cs
 match l,h8 with
 |[a,b,c,d,e,f,g,h],_=>rfl
theorem wrote8 (Y:World) (B:Nat) (x0 x1 x2 x3 x4 x5 x6 x7:Value):Wr (One B) Y ((((((((Y.setCell ⟨B,0,none⟩ x0).setCell ⟨B,1,none⟩ x1).setCell ⟨B,2,none⟩ x2).setCell ⟨B,3,none⟩ x3).setCell ⟨B,4,none⟩ x4).setCell ⟨B,5,none⟩ x5).setCell ⟨B,6,none⟩ x6).setCell ⟨B,7,none⟩ x7):=
 ((((((((Wr.refl (One B) Y).setCell ⟨B,0,none⟩ x0 λ_=>rfl).setCell ⟨B,1,none⟩ x1 λ_=>rfl).setCell ⟨B,2,none⟩ x2 λ_=>rfl).setCell ⟨B,3,none⟩ x3 λ_=>rfl).setCell ⟨B,4,none⟩ x4 λ_=>rfl).setCell ⟨B,5,none⟩ x5 λ_=>rfl).setCell ⟨B,6,none⟩ x6 λ_=>rfl).setCell ⟨B,7,none⟩ x7 λ_=>rfl
theorem i_rows:(prog.info? 254).map (·.size)=some 8:=by kernel_rfl
theorem fl_places {w:World} {lb tb b o n cap:Nat} {zs:List Int} {hN:Nat→Nat} (hS:w.cell? ⟨lb,13,none⟩=some (.slice (some ⟨tb,0,none⟩) n n)) (hT:w.heap[tb]? =some (.cells (cxs n (λ_=>0) (λ_=>0) (λ_=> .nilFunc) (λ_=>0)).toArray 264 (0,0)))
  (hR:RowAt .i64 w (some ⟨b,o,none⟩) n zs) (hH:∀ t,t<n→zs.getD t 0=(hN t:Nat)∧hN t<8) (n64:n≤64) (n1:lb≠tb) (n2:b≠tb):
  Calls prog 111 #[.pointer (some ⟨lb,0,none⟩),.slice (some ⟨b,o,none⟩) n cap] w (PlacesPost w tb n hN):=by
 have hs0:PlSt w tb n hN 0 (λ_=> .slice none 0 0) ((w.alloc (.cells #[.slice none 0 0,.slice none 0 0,.slice none 0 0,.slice none 0 0,.slice none 0 0,.slice none 0 0,.slice none 0 0,.slice none 0 0] 254)).alloc (.cells #[.slice none 0 0,.slice none 0 0,.slice none 0 0,.slice none 0 0,.slice none 0 0,.slice none 0 0,.slice none 0 0,.slice none 0 0] 254)):=by
  have e1:(w.alloc (.cells #[.slice none 0 0,.slice none 0 0,.slice none 0 0,.slice none 0 0,.slice none 0 0,.slice none 0 0,.slice none 0 0,.slice none 0 0] 254)).heap.size=w.heap.size+1:=nblk_alloc _ _
  have k:Wr Nil w ((w.alloc (.cells #[.slice none 0 0,.slice none 0 0,.slice none 0 0,.slice none 0 0,.slice none 0 0,.slice none 0 0,.slice none 0 0,.slice none 0 0] 254)).alloc (.cells #[.slice none 0 0,.slice none 0 0,.slice none 0 0,.slice none 0 0,.slice none 0 0,.slice none 0 0,.slice none 0 0,.slice none 0 0] 254)):=((Wr.refl _ w).alloc _).alloc _
  have ht:=blk_lt hT
  refine ⟨(k.block _ ht id).trans ?_,?_,k.mono λ_ _ e=>e.elim,ht,?_,?_⟩
  ·rw [hT]
   congr 3
  ·have e:rowK hN 0=λ_=>[]:=rfl
   rw [e]
   exact R8.start (w:=w) (by rw [←e1,blk_alloc_new];rfl) (Nat.le_refl _)
  ·rw [blk_alloc_lt _ _ _ (by rw [e1];omega),blk_alloc_new]
  ·rw [nblk_alloc,e1];omega
 have HE:=Lib.hid (And.intro hS (And.intro hR (And.intro hH (And.intro n1 (And.intro n2 (blk_lt hT))))))
 have HS:=Lib.hid hs0
 clear hS hT hR hH n1 n2 hs0
 go_enter func111,ntmps111
 go_wp2
 go_loopw [6,7,10] (λ_ _ i wr=>∃ (k:Nat) (vq:Nat→Value),k≤n∧i= .int .i64 k∧PlSt w tb n hN k vq wr) (λ_ _ i _=>n-(intOf i).toNat)
 case atStart=>exact ⟨0,_,Nat.zero_le _,rfl,HS.out⟩
 case round=>
  clear HS
  obtain ⟨k,vq,hk,rfl,hl⟩:=hrel
  by_cases hlt:k<n
  ·obtain ⟨hS,hR,hH,m1,m2,hbt⟩:=HE.out
   obtain ⟨hz,h8⟩:=hH k hlt
   have zc:w.cell? ⟨b,o+k,none⟩=some (.int .i64 (hN k:Nat)):=by have q:=hR.cell ⟨b,o,none⟩ rfl k hlt;rw [hz,Addr.add_lit] at q;exact q
   have zc:wr.cell? ⟨b,o+k,none⟩=some (.int .i64 (hN k:Nat)):=hl.wr.cell zc m2
   have c13:=hl.wr.cell hS m1
   have cq:=hl.r8.cell h8
   obtain ⟨sa,cp,hv⟩:=(hl.r8.row _ h8).form
   rw [List.length_map,show (rowK hN k (hN k)).length=cntH hN (hN k) k from List.length_replicate] at hv
   have hkI:(k:Int)<n:=by omega
   have hcI:(hN k:Int)<8:=by omega
   obtain ⟨m,hm⟩:∃ m,m=cntH hN (hN k) k:=⟨_,rfl⟩
   have hm64:m≤64:=by have:=cntH_le hN (hN k) k;omega
   rw [←hm] at hv
   rw [hv] at cq
   obtain ⟨Y,hY⟩:∃ Y,Y=wr.drew:=⟨_,rfl⟩
   have hlY:PlSt w tb n hN k vq Y:=by rw [hY];exact hl.after ((Wr.refl _ wr).drew)
   obtain ⟨hset,hsetW⟩:=place_set (m:=m) hlY.ctx hm
   have t1:Y.cell? ⟨tb,k*4,none⟩=some (.int .i64 (ndK hN k k:Nat)):=by rw [blk_cell hlY.ctx,List.getElem?_toArray];exact cxs_at n _ _ _ _ hlt (j:=0) (by decide)
   have t2:Y.cell? ⟨tb,k*4+1,none⟩=some (.int .i64 (owK hN k k:Nat)):=by rw [blk_cell hlY.ctx,List.getElem?_toArray];exact cxs_at n _ _ _ _ hlt (j:=1) (by decide)
   have t3:Y.cell? ⟨tb,k*4+2,none⟩=some (nxK k k):=by rw [blk_cell hlY.ctx,List.getElem?_toArray];exact cxs_at n _ _ _ _ hlt (j:=2) (by decide)
   have t4:Y.cell? ⟨tb,k*4+3,none⟩=some (.int .u32 0):=by rw [blk_cell hlY.ctx,List.getElem?_toArray];exact cxs_at n _ _ _ _ hlt (j:=3) (by decide)
   have z1:=blk_frozen hlY.ctx (k*4)
   have z2:=blk_frozen hlY.ctx (k*4+1)
   have z3:=blk_frozen hlY.ctx (k*4+2)
   have z4:=blk_frozen hlY.ctx (k*4+3)
   have hM:=hlY.mid hset hsetW
   obtain ⟨Y4,hY4⟩:∃ Y4,Y4=((((Y.setCell ⟨tb,k*4,none⟩ (.int .i64 (hN k:Nat))).setCell ⟨tb,k*4+1,none⟩ (.int .i64 (m:Nat))).setCell ⟨tb,k*4+2,none⟩ (.func (.func 123) #[] #[])).setCell ⟨tb,k*4+3,none⟩ (.int .u32 0)):=⟨_,rfl⟩
   rw [←hY4] at hM
   have cq4:=hM.r8.cell h8
   rw [hv] at cq4
   have HY:=Lib.hid hY
   have HY4:=Lib.hid hY4
   have HM:=Lib.hid (And.intro hM (And.intro h8 (And.intro hv hm)))
   clear hz hS hR hH hlY hY hset hsetW hM hl hY4 hm
   go_wp2
   go_still_tail 12,(by kernel_rfl)
   change wpList _ _ _ _ _ wr.drew
   rw [←HY.out]
   clear c13 cq zc
   go_step
   go_step
   rw [←HY4.out]
   clear t1 t2 t3 t4 z1 z2 z3 z4
   go_wp2_with (at_builtin;refine wpList_push rfl _ _ rfl (by rw [←HM.out.2.2.1];rfl) ((HM.out.1.after ((Wr.refl _ _).alloc _)).r8.row _ HM.out.2.1) ⟨Y4.heap.size,0,none⟩ (natV (hN k)) rfl (by rw [blk_cell (blk_alloc_new _ _)];rfl) (by simp [natV,Value.oneCell']) (by rw [List.length_map,show (rowK hN k (hN k)).length=cntH hN (hN k) k from List.length_replicate,←HM.out.2.2.2];omega) ?_;intro v' w6 hp;obtain ⟨sb,lb2,cb,hv'⟩:∃ sb lb2 cb,v'= .slice sb lb2 cb:=(by obtain ⟨sa,cp,e⟩:=hp.1.form;exact ⟨_,_,_,e⟩);subst hv';obtain ⟨q1,q2⟩:=(HM.out.1.after ((Wr.refl _ _).alloc _)).cellQ HM.out.2.1 hp;have HP:=Lib.hid ((HM.out.1.after ((Wr.refl _ _).alloc _)).placed HM.out.2.1 hp);clear hp)
   go_roundw
   case rel=>exact ⟨k+1,_,by omega,by go_num,HP.out⟩
   case measure=>simp [intOf];omega
  ·obtain rfl:k=n:=by omega
   have hq:=hl.r8
   obtain ⟨a0,l0,p0,e0⟩:∃ a l p,vq 0= .slice a l p:=by obtain ⟨a,p,e⟩:=(hq.row 0 (by decide)).form;exact ⟨_,_,_,e⟩
   obtain ⟨a1,l1,p1,e1⟩:∃ a l p,vq 1= .slice a l p:=by obtain ⟨a,p,e⟩:=(hq.row 1 (by decide)).form;exact ⟨_,_,_,e⟩
   obtain ⟨a2,l2,p2,e2⟩:∃ a l p,vq 2= .slice a l p:=by obtain ⟨a,p,e⟩:=(hq.row 2 (by decide)).form;exact ⟨_,_,_,e⟩
   obtain ⟨a3,l3,p3,e3⟩:∃ a l p,vq 3= .slice a l p:=by obtain ⟨a,p,e⟩:=(hq.row 3 (by decide)).form;exact ⟨_,_,_,e⟩
   obtain ⟨a4,l4,p4,e4⟩:∃ a l p,vq 4= .slice a l p:=by obtain ⟨a,p,e⟩:=(hq.row 4 (by decide)).form;exact ⟨_,_,_,e⟩
   obtain ⟨a5,l5,p5,e5⟩:∃ a l p,vq 5= .slice a l p:=by obtain ⟨a,p,e⟩:=(hq.row 5 (by decide)).form;exact ⟨_,_,_,e⟩
   obtain ⟨a6,l6,p6,e6⟩:∃ a l p,vq 6= .slice a l p:=by obtain ⟨a,p,e⟩:=(hq.row 6 (by decide)).form;exact ⟨_,_,_,e⟩
   obtain ⟨a7,l7,p7,e7⟩:∃ a l p,vq 7= .slice a l p:=by obtain ⟨a,p,e⟩:=(hq.row 7 (by decide)).form;exact ⟨_,_,_,e⟩
   have ea:arr8 vq= #[.slice a0 l0 p0,.slice a1 l1 p1,.slice a2 l2 p2,.slice a3 l3 p3,.slice a4 l4 p4,.slice a5 l5 p5,.slice a6 l6 p6,.slice a7 l7 p7]:=by rw [arr8_lit,e0,e1,e2,e3,e4,e5,e6,e7]
   have c0:=hq.cell (c:=0) (by decide)
   have c1:=hq.cell (c:=1) (by decide)
   have c2:=hq.cell (c:=2) (by decide)
   have c3:=hq.cell (c:=3) (by decide)
   have c4:=hq.cell (c:=4) (by decide)
   have c5:=hq.cell (c:=5) (by decide)
   have c6:=hq.cell (c:=6) (by decide)
   have c7:=hq.cell (c:=7) (by decide)
   rw [e0] at c0
   rw [e1] at c1
   rw [e2] at c2
   rw [e3] at c3
   rw [e4] at c4
   rw [e5] at c5
   rw [e6] at c6
   rw [e7] at c7
   have rr:=blk_cell hl.res
   have r0:=rr 0
   have r1:=rr 1
   have r2:=rr 2
   have r3:=rr 3
   have r4:=rr 4
   have r5:=rr 5
   have r6:=rr 6
   have r7:=rr 7
   have zz:=blk_frozen hl.res
   have HL:=Lib.hid (And.intro hl ea)
   clear hl ea hq e0 e1 e2 e3 e4 e5 e6 e7 rr
   go_wp2
   have hset:=set8 HL.out.1.res rfl (.slice a0 l0 p0) (.slice a1 l1 p1) (.slice a2 l2 p2) (.slice a3 l3 p3) (.slice a4 l4 p4) (.slice a5 l5 p5) (.slice a6 l6 p6) (.slice a7 l7 p7)
   refine bodyPost_ret (v:= .agg (arr8 vq)) (by rw [HL.out.2];exact results_cell_row rfl _ _ w.heap.size 254 _ (0,0) _ rfl hset underlying254 rfl i_rows) rfl ?_
   obtain ⟨hl,ea⟩:=HL.out
   have k8:=wrote8 wr w.heap.size (.slice a0 l0 p0) (.slice a1 l1 p1) (.slice a2 l2 p2) (.slice a3 l3 p3) (.slice a4 l4 p4) (.slice a5 l5 p5) (.slice a6 l6 p6) (.slice a7 l7 p7)
   have hlt2:=hl.lt
   refine ⟨vq,rfl,?_,λc hc=>⟨(hl.r8.row c hc).wrote k8 λj hj e=> ?_,λj hj=> ?_⟩,hl.wr.trans k8 λj hj e=>by unfold One at e;omega⟩
   ·rw [k8.block _ (blk_lt hl.ctx) (λe=>by unfold One at e;omega),hl.ctx,cxs_all λt ht=> ?_]
    unfold ndK owK nxK
    rw [if_pos ht,if_pos ht,if_pos ht]
    exact ⟨rfl,rfl,rfl⟩
   ·have:=(hl.r8.low c hc j hj).1
    unfold One at e
    omega
   ·have:=(hl.r8.low c hc j hj).1
    omega
open _root_.Go.Proofs.Tryz
def newInn (K:Int) (n:Nat) (ps:PSta):Inn:=if K=1 then newTk n ps else if K=3 then newCl n ps else newMc n ps
def inH (K:Int) (zs:List Int):List Int:=if K=1 then [zs.getD 0 0,zs.getD 0 0] else if K=3 then [zs.getD 0 0,zs.getD 0 0]++zs else [zs.getD 0 0]++Km.dbl zs
def inZ (K:Int) (n:Nat):Nat:=if K=1 then 2 else if K=3 then n+2 else 2*n+1
theorem inH_len {K:Int} {zs:List Int} {n:Nat} (h:zs.length=n):(inH K zs).length=inZ K n:=by
 unfold inH inZ
 split
 ·rfl
 split
 ·simp [h]
 ·rw [List.length_append,Km.dbl_len,h];simp;omega
theorem newInn_size (K:Int) (n:Nat) (ps:PSta):(newInn K n ps).size=inZ K n:=by
 unfold newInn inZ
 split
 ·rfl
 split<;>rfl
theorem newInn_s (K:Int) (n:Nat) (ps:PSta):(newInn K n ps).s=newSeat n false true:=by
 unfold newInn
 split
 ·rfl
 split<;>rfl
theorem newInn_on (K:Int) (n:Nat) (ps q:PSta):(newInn K n ps).on q=newInn K n q:=by
 unfold newInn
 split
 ·rfl
 split<;>rfl
theorem newInn_at {K:Int} {n o:Nat} {ps:PSta} (hn:n≤64) (hl:o+inZ K n≤ps.ws.length) (hz:∀ x∈ps.ws,x=0):(newInn K n ps).At o none []:=by
 unfold newInn
 unfold inZ at hl
 by_cases h1:K=1
 ·rw [if_pos h1] at hl ⊢;exact newTk_at hn hl hz
 ·rw [if_neg h1] at hl ⊢
  by_cases h3:K=3
  ·rw [if_pos h3] at hl ⊢;exact newCl_at hn hl hz
  ·rw [if_neg h3] at hl ⊢;exact newMc_at hn hl hz
theorem own_int {w:World} {base:Nat} {e:TypeId} {v:Value} {n:Nat} {xs:List Value} (h:w.ownsRow base e 1 v n xs) {k:Nat} (hk:v.ownBlock=some k):∃ cur,w.heap[k]? =some (.cells cur e (0,0)):=by
 obtain ⟨_,h⟩:=h
 rcases h with ⟨rfl,_⟩|⟨g,cap,cur,rfl,_,hg,_⟩
 ·cases hk
 ·have e:g=k:=by simpa [Value.ownBlock] using hk
  subst e
  exact ⟨cur,hg⟩
theorem PlanAt.off {w:World} {q:Pl} {t:Int} {hs vs:List Int} (h:PlanAt w q t hs vs) {b:Nat} {cs:Array Value} {ty:TypeId} (hb:w.heap[b]? =some (.cells cs ty (0,0))) (n1:ty≠3) (n2:ty≠23) (n3:ty≠129):¬ q.F b:=λe=>by
 rcases e with rfl|e|e
 ·rw [h.obj] at hb
  simp only [Option.some.injEq,Obj.cells.injEq] at hb
  exact n3 hb.2.1.symm
 ·obtain ⟨cur,hc⟩:=own_int h.rows.homes e
  rw [hc] at hb
  simp only [Option.some.injEq,Obj.cells.injEq] at hb
  exact n1 hb.2.1.symm
 ·obtain ⟨cur,hc⟩:=own_int h.rows.values e
  rw [hc] at hb
  simp only [Option.some.injEq,Obj.cells.injEq] at hb
  exact n2 hb.2.1.symm
theorem SeatAt.off {w:World} {q:Pl} {t:Int} {hs vs:List Int} (h:PlanAt w q t hs vs) {p b:Nat} {s:SS} (hS:SeatAt w p b s):¬ q.F p∧¬ q.F b:=
 ⟨h.off hS.obj (by decide) (by decide) (by decide),h.off hS.ctx (by decide) (by decide) (by decide)⟩
theorem InAt.off2 {w:World} {q:Pl} {t:Int} {hs vs:List Int} {I:Ip} {pv:Value} {x:Inn} (hI:InAt w I pv x) (h:PlanAt w q t hs vs):¬ q.F I.lb∧¬ q.F I.tb:=by
 have a:=hI.raw
 cases x with
 |tk f=>exact ⟨h.off (Kf.FlRaw.obj a) (by decide) (by decide) (by decide),h.off (Kf.FlRaw.tick a) (by decide) (by decide) (by decide)⟩
 |cl f=>exact ⟨h.off (Kc.FlRaw.obj a) (by decide) (by decide) (by decide),h.off (Kc.FlRaw.tick a) (by decide) (by decide) (by decide)⟩
 |mc f=>exact ⟨h.off (Km.FlRaw.obj a) (by decide) (by decide) (by decide),h.off (Km.FlRaw.tick a) (by decide) (by decide) (by decide)⟩
theorem InAt.wrote4 {w w':World} {I:Ip} {pv:Value} {x:Inn} {S:Nat→Prop} (h:InAt w I pv x) (k:Wr S w w') (h1:¬ S I.lb) (h2:¬ S I.p) (h3:¬ S I.b) (h4:¬ S I.tb):InAt w' I pv x:=by
 obtain ⟨a,b,c,d,e⟩:=h
 refine ⟨?_,b,Nat.le_trans c k.size,d,e⟩
 cases x with
 |tk f=>exact Kf.FlRaw.wrote a k h1 h2 h3 h4
 |cl f=>exact Kc.FlRaw.wrote a k h1 h2 h3 h4
 |mc f=>exact Km.FlRaw.wrote a k h1 h2 h3 h4
theorem InAt.plan {w w':World} {q:Pl} {t:Int} {hs vs:List Int} {I:Ip} {pv:Value} {x:Inn} (hI:InAt w I pv x) (h:PlanAt w q t hs vs) (k:Wr q.F w w'):InAt w' I pv x:=by
 obtain ⟨a,b⟩:=hI.off2 h
 obtain ⟨c,d⟩:=SeatAt.off h hI.seat
 exact hI.wrote4 k a c d b
def InnerPost (w:World) (q:Pl) (t:Int) (hs vs:List Int) (K:Int) (n:Nat) (zs:List Int) (e:Ending) (w':World):Prop:=
 ∃ (I:Ip) (q':Pl),e= .returned I.val∧(∀ ps,InAt w' I (.pointer none) (newInn K n ps))∧I.a=hs.length∧(w.heap.size≤I.lo∧I.hi≤w'.heap.size)∧q'.p=q.p∧PlanAt w' q' t (hs++inH K zs) (vs++List.replicate (inZ K n) 0)∧Wr q.F w w'∧Came w q.F q'.F
theorem fl_inner {w:World} {q:Pl} {t:Int} {hs vs:List Int} (h:PlanAt w q t hs vs) {K:Int} (hK:K=1∨K=3∨K=4) {b o n cap:Nat} {zs:List Int} (hr:RowAt .i64 w (some ⟨b,o,none⟩) n zs) (ho:homesOK zs=true) (n1:1≤n) (n2:n≤64) (hL:hs.length≤800000) (hb:¬ q.F b):
  Calls prog 110 #[.pointer (some ⟨q.p,0,none⟩),.int .i64 K,.slice (some ⟨b,o,none⟩) n cap] w (InnerPost w q t hs vs K n zs):=by
 rcases hK with rfl|rfl|rfl
 ·have c:=Kf.fn_new (cap:=cap) h hr ho n1 n2 (by omega) hb (v:=0) (by decide)
  have hsz:=h
  clear h hr ho
  go_enter func110,ntmps110
  go_wp2_with (go_at_call 57;(with_reducible refine c.mono ?_);intro e w2 hq;unfold Kf.NewFlatPost at hq;obtain ⟨L,q',rfl,h1,h2,h3,h4,h5,h6,h7,h8⟩:=hq;have HQ:=Lib.hid (And.intro h1 (And.intro h2 (And.intro h3 (And.intro h4 (And.intro h5 (And.intro h6 (And.intro h7 h8)))))));clear h1 h2 h3 h4 h5 h6 h7 h8)
  go_ret
  obtain ⟨h1,h2,h3,h4,h5,h6,h7,h8⟩:=HQ.out
  have l1:=blk_lt h1.obj
  have l2:=blk_lt h1.seat.obj
  have l3:=blk_lt h1.seat.ctx
  have l4:=blk_lt h1.tick
  obtain ⟨lb,p,b',tb,a1,a2,q0,hs0⟩:=L
  dsimp only at h2 h3 h4 l1 l2 l3 l4
  subst h3 h4
  refine ⟨⟨lb,p,b',tb,hs.length,131,w.heap.size,w2.heap.size⟩,q',rfl,λps=>⟨Kf.FlRaw.place h1 noPl [],⟨⟨h2.1,l1⟩,⟨h2.2.1,l2⟩,⟨h2.2.2.1,l3⟩,h2.2.2.2,l4⟩,Nat.le_refl _,rfl,rfl⟩,rfl,⟨Nat.le_refl _,Nat.le_refl _⟩,h5,?_,h7,h8⟩
  have e1:hs++inH 1 zs=hs++[zs.getD 0 0]++[zs.getD 0 0]:=by unfold inH;simp
  have e2:vs++List.replicate (inZ 1 n) 0=vs++[0]++[0]:=by unfold inZ;simp [List.replicate]
  rw [e1,e2]
  exact h6
 ·have c:=Kc.fn_new (cap:=cap) h hr ho n1 n2 (by omega) hb
  have hzl:=hr.len
  clear h hr ho
  go_enter func110,ntmps110
  go_wp2_with (go_at_call 59;(with_reducible refine c.mono ?_);intro e w2 hq;unfold Kc.NewClhPost at hq;obtain ⟨L,q',rfl,h1,h2,h3,h4,h5,h6,h7,h8⟩:=hq;have HQ:=Lib.hid (And.intro h1 (And.intro h2 (And.intro h3 (And.intro h4 (And.intro h5 (And.intro h6 (And.intro h7 h8)))))));clear h1 h2 h3 h4 h5 h6 h7 h8)
  go_ret
  obtain ⟨h1,h2,h3,h4,h5,h6,h7,h8⟩:=HQ.out
  have l1:=blk_lt h1.obj
  have l2:=blk_lt h1.seat.obj
  have l3:=blk_lt h1.seat.ctx
  have l4:=blk_lt h1.tick
  obtain ⟨lb,p,b',tb,a1,a2,q0,hs0⟩:=L
  dsimp only at h2 h3 h4 l1 l2 l3 l4
  subst h3 h4
  refine ⟨⟨lb,p,b',tb,hs.length,137,w.heap.size,w2.heap.size⟩,q',rfl,λps=>⟨Kc.FlRaw.place h1 noPl [],⟨⟨h2.1,l1⟩,⟨h2.2.1,l2⟩,⟨h2.2.2.1,l3⟩,h2.2.2.2,l4⟩,Nat.le_refl _,rfl,rfl⟩,rfl,⟨Nat.le_refl _,Nat.le_refl _⟩,h5,?_,h7,h8⟩
  have e1:hs++inH 3 zs=hs++[zs.getD 0 0]++[zs.getD 0 0]++zs:=by unfold inH;simp
  have e2:vs++List.replicate (inZ 3 n) 0=vs++[0]++[0]++List.replicate n 0:=by unfold inZ;simp [List.replicate]
  rw [e1,e2]
  exact h6
 ·have c:=Km.fn_new (cap:=cap) h hr ho n1 n2 (by omega) hb
  clear h hr ho
  go_enter func110,ntmps110
  go_wp2_with (go_at_call 60;(with_reducible refine c.mono ?_);intro e w2 hq;unfold Km.NewMcsPost at hq;obtain ⟨L,q',rfl,h1,h2,h3,h4,h5,h6,h7,h8⟩:=hq;have HQ:=Lib.hid (And.intro h1 (And.intro h2 (And.intro h3 (And.intro h4 (And.intro h5 (And.intro h6 (And.intro h7 h8)))))));clear h1 h2 h3 h4 h5 h6 h7 h8)
  go_ret
  obtain ⟨h1,h2,h3,h4,h5,h6,h7,h8⟩:=HQ.out
  have l1:=blk_lt h1.obj
  have l2:=blk_lt h1.seat.obj
  have l3:=blk_lt h1.seat.ctx
  have l4:=blk_lt h1.tick
  obtain ⟨lb,p,b',tb,a1,a2,q0,hs0⟩:=L
  dsimp only at h2 h3 h4 l1 l2 l3 l4
  subst h3 h4
  refine ⟨⟨lb,p,b',tb,hs.length,140,w.heap.size,w2.heap.size⟩,q',rfl,λps=>⟨Km.FlRaw.place h1 noPl [],⟨⟨h2.1,l1⟩,⟨h2.2.1,l2⟩,⟨h2.2.2.1,l3⟩,h2.2.2.2,l4⟩,Nat.le_refl _,rfl,rfl⟩,rfl,⟨Nat.le_refl _,Nat.le_refl _⟩,h5,?_,h7,h8⟩
  have e1:hs++inH 4 zs=hs++[zs.getD 0 0]++Km.dbl zs:=by unfold inH;simp
  have e2:vs++List.replicate (inZ 4 n) 0=vs++[0]++List.replicate (2*n) 0:=by unfold inZ;simp [List.replicate_succ]
  rw [e1,e2]
  exact h6
theorem row_two (W:World) (t:TypeId) {b:Nat} (hb:b=W.heap.size) (x y:Int):RowAt .i64 (W.alloc (.cells #[.int .i64 x,.int .i64 y] t)) (some ⟨b,0,none⟩) 2 [x,y]:=by
 subst hb
 refine ⟨rfl,λe=>(by cases e),λb hb j hj=> ?_⟩
 cases hb
 rw [Addr.add_lit,blk_cell (blk_alloc_new W _)]
 match j,hj with
 |0,_=>rfl
 |1,_=>rfl
theorem row_three (W:World) (t:TypeId) {b:Nat} (hb:b=W.heap.size) (x y z:Int):RowAt .i64 (W.alloc (.cells #[.int .i64 x,.int .i64 y,.int .i64 z] t)) (some ⟨b,0,none⟩) 3 [x,y,z]:=by
 subst hb
 refine ⟨rfl,λe=>(by cases e),λb hb j hj=> ?_⟩
 cases hb
 rw [Addr.add_lit,blk_cell (blk_alloc_new W _)]
 match j,hj with
 |0,_=>rfl
 |1,_=>rfl
 |2,_=>rfl
def rightB (G K B:Int):Bool:=decide (G∈[(1:Int),4])&&decide (K∈[(1:Int),3,4])&&decide (1≤B)&&decide (B≤1000)
theorem fl_right (G K B:Int) (w:World):Calls prog 92 #[.int .i64 G,.int .i64 K,.int .i64 B] w λe w'=>e= .returned (.bool (rightB G K B))∧Wr Nil w w':=by
 have c1:=λ(b:Nat) (hb:b=w.heap.size) (cap:Nat)=>cn_any (cap:=cap) (row_two w 3 hb 1 4) G (by decide)
 have hW1:Wr Nil w (w.alloc (.cells #[.int .i64 1,.int .i64 4] 3)):=(Wr.refl _ w).alloc _
 unfold rightB
 cases b1:decide (G∈[(1:Int),4])
 ·rw [b1] at c1
  go_enter func92,ntmps92
  go_wp2_with (go_at_call 83;(with_reducible refine (c1 _ rfl _).mono ?_);rintro e w' ⟨rfl,rfl⟩)
  go_ret
  exact ⟨rfl,hW1⟩
 ·rw [b1] at c1
  obtain ⟨X,hX⟩:∃ X,X=w.alloc (.cells #[.int .i64 1,.int .i64 4] 3):=⟨_,rfl⟩
  have c2:=λ(b:Nat) (hb:b=X.heap.size) (cap:Nat)=>cn_any (cap:=cap) (row_three X 3 hb 1 3 4) K (by decide)
  have hW2:Wr Nil w (X.alloc (.cells #[.int .i64 1,.int .i64 3,.int .i64 4] 3)):=by rw [hX];exact hW1.alloc _
  have hXs:w.heap.size+1=X.heap.size:=by rw [hX];exact (nblk_alloc _ _).symm
  rw [hX] at c2 hW2 hXs
  have c2:=c2 _ hXs
  have HW2:=Lib.hid hW2
  clear hX hXs hW2 hW1
  cases b2:decide (K∈[(1:Int),3,4])
  ·rw [b2] at c2
   go_enter func92,ntmps92
   go_wp2_with (first
    |(go_at_call 83;(with_reducible refine (c1 _ rfl _).mono ?_);rintro e w' ⟨rfl,rfl⟩)
    |(go_at_call 83;(with_reducible refine (c2 _).mono ?_);rintro e w' ⟨rfl,rfl⟩))
   go_ret
   exact ⟨rfl,HW2.out⟩
  ·rw [b2] at c2
   by_cases h1:1≤B
   ·rw [decide_eq_true h1]
    go_enter func92,ntmps92
    go_wp2_with (first
     |(go_at_call 83;(with_reducible refine (c1 _ rfl _).mono ?_);rintro e w' ⟨rfl,rfl⟩)
     |(go_at_call 83;(with_reducible refine (c2 _).mono ?_);rintro e w' ⟨rfl,rfl⟩))
    go_ret
    exact ⟨rfl,HW2.out⟩
   ·rw [decide_eq_false h1]
    go_enter func92,ntmps92
    go_wp2_with (first
     |(go_at_call 83;(with_reducible refine (c1 _ rfl _).mono ?_);rintro e w' ⟨rfl,rfl⟩)
     |(go_at_call 83;(with_reducible refine (c2 _).mono ?_);rintro e w' ⟨rfl,rfl⟩))
    go_ret
    exact ⟨rfl,HW2.out⟩
end Go.Proofs.YtcikfcplagelaaaGreat

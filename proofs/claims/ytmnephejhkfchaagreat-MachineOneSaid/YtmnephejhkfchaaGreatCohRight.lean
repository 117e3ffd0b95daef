
import Derived.Test.YtmnephejhkfchaaGreatRow8
import Derived.Test.YtmnephejhkfchaaGreatSizeIn
namespace Go.Proofs.YtmnephejhkfchaaGreat
set_option maxHeartbeats 8000000
open _root_.Go.Proofs.Tryz Go.Deep
open Go.RowKit Go.BigFrame
set_option linter.unusedVariables false
set_option maxRecDepth 100000
def Ao (hN:Nat->Nat) (c:Nat):Nat->Nat
 |0=>0
 |k+1=>Ao hN c k+(if hN k=c then 1 else 0)
theorem GX (hN:Nat->Nat) (c k:Nat):Ao hN c k<=k:=by
 induction k with
 |zero=>exact Nat.le_refl 0
 |succ k ih=>unfold Ao;split<;>omega
theorem Pm (hN:Nat->Nat) (c:Nat) {j k:Nat} (h:j<=k):Ao hN c j<=Ao hN c k:=by
 induction h with
 |refl=>exact Nat.le_refl _
 |step _ ih=>exact Nat.le_trans ih (by show _<=Ao hN c _+_;omega)
theorem Kz (hN:Nat->Nat) {j k:Nat} (h:j<k):Ao hN (hN j) j<Ao hN (hN j) k:=by
 have h1:Ao hN (hN j) (j+1)=Ao hN (hN j) j+1:=by show Ao hN (hN j) j+(if hN j=hN j then 1 else 0)=_;rw [Qj rfl]
 have:=Pm hN (hN j) (show j+1<=k from h);omega
theorem Ry (hN:Nat->Nat) {t u:Nat} (e:hN t=hN u) (h:Ao hN (hN t) t=Ao hN (hN u) u):t=u:=by
 rcases Nat.lt_trichotomy t u with q|q|q
 ·have:=Kz hN q;rw [e] at this h;omega
 ·exact q
 ·have:=Kz hN q;rw [<-e] at this h;omega
theorem M_ (hN:Nat->Nat) (c n:Nat):0<Ao hN c n↔∃ t,t<n/\hN t=c:=by
 induction n with
 |zero=>simp [Ao]
 |succ n ih=>
  unfold Ao;constructor
  ·intro h
   by_cases q:hN n=c
   ·exact ⟨n,by omega,q⟩
   ·rw [Qq q] at h
    obtain ⟨t,a,b⟩:=ih.1 (by omega);exact ⟨t,by omega,b⟩
  ·rintro ⟨t,a,b⟩
   by_cases q:t=n
   ·subst q;rw [Qj b];omega
   ·have:=ih.2 ⟨t,by omega,b⟩
    omega
def Vy (hN:Nat->Nat) (k t:Nat):Nat:=if t<k then hN t else 0
def WH (hN:Nat->Nat) (k t:Nat):Nat:=if t<k then Ao hN (hN t) t else 0
def W_ (k t:Nat):Value:=if t<k then .func (.func 80) #[] #[] else .nilFunc
theorem jG {α:Type} (g:Nat->α) (z:α) (k:Nat):upd (λt=>if t<k then g t else z) k (g k)=λt=>if t<k+1 then g t else z:=by
 funext t
 by_cases e:t=k
 ·subst e;rw [upd_same,Qj (by omega)]
 ·rw [A0 _ _ e]
  by_cases q:t<k
  ·rw [Qj q,Qj (by omega)]
  ·rw [Qq q,Qq (by omega)]
theorem S6 (n:Nat) (nd own:Nat->Nat) (nx:Nat->Value) (got:Nat->Int) (k a b:Nat) (v:Value) (x:Int):
  ((((Ga n nd own nx got).set (k*4) (.int .i64 (a:Nat))).set (k*4+1) (.int .i64 (b:Nat))).set (k*4+2) v).set (k*4+3) (.int .u32 x)=Ga n (upd nd k a) (upd own k b) (upd nx k v) (upd got k x):=by
 have e0:(Ga n nd own nx got).set (k*4) (.int .i64 (a:Nat))=Ga n (upd nd k a) own nx got:=by
  refine Bi (Dz nd own nx got) (Dz _ _ _ _) _ k 0 (by decide) _ λi t ht l hl=> ?_;exact zz1o
 have e1:(Ga n (upd nd k a) own nx got).set (k*4+1) (.int .i64 (b:Nat))=Ga n (upd nd k a) (upd own k b) nx got:=by
  refine Bi (Dz (upd nd k a) own nx got) (Dz _ _ _ _) _ k 1 (by decide) _ λi t ht l hl=> ?_;exact zz1o
 rw [e0,e1,MA,MB]
def Ew (hN:Nat->Nat) (k c:Nat):List Nat:=List.replicate (Ao hN c k) c
theorem R6 (hN:Nat->Nat) (k:Nat):Ew hN (k+1) (hN k)=Ew hN k (hN k)++[hN k]:=by
 unfold Ew;rw [show Ao hN (hN k) (k+1)=Ao hN (hN k) k+1 from by show _+(if hN k=hN k then 1 else 0)=_;rw [Qj rfl],List.replicate_succ']
theorem O1 (hN:Nat->Nat) (k:Nat) {c:Nat} (h:c≠hN k):Ew hN (k+1) c=Ew hN k c:=by
 unfold Ew;rw [show Ao hN c (k+1)=Ao hN c k from by show _+(if hN k=c then 1 else 0)=_;rw [Qq λe=>h e.symm,Nat.add_zero]]
structure PlSt (w:World) (tb n:Nat) (hN:Nat->Nat) (k:Nat) (vq:Nat->Value) (Y:World):Prop where
 ctx:Y.heap[tb]? =some (.cells (Ga n (Vy hN k) (WH hN k) (W_ k) (λ_=>0)).toArray 192 (0,0))
 r8:R8 Y (w.heap.size+1) (w.heap.size+1) vq (Ew hN k)
 wr:Wr (One tb) w Y
 lt:tb<w.heap.size
 res:Y.heap[w.heap.size]? =some (.cells #[.slice none 0 0,.slice none 0 0,.slice none 0 0,.slice none 0 0,.slice none 0 0,.slice none 0 0,.slice none 0 0,.slice none 0 0] 173 (0,0))
 size:w.heap.size+1<=Y.heap.size
def Iy (w:World) (tb n:Nat) (hN:Nat->Nat) (e:Ending) (w':World):Prop:=
 ∃ vq:Nat->Value,e= .returned (.agg (GR vq))/\w'.heap[tb]? =some (.cells (Ga n hN (λt=>Ao hN (hN t) t) (λ_=> .func (.func 80) #[] #[]) (λ_=>0)).toArray 192 (0,0))/\
  (∀ c,c<8->RowQ w' (vq c) ((Ew hN n c).map Fm)/\∀ j,(vq c).ownBlock=some j->w.heap.size<=j)/\Wr (One tb) w w'
theorem Ut {n:Nat} {nd LY own bK:Nat->Nat} {nx nx':Nat->Value} {got:Nat->Int} (h:∀ t,t<n->nd t=LY t/\own t=bK t/\nx t=nx' t):Ga n nd own nx got=Ga n LY bK nx' got:=by
 unfold Ga;rw [List.flatMap_def,List.flatMap_def]
 congr 1
 refine List.map_congr_left λt ht=> ?_;obtain ⟨a,b,c⟩:=h t (by simpa using ht);unfold Og;rw [a,b,c]
theorem NR {w:World} {tb k:Nat} {l:List Value} {ty:TypeId} (h:w.heap[tb]? =some (.cells l.toArray ty (0,0))) (x0 x1 x2 x3:Value):
  ((((w.setCell ⟨tb,k*4,none⟩ x0).setCell ⟨tb,k*4+1,none⟩ x1).setCell ⟨tb,k*4+2,none⟩ x2).setCell ⟨tb,k*4+3,none⟩ x3).heap[tb]? =some (.cells ((((l.set (k*4) x0).set (k*4+1) x1).set (k*4+2) x2).set (k*4+3) x3).toArray ty (0,0))/\
  Wr (One tb) w ((((w.setCell ⟨tb,k*4,none⟩ x0).setCell ⟨tb,k*4+1,none⟩ x1).setCell ⟨tb,k*4+2,none⟩ x2).setCell ⟨tb,k*4+3,none⟩ x3):=by
 constructor
 ·rw [A3 (A3 (A3 (A3 h _ _) _ _) _ _) _ _,List.setIfInBounds_toArray,List.setIfInBounds_toArray,List.setIfInBounds_toArray,List.setIfInBounds_toArray]
 ·exact ((((Wr.refl (One tb) w).setCell ⟨tb,k*4,none⟩ x0 λ_=>rfl).setCell ⟨tb,k*4+1,none⟩ x1 λ_=>rfl).setCell ⟨tb,k*4+2,none⟩ x2 λ_=>rfl).setCell ⟨tb,k*4+3,none⟩ x3 λ_=>rfl
structure IH (w:World) (tb n:Nat) (hN:Nat->Nat) (k:Nat) (vq:Nat->Value) (Y:World):Prop where
 ctx:Y.heap[tb]? =some (.cells (Ga n (Vy hN (k+1)) (WH hN (k+1)) (W_ (k+1)) (λ_=>0)).toArray 192 (0,0))
 r8:R8 Y (w.heap.size+1) (w.heap.size+1) vq (Ew hN k)
 wr:Wr (One tb) w Y
 lt:tb<w.heap.size
 res:Y.heap[w.heap.size]? =some (.cells #[.slice none 0 0,.slice none 0 0,.slice none 0 0,.slice none 0 0,.slice none 0 0,.slice none 0 0,.slice none 0 0,.slice none 0 0] 173 (0,0))
 size:w.heap.size+1<=Y.heap.size
theorem IH.after {w X Y:World} {tb n k:Nat} {hN:Nat->Nat} {vq:Nat->Value} (h:IH w tb n hN k vq X) (q:Wr Nil X Y):IH w tb n hN k vq Y:=
 ⟨(q.block _ (A2 h.ctx) id).trans h.ctx,h.r8.after q,h.wr.trans q λ_ _ e=>e.elim,h.lt,(q.block _ (A2 h.res) id).trans h.res,Nat.le_trans h.size q.size⟩
namespace PlSt
variable {w X Y:World} {tb n k:Nat} {hN:Nat->Nat} {vq:Nat->Value}
theorem after (h:PlSt w tb n hN k vq X) (q:Wr Nil X Y):PlSt w tb n hN k vq Y:=
 ⟨(q.block _ (A2 h.ctx) id).trans h.ctx,h.r8.after q,h.wr.trans q λ_ _ e=>e.elim,h.lt,(q.block _ (A2 h.res) id).trans h.res,Nat.le_trans h.size q.size⟩
theorem mid (h:PlSt w tb n hN k vq X) (hc:Y.heap[tb]? =some (.cells (Ga n (Vy hN (k+1)) (WH hN (k+1)) (W_ (k+1)) (λ_=>0)).toArray 192 (0,0))) (q:Wr (One tb) X Y):IH w tb n hN k vq Y:=by
 have hlt:=h.lt;refine ⟨hc,h.r8.beside q (by omega) λc hc e=> ?_,h.wr.trans q λ_ _ e=>e,h.lt,(q.block _ (A2 h.res) λe=>by unfold One at e;omega).trans h.res,Nat.le_trans h.size q.size⟩;have:=(h.r8.low c hc tb e).1;omega
end PlSt
theorem IH.YF {w X Y:World} {tb n k:Nat} {hN:Nat->Nat} {vq:Nat->Value} (h:IH w tb n hN k vq X) (h8:hN k<8) {v':Value} (hp:J0 X Y (vq (hN k)) v' ((Ew hN k (hN k)).map Fm) (Fm (hN k))):
  PlSt w tb n hN (k+1) (upd vq (hN k) v') (Y.setCell ⟨w.heap.size+1,hN k,none⟩ v'):=by
 obtain ⟨a,b⟩:=h.r8.push h.size h8 hp (q':=Ew hN (k+1)) (R6 hN k) λd hd=>O1 hN k hd;have hlt:=h.lt;have hsz:=h.size;refine ⟨(b.block _ (by omega) (by omega)).trans h.ctx,a,h.wr.trans b λj hj e=>by omega,h.lt,(b.block _ (by omega) (by omega)).trans h.res,Nat.le_trans h.size b.size⟩
theorem IH.ZQ {w X Y:World} {tb n k:Nat} {hN:Nat->Nat} {vq:Nat->Value} (h:IH w tb n hN k vq X) (h8:hN k<8) {v':Value} (hp:J0 X Y (vq (hN k)) v' ((Ew hN k (hN k)).map Fm) (Fm (hN k))):
  Y.cell? ⟨w.heap.size+1,hN k,none⟩=some (vq (hN k))/\Y.frozen? ⟨w.heap.size+1,hN k,none⟩=false:=by
 have harr:Y.heap[w.heap.size+1]? =some (.cells (GR vq) 173 (0,0)):=(hp.2.1.block _ (A2 h.r8.arr) λe=>(h.r8.low _ h8 _ e).2 rfl).trans h.r8.arr;exact ⟨(A1 harr _).trans (OX vq h8),A4 harr _⟩
theorem Qr {w:World} {tb n k:Nat} {hN:Nat->Nat} (h:w.heap[tb]? =some (.cells (Ga n (Vy hN k) (WH hN k) (W_ k) (λ_=>0)).toArray 192 (0,0))) {m:Nat} (hm:m=Ao hN (hN k) k):
  ((((w.setCell ⟨tb,k*4,none⟩ (.int .i64 (hN k:Nat))).setCell ⟨tb,k*4+1,none⟩ (.int .i64 (m:Nat))).setCell ⟨tb,k*4+2,none⟩ (.func (.func 80) #[] #[])).setCell ⟨tb,k*4+3,none⟩ (.int .u32 0)).heap[tb]? =some (.cells (Ga n (Vy hN (k+1)) (WH hN (k+1)) (W_ (k+1)) (λ_=>0)).toArray 192 (0,0))/\
  Wr (One tb) w ((((w.setCell ⟨tb,k*4,none⟩ (.int .i64 (hN k:Nat))).setCell ⟨tb,k*4+1,none⟩ (.int .i64 (m:Nat))).setCell ⟨tb,k*4+2,none⟩ (.func (.func 80) #[] #[])).setCell ⟨tb,k*4+3,none⟩ (.int .u32 0)):=by
 obtain ⟨a,b⟩:=NR (k:=k) h (.int .i64 (hN k:Nat)) (.int .i64 (m:Nat)) (.func (.func 80) #[] #[]) (.int .u32 0);refine ⟨?_,b⟩;rw [a,S6,hm];have e1:upd (Vy hN k) k (hN k)=Vy hN (k+1):=jG hN 0 k;have e2:upd (WH hN k) k (Ao hN (hN k) k)=WH hN (k+1):=jG (λt=>Ao hN (hN t) t) 0 k;have e3:upd (W_ k) k (.func (.func 80) #[] #[])=W_ (k+1):=jG (λ_=>(.func (.func 80) #[] #[]:Value)) Value.nilFunc k;have e4:upd (λ_:Nat=>(0:Int)) k 0=λ_=>0:=by funext j;unfold upd;split<;>rfl
 rw [e1,e2,e3,e4]
theorem M5 (vq:Nat->Value):GR vq= #[vq 0,vq 1,vq 2,vq 3,vq 4,vq 5,vq 6,vq 7]:=rfl
theorem iw {Y:World} {B:Nat} {t:TypeId} {cs:Array Value} (h:Y.heap[B]? =some (.cells cs t (0,0))) (h8:cs.size=8) (x0 x1 x2 x3 x4 x5 x6 x7:Value):
  ((((((((Y.setCell ⟨B,0,none⟩ x0).setCell ⟨B,1,none⟩ x1).setCell ⟨B,2,none⟩ x2).setCell ⟨B,3,none⟩ x3).setCell ⟨B,4,none⟩ x4).setCell ⟨B,5,none⟩ x5).setCell ⟨B,6,none⟩ x6).setCell ⟨B,7,none⟩ x7).heap[B]? =some (.cells #[x0,x1,x2,x3,x4,x5,x6,x7] t (0,0)):=by
 rw [A3 (A3 (A3 (A3 (A3 (A3 (A3 (A3 h 0 x0) 1 x1) 2 x2) 3 x3) 4 x4) 5 x5) 6 x6) 7 x7];obtain ⟨l⟩:=cs
 match l,h8 with
 |[a,b,c,d,e,f,g,h],_=>rfl
theorem Yn (Y:World) (B:Nat) (x0 x1 x2 x3 x4 x5 x6 x7:Value):Wr (One B) Y ((((((((Y.setCell ⟨B,0,none⟩ x0).setCell ⟨B,1,none⟩ x1).setCell ⟨B,2,none⟩ x2).setCell ⟨B,3,none⟩ x3).setCell ⟨B,4,none⟩ x4).setCell ⟨B,5,none⟩ x5).setCell ⟨B,6,none⟩ x6).setCell ⟨B,7,none⟩ x7):=
 ((((((((Wr.refl (One B) Y).setCell ⟨B,0,none⟩ x0 λ_=>rfl).setCell ⟨B,1,none⟩ x1 λ_=>rfl).setCell ⟨B,2,none⟩ x2 λ_=>rfl).setCell ⟨B,3,none⟩ x3 λ_=>rfl).setCell ⟨B,4,none⟩ x4 λ_=>rfl).setCell ⟨B,5,none⟩ x5 λ_=>rfl).setCell ⟨B,6,none⟩ x6 λ_=>rfl).setCell ⟨B,7,none⟩ x7 λ_=>rfl
theorem Xo:(prog.info? 173).map (·.size)=some 8:=by kernel_rfl
theorem Q6 {w:World} {lb tb b o n cap:Nat} {zs:List Int} {hN:Nat->Nat} (hS:w.cell? ⟨lb,13,none⟩=some (.slice (some ⟨tb,0,none⟩) n n)) (hT:w.heap[tb]? =some (.cells (Ga n (λ_=>0) (λ_=>0) (λ_=> .nilFunc) (λ_=>0)).toArray 192 (0,0)))
  (hR:Ad .i64 w (some ⟨b,o,none⟩) n zs) (hH:∀ t,t<n->zs.getD t 0=(hN t:Nat)/\hN t<8) (Y7:n<=64) (n1:lb≠tb) (n2:b≠tb):
  Calls prog 76 #[.pointer (some ⟨lb,0,none⟩),.slice (some ⟨b,o,none⟩) n cap] w (Iy w tb n hN):=by
 have hs0:PlSt w tb n hN 0 (λ_=> .slice none 0 0) ((w.alloc (.cells #[.slice none 0 0,.slice none 0 0,.slice none 0 0,.slice none 0 0,.slice none 0 0,.slice none 0 0,.slice none 0 0,.slice none 0 0] 173)).alloc (.cells #[.slice none 0 0,.slice none 0 0,.slice none 0 0,.slice none 0 0,.slice none 0 0,.slice none 0 0,.slice none 0 0,.slice none 0 0] 173)):=by
  have e1:(w.alloc (.cells #[.slice none 0 0,.slice none 0 0,.slice none 0 0,.slice none 0 0,.slice none 0 0,.slice none 0 0,.slice none 0 0,.slice none 0 0] 173)).heap.size=w.heap.size+1:=nblk_alloc _ _;have k:Wr Nil w ((w.alloc (.cells #[.slice none 0 0,.slice none 0 0,.slice none 0 0,.slice none 0 0,.slice none 0 0,.slice none 0 0,.slice none 0 0,.slice none 0 0] 173)).alloc (.cells #[.slice none 0 0,.slice none 0 0,.slice none 0 0,.slice none 0 0,.slice none 0 0,.slice none 0 0,.slice none 0 0,.slice none 0 0] 173)):=((Wr.refl _ w).alloc _).alloc _;have ht:=A2 hT;refine ⟨(k.block _ ht id).trans ?_,?_,k.mono λ_ _ e=>e.elim,ht,?_,?_⟩
  ·rw [hT]
   congr 3
  ·have e:Ew hN 0=λ_=>[]:=rfl
   rw [e];exact R8.start (w:=w) (by rw [<-e1,blk_alloc_new];rfl) (Nat.le_refl _)
  ·rw [blk_alloc_lt _ _ _ (by rw [e1];omega),blk_alloc_new]
  ·rw [nblk_alloc,e1];omega
 have HE:=Qw (Qz hS (Qz hR (Qz hH (Qz n1 (Qz n2 (A2 hT))))));have HS:=Qw hs0;clear hS hT hR hH n1 n2 hs0
 go_in
 go_wp2;go_loopw [6,7,10] (λ_ _ i wr=>∃ (k:Nat) (vq:Nat->Value),k<=n/\i= .int .i64 k/\PlSt w tb n hN k vq wr) (λ_ _ i _=>n-(intOf i).toNat)
 case atStart=>exact ⟨0,_,Nat.zero_le _,rfl,HS.out⟩
 case round=>
  clear HS;obtain ⟨k,vq,hk,rfl,hl⟩:=hrel;by_cases hlt:k<n
  ·obtain ⟨hS,hR,hH,m1,m2,fw⟩:=HE.out
   obtain ⟨hz,h8⟩:=hH k hlt;have zc:w.cell? ⟨b,o+k,none⟩=some (.int .i64 (hN k:Nat)):=by have q:=hR.cell ⟨b,o,none⟩ rfl k hlt;rw [hz,Addr.add_lit] at q;exact q
   have zc:wr.cell? ⟨b,o+k,none⟩=some (.int .i64 (hN k:Nat)):=hl.wr.cell zc m2;have c13:=hl.wr.cell hS m1;have cq:=hl.r8.cell h8;obtain ⟨sa,cp,hv⟩:=(hl.r8.row _ h8).form;rw [List.length_map,show (Ew hN k (hN k)).length=Ao hN (hN k) k from List.length_replicate] at hv;have Cy:(k:Int)<n:=by omega
   have jq:(hN k:Int)<8:=by omega
   obtain ⟨m,hm⟩:∃ m,m=Ao hN (hN k) k:=⟨_,rfl⟩
   have m6:m<=64:=by have:=GX hN (hN k) k;omega
   rw [<-hm] at hv;rw [hv] at cq;obtain ⟨Y,hY⟩:∃ Y,Y=wr.drew:=⟨_,rfl⟩
   have MO:PlSt w tb n hN k vq Y:=by rw [hY];exact hl.after ((Wr.refl _ wr).drew)
   obtain ⟨VX,X4⟩:=Qr (m:=m) MO.ctx hm;have t1:Y.cell? ⟨tb,k*4,none⟩=some (.int .i64 (Vy hN k k:Nat)):=by rw [A1 MO.ctx,List.getElem?_toArray];exact FI n _ _ _ _ hlt (j:=0) (by decide)
   have t2:Y.cell? ⟨tb,k*4+1,none⟩=some (.int .i64 (WH hN k k:Nat)):=by rw [A1 MO.ctx,List.getElem?_toArray];exact FI n _ _ _ _ hlt (j:=1) (by decide)
   have t3:Y.cell? ⟨tb,k*4+2,none⟩=some (W_ k k):=by rw [A1 MO.ctx,List.getElem?_toArray];exact FI n _ _ _ _ hlt (j:=2) (by decide)
   have t4:Y.cell? ⟨tb,k*4+3,none⟩=some (.int .u32 0):=by rw [A1 MO.ctx,List.getElem?_toArray];exact FI n _ _ _ _ hlt (j:=3) (by decide)
   have z1:=A4 MO.ctx (k*4);have z2:=A4 MO.ctx (k*4+1);have z3:=A4 MO.ctx (k*4+2);have z4:=A4 MO.ctx (k*4+3);have hM:=MO.mid VX X4;obtain ⟨Y4,fk⟩:∃ Y4,Y4=((((Y.setCell ⟨tb,k*4,none⟩ (.int .i64 (hN k:Nat))).setCell ⟨tb,k*4+1,none⟩ (.int .i64 (m:Nat))).setCell ⟨tb,k*4+2,none⟩ (.func (.func 80) #[] #[])).setCell ⟨tb,k*4+3,none⟩ (.int .u32 0)):=⟨_,rfl⟩
   rw [<-fk] at hM;have lO:=hM.r8.cell h8;rw [hv] at lO;have HY:=Qw hY;have l9:=Qw fk;have HM:=Qw (Qz hM (Qz h8 (Qz hv hm)));clear hz hS hR hH MO hY VX X4 hM hl fk hm;go_wp2
   go_still_tail 12,(by kernel_rfl)
   change wpList _ _ _ _ _ wr.drew;rw [<-HY.out];clear c13 cq zc
   go_step
   go_step
   rw [<-l9.out];clear t1 t2 t3 t4 z1 z2 z3 z4;go_wp2_with (at_builtin;refine IY rfl _ _ rfl (by rw [<-HM.out.2.2.1];rfl) ((HM.out.1.after ((Wr.refl _ _).alloc _)).r8.row _ HM.out.2.1) ⟨Y4.heap.size,0,none⟩ (Fm (hN k)) rfl (by rw [A1 (blk_alloc_new _ _)];rfl) (by simp [Fm,Value.oneCell']) (by rw [List.length_map,show (Ew hN k (hN k)).length=Ao hN (hN k) k from List.length_replicate,<-HM.out.2.2.2];omega) ?_;intro v' w6 hp;obtain ⟨sb,kO,cb,hv'⟩:∃ sb kO cb,v'= .slice sb kO cb:=(by obtain ⟨sa,cp,e⟩:=hp.1.form;exact ⟨_,_,_,e⟩);subst hv';obtain ⟨q1,q2⟩:=(HM.out.1.after ((Wr.refl _ _).alloc _)).ZQ HM.out.2.1 hp;have HP:=Qw ((HM.out.1.after ((Wr.refl _ _).alloc _)).YF HM.out.2.1 hp);clear hp)
   go_roundw
   case rel=>exact ⟨k+1,_,by omega,by go_num,HP.out⟩
   case measure=>simp [intOf];omega
  ·obtain rfl:k=n:=by omega
   have hq:=hl.r8;obtain ⟨a0,l0,p0,e0⟩:∃ a l p,vq 0= .slice a l p:=by obtain ⟨a,p,e⟩:=(hq.row 0 (by decide)).form;exact ⟨_,_,_,e⟩
   obtain ⟨a1,l1,p1,e1⟩:∃ a l p,vq 1= .slice a l p:=by obtain ⟨a,p,e⟩:=(hq.row 1 (by decide)).form;exact ⟨_,_,_,e⟩
   obtain ⟨a2,l2,p2,e2⟩:∃ a l p,vq 2= .slice a l p:=by obtain ⟨a,p,e⟩:=(hq.row 2 (by decide)).form;exact ⟨_,_,_,e⟩
   obtain ⟨a3,l3,p3,e3⟩:∃ a l p,vq 3= .slice a l p:=by obtain ⟨a,p,e⟩:=(hq.row 3 (by decide)).form;exact ⟨_,_,_,e⟩
   obtain ⟨a4,l4,p4,e4⟩:∃ a l p,vq 4= .slice a l p:=by obtain ⟨a,p,e⟩:=(hq.row 4 (by decide)).form;exact ⟨_,_,_,e⟩
   obtain ⟨a5,l5,p5,e5⟩:∃ a l p,vq 5= .slice a l p:=by obtain ⟨a,p,e⟩:=(hq.row 5 (by decide)).form;exact ⟨_,_,_,e⟩
   obtain ⟨a6,l6,p6,e6⟩:∃ a l p,vq 6= .slice a l p:=by obtain ⟨a,p,e⟩:=(hq.row 6 (by decide)).form;exact ⟨_,_,_,e⟩
   obtain ⟨a7,l7,p7,e7⟩:∃ a l p,vq 7= .slice a l p:=by obtain ⟨a,p,e⟩:=(hq.row 7 (by decide)).form;exact ⟨_,_,_,e⟩
   have ea:GR vq= #[.slice a0 l0 p0,.slice a1 l1 p1,.slice a2 l2 p2,.slice a3 l3 p3,.slice a4 l4 p4,.slice a5 l5 p5,.slice a6 l6 p6,.slice a7 l7 p7]:=by rw [M5,e0,e1,e2,e3,e4,e5,e6,e7]
   have c0:=hq.cell (c:=0) (by decide);have c1:=hq.cell (c:=1) (by decide);have c2:=hq.cell (c:=2) (by decide);have c3:=hq.cell (c:=3) (by decide);have c4:=hq.cell (c:=4) (by decide);have c5:=hq.cell (c:=5) (by decide);have c6:=hq.cell (c:=6) (by decide);have c7:=hq.cell (c:=7) (by decide);rw [e0] at c0;rw [e1] at c1;rw [e2] at c2;rw [e3] at c3;rw [e4] at c4;rw [e5] at c5;rw [e6] at c6;rw [e7] at c7;have rr:=A1 hl.res;have r0:=rr 0;have r1:=rr 1;have r2:=rr 2;have r3:=rr 3;have r4:=rr 4;have r5:=rr 5;have r6:=rr 6;have r7:=rr 7;have zz:=A4 hl.res;have HL:=Qw (Qz hl ea);clear hl ea hq e0 e1 e2 e3 e4 e5 e6 e7 rr;go_wp2;have VX:=iw HL.out.1.res rfl (.slice a0 l0 p0) (.slice a1 l1 p1) (.slice a2 l2 p2) (.slice a3 l3 p3) (.slice a4 l4 p4) (.slice a5 l5 p5) (.slice a6 l6 p6) (.slice a7 l7 p7);refine bodyPost_ret (v:= .agg (GR vq)) (by rw [HL.out.2];exact results_cell_row rfl _ _ w.heap.size 173 _ (0,0) _ rfl VX underlying173 rfl Xo) rfl ?_;obtain ⟨hl,ea⟩:=HL.out;have k8:=Yn wr w.heap.size (.slice a0 l0 p0) (.slice a1 l1 p1) (.slice a2 l2 p2) (.slice a3 l3 p3) (.slice a4 l4 p4) (.slice a5 l5 p5) (.slice a6 l6 p6) (.slice a7 l7 p7);have Xl:=hl.lt;refine ⟨vq,rfl,?_,λc hc=>⟨(hl.r8.row c hc).wrote k8 λj hj e=> ?_,λj hj=> ?_⟩,hl.wr.trans k8 λj hj e=>by unfold One at e;omega⟩
   ·rw [k8.block _ (A2 hl.ctx) (λe=>by unfold One at e;omega),hl.ctx,Ut λt ht=> ?_]
    unfold Vy WH W_;rw [Qj ht,Qj ht,Qj ht];exact ⟨rfl,rfl,rfl⟩
   ·have:=(hl.r8.low c hc j hj).1
    unfold One at e;omega
   ·have:=(hl.r8.low c hc j hj).1
    omega
open _root_.Go.Proofs.Tryz
def Cc (K:Int) (n:Nat) (ps:AK):Inn:=if K=1 then XF n ps else if K=3 then XD n ps else XE n ps
def MT (K:Int) (zs:List Int):List Int:=if K=1 then [zs.getD 0 0,zs.getD 0 0] else if K=3 then [zs.getD 0 0,zs.getD 0 0]++zs else [zs.getD 0 0]++Km.MC zs
def Fz (K:Int) (n:Nat):Nat:=if K=1 then 2 else if K=3 then n+2 else 2*n+1
theorem Oy {K:Int} {zs:List Int} {n:Nat} (h:zs.length=n):(MT K zs).length=Fz K n:=by
 unfold MT Fz;split
 ·rfl
 split
 ·simp [h]
 ·rw [List.length_append,Km.Ii,h];simp;omega
theorem Fp (K:Int) (n:Nat) (ps:AK):(Cc K n ps).size=Fz K n:=by
 unfold Cc Fz;split
 ·rfl
 split<;>rfl
theorem Gq (K:Int) (n:Nat) (ps:AK):(Cc K n ps).s=AQ n false true:=by
 unfold Cc;split
 ·rfl
 split<;>rfl
theorem KA (K:Int) (n:Nat) (ps q:AK):(Cc K n ps).on q=Cc K n q:=by
 unfold Cc;split
 ·rfl
 split<;>rfl
theorem K_ {K:Int} {n o:Nat} {ps:AK} (hn:n<=64) (hl:o+Fz K n<=ps.ws.length) (hz:∀ x∈ps.ws,x=0):(Cc K n ps).At o none []:=by
 unfold Cc;unfold Fz at hl;by_cases h1:K=1
 ·rw [Qj h1] at hl ⊢;exact TT hn hl hz
 ·rw [Qq h1] at hl ⊢
  by_cases h3:K=3
  ·rw [Qj h3] at hl ⊢;exact TR hn hl hz
  ·rw [Qq h3] at hl ⊢;exact TS hn hl hz
theorem PH {w:World} {base:Nat} {e:TypeId} {v:Value} {n:Nat} {xs:List Value} (h:w.ownsRow base e 1 v n xs) {k:Nat} (hk:v.ownBlock=some k):∃ cur,w.heap[k]? =some (.cells cur e (0,0)):=by
 obtain ⟨_,h⟩:=h;rcases h with ⟨rfl,_⟩|⟨g,cap,cur,rfl,_,hg,_⟩
 ·cases hk
 ·have e:g=k:=by simpa [Value.ownBlock] using hk
  subst e;exact ⟨cur,hg⟩
theorem PlanAt.off {w:World} {q:Pl} {t:Int} {hs vs:List Int} (h:PlanAt w q t hs vs) {b:Nat} {cs:Array Value} {ty:TypeId} (hb:w.heap[b]? =some (.cells cs ty (0,0))) (n1:ty≠3) (n2:ty≠23) (n3:ty≠76):¬ q.F b:=λe=>by
 rcases e with rfl|e|e
 ·rw [h.obj] at hb
  simp only [Option.some.injEq,Obj.cells.injEq] at hb;exact n3 hb.2.1.symm
 ·obtain ⟨cur,hc⟩:=PH h.rows.homes e
  rw [hc] at hb;simp only [Option.some.injEq,Obj.cells.injEq] at hb;exact n1 hb.2.1.symm
 ·obtain ⟨cur,hc⟩:=PH h.rows.values e
  rw [hc] at hb;simp only [Option.some.injEq,Obj.cells.injEq] at hb;exact n2 hb.2.1.symm
theorem SeatAt.off {w:World} {q:Pl} {t:Int} {hs vs:List Int} (h:PlanAt w q t hs vs) {p b:Nat} {s:SS} (hS:SeatAt w p b s):¬ q.F p/\¬ q.F b:=
 ⟨h.off hS.obj (by decide) (by decide) (by decide),h.off hS.ctx (by decide) (by decide) (by decide)⟩
theorem InAt.iK {w:World} {q:Pl} {t:Int} {hs vs:List Int} {I:Ip} {pv:Value} {x:Inn} (hI:InAt w I pv x) (h:PlanAt w q t hs vs):¬ q.F I.lb/\¬ q.F I.tb:=by
 have a:=hI.raw;cases x with
 |tk f=>exact ⟨h.off (Kf.FlRaw.obj a) (by decide) (by decide) (by decide),h.off (Kf.FlRaw.tick a) (by decide) (by decide) (by decide)⟩
 |cl f=>exact ⟨h.off (Kc.FlRaw.obj a) (by decide) (by decide) (by decide),h.off (Kc.FlRaw.tick a) (by decide) (by decide) (by decide)⟩
 |mc f=>exact ⟨h.off (Km.FlRaw.obj a) (by decide) (by decide) (by decide),h.off (Km.FlRaw.tick a) (by decide) (by decide) (by decide)⟩
theorem InAt.C0 {w w':World} {I:Ip} {pv:Value} {x:Inn} {S:Nat->Prop} (h:InAt w I pv x) (k:Wr S w w') (h1:¬ S I.lb) (h2:¬ S I.p) (h3:¬ S I.b) (h4:¬ S I.tb):InAt w' I pv x:=by
 obtain ⟨a,b,c,d,e⟩:=h;exact zz3n
theorem InAt.plan {w w':World} {q:Pl} {t:Int} {hs vs:List Int} {I:Ip} {pv:Value} {x:Inn} (hI:InAt w I pv x) (h:PlanAt w q t hs vs) (k:Wr q.F w w'):InAt w' I pv x:=by
 obtain ⟨a,b⟩:=hI.iK h;obtain ⟨c,d⟩:=SeatAt.off h hI.seat;exact hI.C0 k a c d b
def Hm (w:World) (q:Pl) (t:Int) (hs vs:List Int) (K:Int) (n:Nat) (zs:List Int) (e:Ending) (w':World):Prop:=
 ∃ (I:Ip) (q':Pl),e= .returned I.val/\(∀ ps,InAt w' I (.pointer none) (Cc K n ps))/\I.a=hs.length/\(w.heap.size<=I.lo/\I.hi<=w'.heap.size)/\q'.p=q.p/\PlanAt w' q' t (hs++MT K zs) (vs++List.replicate (Fz K n) 0)/\Wr q.F w w'/\Came w q.F q'.F
theorem MJ {w:World} {q:Pl} {t:Int} {hs vs:List Int} (h:PlanAt w q t hs vs) {K:Int} (hK:K=1\/K=3\/K=4) {b o n cap:Nat} {zs:List Int} (hr:Ad .i64 w (some ⟨b,o,none⟩) n zs) (ho:A8 zs=true) (n1:1<=n) (n2:n<=64) (hL:hs.length<=800000) (hb:¬ q.F b):
  Calls prog 75 #[.pointer (some ⟨q.p,0,none⟩),.int .i64 K,.slice (some ⟨b,o,none⟩) n cap] w (Hm w q t hs vs K n zs):=by
 rcases hK with rfl|rfl|rfl
 ·have c:=Kf.Cv (cap:=cap) h hr ho n1 n2 (by omega) hb (v:=0) (by decide)
  have hsz:=h;clear h hr ho
  go_in
  go_wp2_with ((with_reducible refine c.mono ?_);intro e w2 hq;unfold Kf.Ej at hq;obtain ⟨L,q',rfl,h1,h2,h3,h4,h5,h6,h7,h8⟩:=hq;have HQ:=Qw (Qz h1 (Qz h2 (Qz h3 (Qz h4 (Qz h5 (Qz h6 (Qz h7 h8)))))));clear h1 h2 h3 h4 h5 h6 h7 h8)
  go_ret;obtain ⟨h1,h2,h3,h4,h5,h6,h7,h8⟩:=HQ.out;have l1:=A2 h1.obj;have l2:=A2 h1.seat.obj;have l3:=A2 h1.seat.ctx;have l4:=A2 h1.tick;obtain ⟨lb,p,b',tb,a1,a2,q0,hs0⟩:=L;dsimp only at h2 h3 h4 l1 l2 l3 l4;subst h3 h4;refine ⟨⟨lb,p,b',tb,hs.length,78,w.heap.size,w2.heap.size⟩,q',rfl,λps=>⟨Kf.FlRaw.place h1 Js [],⟨⟨h2.1,l1⟩,⟨h2.2.1,l2⟩,⟨h2.2.2.1,l3⟩,h2.2.2.2,l4⟩,Nat.le_refl _,rfl,rfl⟩,rfl,⟨Nat.le_refl _,Nat.le_refl _⟩,h5,?_,h7,h8⟩;have e1:hs++MT 1 zs=hs++[zs.getD 0 0]++[zs.getD 0 0]:=by unfold MT;simp
  have e2:vs++List.replicate (Fz 1 n) 0=vs++[0]++[0]:=by unfold Fz;simp [List.replicate]
  rw [e1,e2];exact h6
 ·have c:=Kc.Cv (cap:=cap) h hr ho n1 n2 (by omega) hb
  have hzl:=hr.len;clear h hr ho
  go_in
  go_wp2_with ((with_reducible refine c.mono ?_);intro e w2 hq;unfold Kc.FF at hq;obtain ⟨L,q',rfl,h1,h2,h3,h4,h5,h6,h7,h8⟩:=hq;have HQ:=Qw (Qz h1 (Qz h2 (Qz h3 (Qz h4 (Qz h5 (Qz h6 (Qz h7 h8)))))));clear h1 h2 h3 h4 h5 h6 h7 h8)
  go_ret;obtain ⟨h1,h2,h3,h4,h5,h6,h7,h8⟩:=HQ.out;have l1:=A2 h1.obj;have l2:=A2 h1.seat.obj;have l3:=A2 h1.seat.ctx;have l4:=A2 h1.tick;obtain ⟨lb,p,b',tb,a1,a2,q0,hs0⟩:=L;dsimp only at h2 h3 h4 l1 l2 l3 l4;subst h3 h4;refine ⟨⟨lb,p,b',tb,hs.length,84,w.heap.size,w2.heap.size⟩,q',rfl,λps=>⟨Kc.FlRaw.place h1 Js [],⟨⟨h2.1,l1⟩,⟨h2.2.1,l2⟩,⟨h2.2.2.1,l3⟩,h2.2.2.2,l4⟩,Nat.le_refl _,rfl,rfl⟩,rfl,⟨Nat.le_refl _,Nat.le_refl _⟩,h5,?_,h7,h8⟩;have e1:hs++MT 3 zs=hs++[zs.getD 0 0]++[zs.getD 0 0]++zs:=by unfold MT;simp
  have e2:vs++List.replicate (Fz 3 n) 0=vs++[0]++[0]++List.replicate n 0:=by unfold Fz;simp [List.replicate]
  rw [e1,e2];exact h6
 ·have c:=Km.Cv (cap:=cap) h hr ho n1 n2 (by omega) hb
  clear h hr ho
  go_in
  go_wp2_with ((with_reducible refine c.mono ?_);intro e w2 hq;unfold Km.FG at hq;obtain ⟨L,q',rfl,h1,h2,h3,h4,h5,h6,h7,h8⟩:=hq;have HQ:=Qw (Qz h1 (Qz h2 (Qz h3 (Qz h4 (Qz h5 (Qz h6 (Qz h7 h8)))))));clear h1 h2 h3 h4 h5 h6 h7 h8)
  go_ret;obtain ⟨h1,h2,h3,h4,h5,h6,h7,h8⟩:=HQ.out;have l1:=A2 h1.obj;have l2:=A2 h1.seat.obj;have l3:=A2 h1.seat.ctx;have l4:=A2 h1.tick;obtain ⟨lb,p,b',tb,a1,a2,q0,hs0⟩:=L;dsimp only at h2 h3 h4 l1 l2 l3 l4;subst h3 h4;refine ⟨⟨lb,p,b',tb,hs.length,87,w.heap.size,w2.heap.size⟩,q',rfl,λps=>⟨Km.FlRaw.place h1 Js [],⟨⟨h2.1,l1⟩,⟨h2.2.1,l2⟩,⟨h2.2.2.1,l3⟩,h2.2.2.2,l4⟩,Nat.le_refl _,rfl,rfl⟩,rfl,⟨Nat.le_refl _,Nat.le_refl _⟩,h5,?_,h7,h8⟩;have e1:hs++MT 4 zs=hs++[zs.getD 0 0]++Km.MC zs:=by unfold MT;simp
  have e2:vs++List.replicate (Fz 4 n) 0=vs++[0]++List.replicate (2*n) 0:=by unfold Fz;simp [List.replicate_succ]
  rw [e1,e2];exact h6
theorem WU (W:World) (t:TypeId) {b:Nat} (hb:b=W.heap.size) (x y:Int):Ad .i64 (W.alloc (.cells #[.int .i64 x,.int .i64 y] t)) (some ⟨b,0,none⟩) 2 [x,y]:=by
 subst hb;refine ⟨rfl,λe=>(by cases e),λb hb j hj=> ?_⟩;cases hb;rw [Addr.add_lit,A1 (blk_alloc_new W _)]
 match j,hj with
 |0,_=>rfl
 |1,_=>rfl
theorem R9 (W:World) (t:TypeId) {b:Nat} (hb:b=W.heap.size) (x y z:Int):Ad .i64 (W.alloc (.cells #[.int .i64 x,.int .i64 y,.int .i64 z] t)) (some ⟨b,0,none⟩) 3 [x,y,z]:=by
 subst hb;refine ⟨rfl,λe=>(by cases e),λb hb j hj=> ?_⟩;cases hb;rw [Addr.add_lit,A1 (blk_alloc_new W _)]
 match j,hj with
 |0,_=>rfl
 |1,_=>rfl
 |2,_=>rfl
def CK (G K B:Int):Bool:=decide (G∈[(1:Int),4])&&decide (K∈[(1:Int),3,4])&&decide (1<=B)&&decide (B<=1000)
theorem Sg (G K B:Int) (w:World):Calls prog 60 #[.int .i64 G,.int .i64 K,.int .i64 B] w λe w'=>e= .returned (.bool (CK G K B))/\Wr Nil w w':=by
 have c1:=λ(b:Nat) (hb:b=w.heap.size) (cap:Nat)=>NL (cap:=cap) (WU w 3 hb 1 4) G (by decide);have Gk:Wr Nil w (w.alloc (.cells #[.int .i64 1,.int .i64 4] 3)):=(Wr.refl _ w).alloc _;unfold CK;cases b1:decide (G∈[(1:Int),4])
 ·rw [b1] at c1
  go_in
  go_wp2_with ((with_reducible refine (c1 _ rfl _).mono ?_);rintro e w' ⟨rfl,rfl⟩)
  go_ret;exact ⟨rfl,Gk⟩
 ·rw [b1] at c1
  obtain ⟨X,hX⟩:∃ X,X=w.alloc (.cells #[.int .i64 1,.int .i64 4] 3):=⟨_,rfl⟩
  have c2:=λ(b:Nat) (hb:b=X.heap.size) (cap:Nat)=>NL (cap:=cap) (R9 X 3 hb 1 3 4) K (by decide);have Ba:Wr Nil w (X.alloc (.cells #[.int .i64 1,.int .i64 3,.int .i64 4] 3)):=by rw [hX];exact Gk.alloc _
  have fh:w.heap.size+1=X.heap.size:=by rw [hX];exact (nblk_alloc _ _).symm
  rw [hX] at c2 Ba fh;have c2:=c2 _ fh;have ZG:=Qw Ba;clear hX fh Ba Gk;cases b2:decide (K∈[(1:Int),3,4])
  ·rw [b2] at c2
   exact zz1r
  ·rw [b2] at c2
   by_cases h1:1<=B
   ·rw [decide_eq_true h1]
    exact zz1r
   ·rw [decide_eq_false h1]
    exact zz1r
end Go.Proofs.YtmnephejhkfchaaGreat

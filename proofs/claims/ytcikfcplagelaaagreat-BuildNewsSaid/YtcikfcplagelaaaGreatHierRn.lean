
import Derived.Test.YtcikfcplagelaaaGreatPortSame
import Derived.Test.YtcikfcplagelaaaGreatBuH
import Derived.Deep.CutBlock
namespace Go.Proofs.YtcikfcplagelaaaGreat.Kh
open Go.RowKit
set_option linter.unusedVariables false
set_option maxRecDepth 100000
def rowA (n:Nat) (g:Nat→Value):Array Value:=((List.range n).map g).toArray
theorem rowA_at {n:Nat} (g:Nat→Value) {k:Nat} (hk:k<n):(rowA n g)[k]? =some (g k):=by
 unfold rowA
 rw [List.getElem?_toArray,List.getElem?_map,List.getElem?_range hk]
 rfl
theorem rowA_set (n:Nat) (g:Nat→Value) (k:Nat) (v:Value):(rowA n g).setIfInBounds k v=rowA n (upd g k v):=by
 unfold rowA
 rw [List.setIfInBounds_toArray]
 congr 1
 apply List.ext_getElem?
 intro m
 rw [List.getElem?_set,List.getElem?_map,List.getElem?_map]
 by_cases hm:m<n
 ·rw [List.getElem?_range hm]
  by_cases e:k=m
  ·subst e
   rw [if_pos rfl,if_pos (by simpa using hm)]
   show _=some (upd g k v k)
   rw [upd_same]
  ·rw [if_neg e]
   show some (g m)=some (upd g k v m)
   rw [upd_other _ _ (λx=>e x.symm)]
 ·have e0:(List.range n)[m]? =none:=List.getElem?_eq_none (by simp;omega)
  rw [e0]
  by_cases e:k=m
  ·subst e;rw [if_pos rfl,if_neg (by simpa using hm)];rfl
  ·rw [if_neg e];rfl
theorem made_row (x:Value) (n:Nat):madeCells #[x] (n*1)=rowA n (λ_=>x):=by
 apply Array.ext'
 apply List.ext_getElem?
 intro m
 unfold madeCells rowA
 rw [Nat.mul_one]
 by_cases hm:m<n
 ·rw [Array.toList_map,List.getElem?_map,Array.toList_range,List.getElem?_range hm,List.getElem?_map,List.getElem?_range hm]
  simp [Nat.mod_one]
 ·rw [List.getElem?_eq_none (by simp;omega),List.getElem?_eq_none (by simp;omega)]
def kd (i:Nat):IntKind:=if i=5 then .u32 else .i64
def ty (i:Nat):TypeId:=if i=5 then 23 else 3
def RowC (w:World) (i b n:Nat) (g:Nat→Int):Prop:=∃ cs:Array Value,w.heap[b]? =some (.cells cs (ty i) (0,0))∧∀ k,k<n→cs[k]? =some (.int (kd i) (g k))
namespace RowC
variable {w w':World} {i b n:Nat} {g:Nat→Int}
theorem lt (h:RowC w i b n g):b<w.heap.size:=by obtain ⟨cs,h1,_⟩:=h;exact blk_lt h1
theorem wrote {S:Nat→Prop} (h:RowC w i b n g) (k:Wr S w w') (hb:¬ S b):RowC w' i b n g:=by obtain ⟨cs,h1,h2⟩:=h;exact ⟨cs,(k.block _ (blk_lt h1) hb).trans h1,h2⟩
end RowC
structure Mp where
 r:Nat
 sr:Nat
 hv:Value
 dv:Value
 rw:Nat→Nat
 cc:Nat
 nc:Nat
 a:Int
 pr:Nat
 base:Nat
structure MlRaw (w:World) (M:Mp) (s:SS) (v:Nat→Nat→Int):Prop where
 obj:w.heap[M.r]? =some (.cells #[.pointer (some ⟨M.sr,0,none⟩),.int .i64 M.a,.slice (some ⟨M.rw 0,0,none⟩) s.n M.cc,.slice (some ⟨M.rw 1,0,none⟩) s.n s.n,.slice (some ⟨M.rw 2,0,none⟩) s.n M.nc,.slice (some ⟨M.rw 3,0,none⟩) s.n s.n,.slice (some ⟨M.rw 4,0,none⟩) s.n s.n,.slice (some ⟨M.rw 5,0,none⟩) s.n s.n] 165 (0,0))
 seat:RsAt w M.sr M.hv M.dv s
 rows:∀ i,i<6→RowC w i (M.rw i) s.n (v i)
 ne:∀ i,i<6→M.r≠M.rw i∧∀ j,j<6→i≠j→M.rw i≠M.rw j
 off:∀ k,SF M.sr M.hv M.dv k→k≠M.r∧∀ i,i<6→k≠M.rw i
 low:M.r<M.base∧(∀ i,i<6→M.rw i<M.base)∧∀ k,SF M.sr M.hv M.dv k→k<M.base
def MF (M:Mp) (k:Nat):Prop:=(∃ i,i<6∧k=M.rw i)∨SF M.sr M.hv M.dv k
open _root_.Go.Proofs.Tryz
open Go.RowKit Go.BigFrame
def fv (f:FL):Nat→Nat→Int:=λi j=>match i with|0=>f.cl j|1=>f.pc j|2=>f.nd j|3=>f.ahd j|4=>f.of j|5=>f.wv j|_=>0
theorem rp_word (c a b:Int) (hc:0≤c∧c≤1073741823) (ha:0≤a∧a≤1) (hb:0≤b∧b≤1) (w:World):Calls prog 66 #[.int .i64 c,.int .i64 a,.int .i64 b] w λe w'=>e= .returned (.int .u32 (wd c a b))∧w=w':=by
 have:=word_any c a b ha.1 ha.2 hb.1 hb.2 w
 rw [show refI c a b=wd c a b from by unfold refI wd;rw [held_in c hc.1 hc.2]] at this
 exact this
set_option maxHeartbeats 8000000
open _root_.Go.Proofs.Tryz Go.Deep
def undone (ops:Array Oper) (L:Array Bool):Nat:=((List.range ops.size).filter λi=> !L.getD i true).length
theorem filter_less {l:List Nat} {p q:Nat→Bool} (h:∀ j,p j=true→q j=true) {i:Nat} (hi:i∈l) (hq:q i=true) (hp:p i=false):(l.filter p).length<(l.filter q).length:=by
 have le:∀ l:List Nat,(l.filter p).length≤(l.filter q).length:=by
  intro l
  induction l with
  |nil=>exact Nat.le_refl _
  |cons x l ih=>
   rw [List.filter_cons,List.filter_cons]
   by_cases px:p x=true
   ·rw [if_pos px,if_pos (h x px)];simp;exact ih
   ·rw [if_neg px]
    split
    ·simp;omega
    ·exact ih
 induction l with
 |nil=>cases hi
 |cons x l ih=>
  rw [List.filter_cons,List.filter_cons]
  rcases List.mem_cons.1 hi with rfl|hi
  ·rw [if_neg (by rw [hp];decide),if_pos hq]
   have:=le l
   simp;omega
  ·have:=ih hi
   by_cases px:p x=true
   ·rw [if_pos px,if_pos (h x px)];simp;exact this
   ·rw [if_neg px]
    split
    ·simp;omega
    ·exact this
section
variable {P:Program} {md:Region.Mode} {ops:Array Oper} {Q:Exit→Act→World→Prop}
theorem mem_ready' {L:Array Bool} {i:Nat} (h:i∈Region.ready md ops L):i∈List.range ops.size∧L.getD i true=false∧∃ o,ops[i]? =some o∧∀ e∈o.after,Region.binds md e=true→L.getD e.on false=true:=by
 unfold Region.ready at h
 obtain ⟨h1,h2⟩:=List.mem_filter.1 h
 simp only [Bool.and_eq_true,Bool.not_eq_true'] at h2
 refine ⟨h1,h2.1,?_⟩
 cases ho:ops[i]? with
 |none=>rw [ho] at h2;simp at h2
 |some o=>
  refine ⟨o,rfl,λe he hb=> ?_⟩
  have h3:=h2.2
  rw [ho] at h3
  simp only [Option.map_some,Option.getD_some,Array.all_eq_true'] at h3
  have:=h3 e he
  simp only [hb,Bool.not_true,Bool.false_or] at this
  exact this
theorem wpAny_inv {I:Array Bool→Act→World→Prop} (hend:∀ L a X,I L a X→Region.ready md ops L=[]→Q .normal a X)
  (hstep:∀ L a X,I L a X→∀ i o,ops[i]? =some o→L.getD i true=false→(∀ e∈o.after,Region.binds md e=true→L.getD e.on false=true)→
    if Region.wanted o (yielded ops a.tmps)=true then Oper.wp P o a X (I (L.setIfInBounds i true)) Q else I (L.setIfInBounds i true) (a.put o.dst undef) X):
  ∀ (n:Nat) (L:Array Bool) (a:Act) (X:World),I L a X→L.size=ops.size→undone ops L≤n→wpAny P md ops Q n L a X:=by
 intro n
 induction n with
 |zero=>
  intro L a X h hs hn
  have e:Region.ready md ops L=[]:=by
   cases hr:Region.ready md ops L with
   |nil=>rfl
   |cons i l=>
    obtain ⟨h1,h2,_⟩:=mem_ready' (show i∈Region.ready md ops L by rw [hr];exact List.mem_cons_self)
    have:i∈(List.range ops.size).filter λi=> !L.getD i true:=List.mem_filter.2 ⟨h1,by rw [h2];rfl⟩
    have:=List.length_pos_of_mem this
    unfold undone at hn
    omega
  exact ⟨e,hend L a X h e⟩
 |succ n ih=>
  intro L a X h hs hn
  refine ⟨λe=>hend L a X h e,λi hi=> ?_⟩
  obtain ⟨h1,h2,o,ho,h3⟩:=mem_ready' hi
  have hiS:i<L.size:=by rw [hs];exact List.mem_range.1 h1
  refine wpOp_mono (K:=I (L.setIfInBounds i true)) (λa' X' h'=>ih _ _ _ h' (by rw [Array.size_setIfInBounds];exact hs) ?_) ?_
  ·have:undone ops (L.setIfInBounds i true)<undone ops L:=by
    unfold undone
    refine filter_less (i:=i) (λj hj=> ?_) h1 (by rw [h2];rfl) ?_
    ·by_cases e:i=j
     ·subst e;rw [h2];rfl
     ·have:(L.setIfInBounds i true).getD j true=L.getD j true:=by
       simp only [Array.getD_eq_getD_getElem?,Array.getElem?_setIfInBounds,if_neg e]
      rw [this] at hj;exact hj
    ·have:(L.setIfInBounds i true).getD i true=true:=by
      simp [Array.getD_eq_getD_getElem?,hiS]
     rw [this];rfl
   omega
  ·have:=hstep L a X h i o ho h2 h3
   unfold wpOp
   rw [ho]
   dsimp only
   split
   ·rename_i hw;rw [if_pos hw] at this;exact .inl this
   ·rename_i hw;rw [if_neg hw] at this;exact this
def aheadB (ops:Array Oper):Bool:=(List.range ops.size).all λi=>((ops[i]?).map λo=>o.after.all λe=>decide (e.on<i)).getD true
theorem ready_nil {L:Array Bool} (ha:aheadB ops=true) (hs:L.size=ops.size) (h:Region.ready md ops L=[]):∀ i,L.getD i true=true:=by
 intro i
 induction i using Nat.strongRecOn with
 |_ i ih=>
  cases hl:L.getD i true with
  |true=>rfl
  |false=>
   exfalso
   have hi:i<L.size:=by
    rcases Nat.lt_or_ge i L.size with q|q
    ·exact q
    ·rw [Array.getD_eq_getD_getElem?,Array.getElem?_eq_none q] at hl;cases hl
   have hi2:i<ops.size:=by omega
   have hm:i∈Region.ready md ops L:=by
    unfold Region.ready
    refine List.mem_filter.2 ⟨List.mem_range.2 hi2,?_⟩
    rw [hl,Array.getElem?_eq_getElem hi2]
    simp only [Bool.not_false,Bool.true_and,Option.map_some,Option.getD_some,Array.all_eq_true']
    intro e he
    have h1:=List.all_eq_true.1 ha i (List.mem_range.2 hi2)
    rw [Array.getElem?_eq_getElem hi2] at h1
    simp only [Option.map_some,Option.getD_some,Array.all_eq_true'] at h1
    have h2:e.on<i:=of_decide_eq_true (h1 e he)
    have h3:=ih e.on h2
    have h4:L.getD e.on false=true:=by
     rw [Array.getD_eq_getD_getElem?] at h3 ⊢
     rw [Array.getElem?_eq_getElem (by omega)] at h3 ⊢
     exact h3
    rw [h4];simp
   rw [h] at hm
   cases hm
theorem wpAny_inv' {I:Array Bool→Act→World→Prop} (hend:∀ L a X,I L a X→(∀ i,L.getD i true=true)→Q .normal a X)
  (hstep:∀ L a X,I L a X→∀ i o,ops[i]? =some o→L.getD i true=false→(∀ e∈o.after,Region.binds md e=true→L.getD e.on false=true)→
    ∀ K':Act→World→Prop,(∀ a' X',I (L.setIfInBounds i true) a' X'→K' a' X')→if Region.wanted o (yielded ops a.tmps)=true then Oper.wp P o a X K' Q else K' (a.put o.dst undef) X)
  (n:Nat) (L:Array Bool) (a:Act) (X:World) (h:I L a X) (hs:L.size=ops.size) (ha:(aheadB ops&&decide (undone ops L≤n))=true):wpAny P md ops Q n L a X:=by
 rw [Bool.and_eq_true] at ha
 refine wpAny_inv (I:=λL a X=>I L a X∧L.size=ops.size) (λL a X q e=>hend L a X q.1 (ready_nil ha.1 q.2 e)) (λL a X q i o ho hl hr=> ?_) n L a X ⟨h,hs⟩ hs (of_decide_eq_true ha.2)
 exact hstep L a X q.1 i o ho hl hr _ λa' X' h'=>⟨h',by rw [Array.size_setIfInBounds];exact q.2⟩
end
abbrev zr (n i:Nat):Array Value:=rowA n λ_=> .int (kd i) 0
structure MkS (n:Nat) (w X:World) (bs:List (Nat×Nat)):Prop where
 wr:Wr Nil w X
 all:∀ b∈bs,w.heap.size≤b.1∧X.heap[b.1]? =some (.cells (zr n b.2) (ty b.2) (0,0))
namespace MkS
variable {n:Nat} {w X Y:World} {bs:List (Nat×Nat)}
theorem old (h:MkS n w X bs) (k:Wr Nil X Y):MkS n w Y bs:=⟨h.wr.nil k,λb hb=>⟨(h.all b hb).1,(k.block _ (blk_lt (h.all b hb).2) id).trans (h.all b hb).2⟩⟩
end MkS
structure MkT (n:Nat) (s:SS) (w X:World) (bs:List (Nat×Nat)) (r:Nat) (hv dv:Value):Prop where
 ms:MkS n w X bs
 seat:RsAt X r hv dv s
 off:∀ k,SF r hv dv k→w.heap.size≤k∧∀ i,(k,i)∉bs
namespace MkT
variable {n:Nat} {s:SS} {w X Y:World} {bs:List (Nat×Nat)} {A:Array Value} {r:Nat} {hv dv:Value}
theorem old (h:MkT n s w X bs r hv dv) (k:Wr Nil X Y):MkT n s w Y bs r hv dv:=⟨h.ms.old k,h.seat.wrote k λ_ _=>id,h.off⟩
end MkT
structure RnSt (w X:World) (n:Nat) (a:Int) (rb r b1 b2 b3 b4:Nat) (hv dv vc vn:Value):Prop where
 obj:X.heap[rb]? =some (.cells #[.pointer (some ⟨r,0,none⟩),.int .i64 a,vc,.slice (some ⟨b1,0,none⟩) n n,vn,.slice (some ⟨b2,0,none⟩) n n,.slice (some ⟨b3,0,none⟩) n n,.slice (some ⟨b4,0,none⟩) n n] 165 (0,0))
 mt:MkT n (newSeat n false false) w X [(b1,1),(b2,1),(b3,1),(b4,5)] r hv dv
 lt:w.heap.size≤rb∧(b1<rb∧b2<rb∧b3<rb∧b4<rb)∧∀ j,SF r hv dv j→j<rb
 ne:b1≠b2∧b1≠b3∧b1≠b4∧b2≠b3∧b2≠b4∧b3≠b4
def fourJ (j:Nat):Prop:=j=4∨j=6∨j=8∨j=10
def kx (j:Nat):Nat:=if j=10 then 5 else 1
structure NwK (n:Nat) (w X:World) (L:Nat→Bool) (bs:Nat→Nat) (r:Nat) (hv dv:Value):Prop where
 wr:Wr Nil w X
 rows:∀ j,fourJ j→L j=true→w.heap.size≤bs j∧X.heap[bs j]? =some (.cells (zr n (kx j)) (ty (kx j)) (0,0))
 nd:∀ i j,fourJ i→fourJ j→i≠j→L i=true→L j=true→bs i≠bs j
 seat:L 1=true→RsAt X r hv dv (newSeat n false false)∧∀ k,SF r hv dv k→w.heap.size≤k∧∀ j,fourJ j→L j=true→k≠bs j
namespace NwK
variable {n:Nat} {w X Y:World} {L:Nat→Bool} {bs:Nat→Nat} {r:Nat} {hv dv:Value}
theorem cong (h:NwK n w X L bs r hv dv) {i:Nat} (h1:i≠1) (h4:¬ fourJ i):NwK n w X (upd L i true) bs r hv dv:=by
 have e:∀ j,fourJ j→upd L i true j=L j:=λj hj=>upd_other _ _ λq=>h4 (q▸hj)
 refine ⟨h.wr,λj hj hl=>h.rows j hj (by rw [←e j hj];exact hl),λp q hp hq hne lp lq=>h.nd p q hp hq hne (by rw [←e p hp];exact lp) (by rw [←e q hq];exact lq),λhl=> ?_⟩
 rw [upd_other _ _ (λq=>h1 q.symm)] at hl
 obtain ⟨a,b⟩:=h.seat hl
 exact ⟨a,λk hk=>⟨(b k hk).1,λj hj lj=>(b k hk).2 j hj (by rw [←e j hj];exact lj)⟩⟩
theorem make (h:NwK n w X L bs r hv dv) {i:Nat} (hi:fourJ i) (hl:L i=false):NwK n w (X.alloc (.cells (zr n (kx i)) (ty (kx i)))) (upd L i true) (upd bs i X.heap.size) r hv dv:=by
 have k:Wr Nil X (X.alloc (.cells (zr n (kx i)) (ty (kx i)))):=(Wr.refl _ X).alloc _
 refine ⟨h.wr.nil k,λj hj lj=> ?_,λp q hp hq hne lp lq=> ?_,λl1=> ?_⟩
 ·by_cases e:j=i
  ·subst e;rw [upd_same];exact ⟨h.wr.size,blk_alloc_new _ _⟩
  ·rw [upd_other _ _ e] at lj ⊢
   have:=h.rows j hj lj
   exact ⟨this.1,(k.block _ (blk_lt this.2) id).trans this.2⟩
 ·by_cases e:p=i
  ·subst e
   have e2:q≠p:=λx=>hne x.symm
   rw [upd_same,upd_other _ _ e2]
   rw [upd_other _ _ e2] at lq
   have:=blk_lt (h.rows q hq lq).2
   omega
  ·rw [upd_other _ _ e] at lp ⊢
   by_cases e2:q=i
   ·subst e2
    rw [upd_same]
    have:=blk_lt (h.rows p hp lp).2
    omega
   ·rw [upd_other _ _ e2] at lq ⊢
    exact h.nd p q hp hq hne lp lq
 ·have e1:(1:Nat)≠i:=by unfold fourJ at hi;omega
  rw [upd_other _ _ e1] at l1
  obtain ⟨a,b⟩:=h.seat l1
  refine ⟨a.wrote k λ_ _=>id,λm hm=>⟨(b m hm).1,λj hj lj=> ?_⟩⟩
  by_cases e:j=i
  ·subst e;rw [upd_same];have:=SrAt.lt a hm;omega
  ·rw [upd_other _ _ e] at lj ⊢;exact (b m hm).2 j hj lj
theorem call (h:NwK n w X L bs r hv dv) {r':Nat} {hv' dv':Value} (hS:RsAt Y r' hv' dv' (newSeat n false false)) (hn:∀ k,SF r' hv' dv' k→X.heap.size≤k) (k:Wr Nil X Y):NwK n w Y (upd L 1 true) bs r' hv' dv':=by
 have e:∀ j,fourJ j→upd L 1 true j=L j:=λj hj=>upd_other _ _ (by unfold fourJ at hj;omega)
 refine ⟨h.wr.nil k,λj hj lj=> ?_,λp q hp hq hne lp lq=>h.nd p q hp hq hne (by rw [←e p hp];exact lp) (by rw [←e q hq];exact lq),λ_=>⟨hS,λm hm=>⟨Nat.le_trans h.wr.size (hn m hm),λj hj lj=> ?_⟩⟩⟩
 ·rw [e j hj] at lj
  have:=h.rows j hj lj
  exact ⟨this.1,(k.block _ (blk_lt this.2) id).trans this.2⟩
 ·rw [e j hj] at lj
  have:=blk_lt (h.rows j hj lj).2
  have:=hn m hm
  omega
end NwK
theorem NwK.boxed {n:Nat} {a:Int} {w X:World} {L:Nat→Bool} {bs:Nat→Nat} {r:Nat} {hv dv:Value} (h:NwK n w X L bs r hv dv) (l1:L 1=true) (l4:L 4=true) (l6:L 6=true) (l8:L 8=true) (l10:L 10=true):
  RnSt w (X.alloc (.cells #[.pointer (some ⟨r,0,none⟩),.int .i64 a,.slice none 0 0,.slice (some ⟨bs 4,0,none⟩) n n,.slice none 0 0,.slice (some ⟨bs 6,0,none⟩) n n,.slice (some ⟨bs 8,0,none⟩) n n,.slice (some ⟨bs 10,0,none⟩) n n] 165)) n a X.heap.size r (bs 4) (bs 6) (bs 8) (bs 10) hv dv (.slice none 0 0) (.slice none 0 0):=by
 have k:=(Wr.refl Nil X).alloc (.cells #[.pointer (some ⟨r,0,none⟩),.int .i64 a,.slice none 0 0,.slice (some ⟨bs 4,0,none⟩) n n,.slice none 0 0,.slice (some ⟨bs 6,0,none⟩) n n,.slice (some ⟨bs 8,0,none⟩) n n,.slice (some ⟨bs 10,0,none⟩) n n] 165)
 obtain ⟨hs,hf⟩:=h.seat l1
 have m4:fourJ 4:=by unfold fourJ;omega
 have m6:fourJ 6:=by unfold fourJ;omega
 have m8:fourJ 8:=by unfold fourJ;omega
 have m10:fourJ 10:=by unfold fourJ;omega
 have q4:=h.rows 4 m4 l4
 have q6:=h.rows 6 m6 l6
 have q8:=h.rows 8 m8 l8
 have q10:=h.rows 10 m10 l10
 have hR:MkT n (newSeat n false false) w X [(bs 4,1),(bs 6,1),(bs 8,1),(bs 10,5)] r hv dv:=by
  refine ⟨⟨h.wr,λb hb=> ?_⟩,hs,λj hj=>⟨(hf j hj).1,λm q=> ?_⟩⟩
  ·simp only [List.mem_cons,List.not_mem_nil,or_false] at hb
   rcases hb with rfl|rfl|rfl|rfl
   ·exact q4
   ·exact q6
   ·exact q8
   ·exact q10
  ·simp only [List.mem_cons,List.not_mem_nil,or_false,Prod.mk.injEq] at q
   rcases q with ⟨e,_⟩|⟨e,_⟩|⟨e,_⟩|⟨e,_⟩
   ·exact (hf j hj).2 4 m4 l4 e
   ·exact (hf j hj).2 6 m6 l6 e
   ·exact (hf j hj).2 8 m8 l8 e
   ·exact (hf j hj).2 10 m10 l10 e
 exact ⟨blk_alloc_new _ _,hR.old k,⟨h.wr.size,⟨blk_lt q4.2,blk_lt q6.2,blk_lt q8.2,blk_lt q10.2⟩,λj hj=>SrAt.lt hs hj⟩,
  h.nd 4 6 m4 m6 (by decide) l4 l6,h.nd 4 8 m4 m8 (by decide) l4 l8,h.nd 4 10 m4 m10 (by decide) l4 l10,h.nd 6 8 m6 m8 (by decide) l6 l8,h.nd 6 10 m6 m10 (by decide) l6 l10,h.nd 8 10 m8 m10 (by decide) l8 l10⟩
structure NwC (n:Nat) (a:Int) (w:World) (L:Nat→Bool) (X:World) (v6 v10 v11 v12 v13 v14 v15 v16 v17 v18 v19 v20 v21 v22:Value):Prop where
 k:∃ (bs:Nat→Nat) (r:Nat) (hv dv:Value),(L 12=false→NwK n w X L bs r hv dv)∧(L 1=true→v11= .pointer (some ⟨r,0,none⟩))∧(L 4=true→v14= .slice (some ⟨bs 4,0,none⟩) n n)∧(L 6=true→v16= .slice (some ⟨bs 6,0,none⟩) n n)∧(L 8=true→v18= .slice (some ⟨bs 8,0,none⟩) n n)∧(L 10=true→v20= .slice (some ⟨bs 10,0,none⟩) n n)∧(L 11=true→v21= .agg #[.pointer (some ⟨r,0,none⟩),.int .i64 a,.slice none 0 0,.slice (some ⟨bs 4,0,none⟩) n n,.slice none 0 0,.slice (some ⟨bs 6,0,none⟩) n n,.slice (some ⟨bs 8,0,none⟩) n n,.slice (some ⟨bs 10,0,none⟩) n n])
 m0:L 0=true→v10= .int .i64 n
 m2:L 2=true→v12= .int .i64 a
 m3:L 3=true→v13= .int .i64 n
 m5:L 5=true→v15= .int .i64 n
 m7:L 7=true→v17= .int .i64 n
 m9:L 9=true→v19= .int .i64 n
 p:L 11=true→L 1=true∧L 4=true∧L 6=true∧L 8=true∧L 10=true
 q:L 12=true→L 11=true∧∃ (rb r b1 b2 b3 b4:Nat) (hv dv:Value),v22= .pointer (some ⟨rb,0,none⟩)∧RnSt w X n a rb r b1 b2 b3 b4 hv dv (.slice none 0 0) (.slice none 0 0)
 t:L 13=true→v6=v22∧L 12=true
theorem getD_sets (L:Array Bool) (i:Nat):(λj=>(L.setIfInBounds i true).getD j true)=upd (λj=>L.getD j true) i true:=by
 funext j
 simp only [Array.getD_eq_getD_getElem?,Array.getElem?_setIfInBounds]
 by_cases e:j=i
 ·subst e
  rw [upd_same]
  by_cases h:j<L.size
  ·simp [h]
  ·simp [h]
 ·rw [upd_other _ _ e,if_neg (λq=>e q.symm)]
theorem getD_ft {L:Array Bool} {j:Nat} (h:L.getD j false=true):L.getD j true=true:=by
 rw [Array.getD_eq_getD_getElem?] at h ⊢
 cases e:L[j]? with
 |none=>rfl
 |some x=>rw [e] at h;exact h
section
variable {n:Nat} {a:Int} {w X Y:World} {L:Nat→Bool} {v6 v10 v11 v12 v13 v14 v15 v16 v17 v18 v19 v20 v21 v22:Value}
theorem NwC.mv0 (h:NwC n a w L X v6 v10 v11 v12 v13 v14 v15 v16 v17 v18 v19 v20 v21 v22):NwC n a w (upd L 0 true) X v6 (.int .i64 n) v11 v12 v13 v14 v15 v16 v17 v18 v19 v20 v21 v22:=by
 obtain ⟨bs,r,hv,dv,k0,k1,k4,k6,k8,k10,k11⟩:=h.k
 exact ⟨⟨bs,r,hv,dv,λl=>(k0 ((upd_other L true (by decide:(12:Nat)≠0)).symm.trans l)).cong (by decide) (by unfold fourJ;decide),λl=>k1 ((upd_other L true (by decide:(1:Nat)≠0)).symm.trans l),λl=>k4 ((upd_other L true (by decide:(4:Nat)≠0)).symm.trans l),λl=>k6 ((upd_other L true (by decide:(6:Nat)≠0)).symm.trans l),λl=>k8 ((upd_other L true (by decide:(8:Nat)≠0)).symm.trans l),λl=>k10 ((upd_other L true (by decide:(10:Nat)≠0)).symm.trans l),λl=>k11 ((upd_other L true (by decide:(11:Nat)≠0)).symm.trans l)⟩,λ_=>rfl,λl=>h.m2 ((upd_other L true (by decide:(2:Nat)≠0)).symm.trans l),λl=>h.m3 ((upd_other L true (by decide:(3:Nat)≠0)).symm.trans l),λl=>h.m5 ((upd_other L true (by decide:(5:Nat)≠0)).symm.trans l),λl=>h.m7 ((upd_other L true (by decide:(7:Nat)≠0)).symm.trans l),λl=>h.m9 ((upd_other L true (by decide:(9:Nat)≠0)).symm.trans l),λl=>by have:=h.p ((upd_other L true (by decide:(11:Nat)≠0)).symm.trans l);rw [upd_other L true (by decide:(1:Nat)≠0),upd_other L true (by decide:(4:Nat)≠0),upd_other L true (by decide:(6:Nat)≠0),upd_other L true (by decide:(8:Nat)≠0),upd_other L true (by decide:(10:Nat)≠0)];exact this,λl=>by have:=h.q ((upd_other L true (by decide:(12:Nat)≠0)).symm.trans l);rw [upd_other L true (by decide:(11:Nat)≠0)];exact this,λl=>by have:=h.t ((upd_other L true (by decide:(13:Nat)≠0)).symm.trans l);rw [upd_other L true (by decide:(12:Nat)≠0)];exact this⟩
theorem NwC.mv2 (h:NwC n a w L X v6 v10 v11 v12 v13 v14 v15 v16 v17 v18 v19 v20 v21 v22):NwC n a w (upd L 2 true) X v6 v10 v11 (.int .i64 a) v13 v14 v15 v16 v17 v18 v19 v20 v21 v22:=by
 obtain ⟨bs,r,hv,dv,k0,k1,k4,k6,k8,k10,k11⟩:=h.k
 exact ⟨⟨bs,r,hv,dv,λl=>(k0 ((upd_other L true (by decide:(12:Nat)≠2)).symm.trans l)).cong (by decide) (by unfold fourJ;decide),λl=>k1 ((upd_other L true (by decide:(1:Nat)≠2)).symm.trans l),λl=>k4 ((upd_other L true (by decide:(4:Nat)≠2)).symm.trans l),λl=>k6 ((upd_other L true (by decide:(6:Nat)≠2)).symm.trans l),λl=>k8 ((upd_other L true (by decide:(8:Nat)≠2)).symm.trans l),λl=>k10 ((upd_other L true (by decide:(10:Nat)≠2)).symm.trans l),λl=>k11 ((upd_other L true (by decide:(11:Nat)≠2)).symm.trans l)⟩,λl=>h.m0 ((upd_other L true (by decide:(0:Nat)≠2)).symm.trans l),λ_=>rfl,λl=>h.m3 ((upd_other L true (by decide:(3:Nat)≠2)).symm.trans l),λl=>h.m5 ((upd_other L true (by decide:(5:Nat)≠2)).symm.trans l),λl=>h.m7 ((upd_other L true (by decide:(7:Nat)≠2)).symm.trans l),λl=>h.m9 ((upd_other L true (by decide:(9:Nat)≠2)).symm.trans l),λl=>by have:=h.p ((upd_other L true (by decide:(11:Nat)≠2)).symm.trans l);rw [upd_other L true (by decide:(1:Nat)≠2),upd_other L true (by decide:(4:Nat)≠2),upd_other L true (by decide:(6:Nat)≠2),upd_other L true (by decide:(8:Nat)≠2),upd_other L true (by decide:(10:Nat)≠2)];exact this,λl=>by have:=h.q ((upd_other L true (by decide:(12:Nat)≠2)).symm.trans l);rw [upd_other L true (by decide:(11:Nat)≠2)];exact this,λl=>by have:=h.t ((upd_other L true (by decide:(13:Nat)≠2)).symm.trans l);rw [upd_other L true (by decide:(12:Nat)≠2)];exact this⟩
theorem NwC.mv3 (h:NwC n a w L X v6 v10 v11 v12 v13 v14 v15 v16 v17 v18 v19 v20 v21 v22):NwC n a w (upd L 3 true) X v6 v10 v11 v12 (.int .i64 n) v14 v15 v16 v17 v18 v19 v20 v21 v22:=by
 obtain ⟨bs,r,hv,dv,k0,k1,k4,k6,k8,k10,k11⟩:=h.k
 exact ⟨⟨bs,r,hv,dv,λl=>(k0 ((upd_other L true (by decide:(12:Nat)≠3)).symm.trans l)).cong (by decide) (by unfold fourJ;decide),λl=>k1 ((upd_other L true (by decide:(1:Nat)≠3)).symm.trans l),λl=>k4 ((upd_other L true (by decide:(4:Nat)≠3)).symm.trans l),λl=>k6 ((upd_other L true (by decide:(6:Nat)≠3)).symm.trans l),λl=>k8 ((upd_other L true (by decide:(8:Nat)≠3)).symm.trans l),λl=>k10 ((upd_other L true (by decide:(10:Nat)≠3)).symm.trans l),λl=>k11 ((upd_other L true (by decide:(11:Nat)≠3)).symm.trans l)⟩,λl=>h.m0 ((upd_other L true (by decide:(0:Nat)≠3)).symm.trans l),λl=>h.m2 ((upd_other L true (by decide:(2:Nat)≠3)).symm.trans l),λ_=>rfl,λl=>h.m5 ((upd_other L true (by decide:(5:Nat)≠3)).symm.trans l),λl=>h.m7 ((upd_other L true (by decide:(7:Nat)≠3)).symm.trans l),λl=>h.m9 ((upd_other L true (by decide:(9:Nat)≠3)).symm.trans l),λl=>by have:=h.p ((upd_other L true (by decide:(11:Nat)≠3)).symm.trans l);rw [upd_other L true (by decide:(1:Nat)≠3),upd_other L true (by decide:(4:Nat)≠3),upd_other L true (by decide:(6:Nat)≠3),upd_other L true (by decide:(8:Nat)≠3),upd_other L true (by decide:(10:Nat)≠3)];exact this,λl=>by have:=h.q ((upd_other L true (by decide:(12:Nat)≠3)).symm.trans l);rw [upd_other L true (by decide:(11:Nat)≠3)];exact this,λl=>by have:=h.t ((upd_other L true (by decide:(13:Nat)≠3)).symm.trans l);rw [upd_other L true (by decide:(12:Nat)≠3)];exact this⟩
theorem NwC.mv5 (h:NwC n a w L X v6 v10 v11 v12 v13 v14 v15 v16 v17 v18 v19 v20 v21 v22):NwC n a w (upd L 5 true) X v6 v10 v11 v12 v13 v14 (.int .i64 n) v16 v17 v18 v19 v20 v21 v22:=by
 obtain ⟨bs,r,hv,dv,k0,k1,k4,k6,k8,k10,k11⟩:=h.k
 exact ⟨⟨bs,r,hv,dv,λl=>(k0 ((upd_other L true (by decide:(12:Nat)≠5)).symm.trans l)).cong (by decide) (by unfold fourJ;decide),λl=>k1 ((upd_other L true (by decide:(1:Nat)≠5)).symm.trans l),λl=>k4 ((upd_other L true (by decide:(4:Nat)≠5)).symm.trans l),λl=>k6 ((upd_other L true (by decide:(6:Nat)≠5)).symm.trans l),λl=>k8 ((upd_other L true (by decide:(8:Nat)≠5)).symm.trans l),λl=>k10 ((upd_other L true (by decide:(10:Nat)≠5)).symm.trans l),λl=>k11 ((upd_other L true (by decide:(11:Nat)≠5)).symm.trans l)⟩,λl=>h.m0 ((upd_other L true (by decide:(0:Nat)≠5)).symm.trans l),λl=>h.m2 ((upd_other L true (by decide:(2:Nat)≠5)).symm.trans l),λl=>h.m3 ((upd_other L true (by decide:(3:Nat)≠5)).symm.trans l),λ_=>rfl,λl=>h.m7 ((upd_other L true (by decide:(7:Nat)≠5)).symm.trans l),λl=>h.m9 ((upd_other L true (by decide:(9:Nat)≠5)).symm.trans l),λl=>by have:=h.p ((upd_other L true (by decide:(11:Nat)≠5)).symm.trans l);rw [upd_other L true (by decide:(1:Nat)≠5),upd_other L true (by decide:(4:Nat)≠5),upd_other L true (by decide:(6:Nat)≠5),upd_other L true (by decide:(8:Nat)≠5),upd_other L true (by decide:(10:Nat)≠5)];exact this,λl=>by have:=h.q ((upd_other L true (by decide:(12:Nat)≠5)).symm.trans l);rw [upd_other L true (by decide:(11:Nat)≠5)];exact this,λl=>by have:=h.t ((upd_other L true (by decide:(13:Nat)≠5)).symm.trans l);rw [upd_other L true (by decide:(12:Nat)≠5)];exact this⟩
theorem NwC.mv7 (h:NwC n a w L X v6 v10 v11 v12 v13 v14 v15 v16 v17 v18 v19 v20 v21 v22):NwC n a w (upd L 7 true) X v6 v10 v11 v12 v13 v14 v15 v16 (.int .i64 n) v18 v19 v20 v21 v22:=by
 obtain ⟨bs,r,hv,dv,k0,k1,k4,k6,k8,k10,k11⟩:=h.k
 exact ⟨⟨bs,r,hv,dv,λl=>(k0 ((upd_other L true (by decide:(12:Nat)≠7)).symm.trans l)).cong (by decide) (by unfold fourJ;decide),λl=>k1 ((upd_other L true (by decide:(1:Nat)≠7)).symm.trans l),λl=>k4 ((upd_other L true (by decide:(4:Nat)≠7)).symm.trans l),λl=>k6 ((upd_other L true (by decide:(6:Nat)≠7)).symm.trans l),λl=>k8 ((upd_other L true (by decide:(8:Nat)≠7)).symm.trans l),λl=>k10 ((upd_other L true (by decide:(10:Nat)≠7)).symm.trans l),λl=>k11 ((upd_other L true (by decide:(11:Nat)≠7)).symm.trans l)⟩,λl=>h.m0 ((upd_other L true (by decide:(0:Nat)≠7)).symm.trans l),λl=>h.m2 ((upd_other L true (by decide:(2:Nat)≠7)).symm.trans l),λl=>h.m3 ((upd_other L true (by decide:(3:Nat)≠7)).symm.trans l),λl=>h.m5 ((upd_other L true (by decide:(5:Nat)≠7)).symm.trans l),λ_=>rfl,λl=>h.m9 ((upd_other L true (by decide:(9:Nat)≠7)).symm.trans l),λl=>by have:=h.p ((upd_other L true (by decide:(11:Nat)≠7)).symm.trans l);rw [upd_other L true (by decide:(1:Nat)≠7),upd_other L true (by decide:(4:Nat)≠7),upd_other L true (by decide:(6:Nat)≠7),upd_other L true (by decide:(8:Nat)≠7),upd_other L true (by decide:(10:Nat)≠7)];exact this,λl=>by have:=h.q ((upd_other L true (by decide:(12:Nat)≠7)).symm.trans l);rw [upd_other L true (by decide:(11:Nat)≠7)];exact this,λl=>by have:=h.t ((upd_other L true (by decide:(13:Nat)≠7)).symm.trans l);rw [upd_other L true (by decide:(12:Nat)≠7)];exact this⟩
theorem NwC.mv9 (h:NwC n a w L X v6 v10 v11 v12 v13 v14 v15 v16 v17 v18 v19 v20 v21 v22):NwC n a w (upd L 9 true) X v6 v10 v11 v12 v13 v14 v15 v16 v17 v18 (.int .i64 n) v20 v21 v22:=by
 obtain ⟨bs,r,hv,dv,k0,k1,k4,k6,k8,k10,k11⟩:=h.k
 exact ⟨⟨bs,r,hv,dv,λl=>(k0 ((upd_other L true (by decide:(12:Nat)≠9)).symm.trans l)).cong (by decide) (by unfold fourJ;decide),λl=>k1 ((upd_other L true (by decide:(1:Nat)≠9)).symm.trans l),λl=>k4 ((upd_other L true (by decide:(4:Nat)≠9)).symm.trans l),λl=>k6 ((upd_other L true (by decide:(6:Nat)≠9)).symm.trans l),λl=>k8 ((upd_other L true (by decide:(8:Nat)≠9)).symm.trans l),λl=>k10 ((upd_other L true (by decide:(10:Nat)≠9)).symm.trans l),λl=>k11 ((upd_other L true (by decide:(11:Nat)≠9)).symm.trans l)⟩,λl=>h.m0 ((upd_other L true (by decide:(0:Nat)≠9)).symm.trans l),λl=>h.m2 ((upd_other L true (by decide:(2:Nat)≠9)).symm.trans l),λl=>h.m3 ((upd_other L true (by decide:(3:Nat)≠9)).symm.trans l),λl=>h.m5 ((upd_other L true (by decide:(5:Nat)≠9)).symm.trans l),λl=>h.m7 ((upd_other L true (by decide:(7:Nat)≠9)).symm.trans l),λ_=>rfl,λl=>by have:=h.p ((upd_other L true (by decide:(11:Nat)≠9)).symm.trans l);rw [upd_other L true (by decide:(1:Nat)≠9),upd_other L true (by decide:(4:Nat)≠9),upd_other L true (by decide:(6:Nat)≠9),upd_other L true (by decide:(8:Nat)≠9),upd_other L true (by decide:(10:Nat)≠9)];exact this,λl=>by have:=h.q ((upd_other L true (by decide:(12:Nat)≠9)).symm.trans l);rw [upd_other L true (by decide:(11:Nat)≠9)];exact this,λl=>by have:=h.t ((upd_other L true (by decide:(13:Nat)≠9)).symm.trans l);rw [upd_other L true (by decide:(12:Nat)≠9)];exact this⟩
theorem NwC.mk4 {A:Array Value} (hA:zr n 1=A) (h:NwC n a w L X v6 v10 v11 v12 v13 v14 v15 v16 v17 v18 v19 v20 v21 v22) (hl:L 4=false):NwC n a w (upd L 4 true) (X.alloc (.cells A 3)) v6 v10 v11 v12 v13 (.slice (some ⟨X.heap.size,0,none⟩) n n) v15 v16 v17 v18 v19 v20 v21 v22:=by
 subst hA
 obtain ⟨bs,r,hv,dv,k0,k1,k4,k6,k8,k10,k11⟩:=h.k
 have l11:L 11=false:=by
  cases e:L 11
  ·rfl
  ·have:=h.p e;rw [hl] at this;simp at this
 have l12:L 12=false:=by
  cases e:L 12
  ·rfl
  ·have:=(h.q e).1;rw [l11] at this;cases this
 exact ⟨⟨upd bs 4 X.heap.size,r,hv,dv,λ_=>(k0 l12).make (i:=4) (by unfold fourJ;omega) hl,λl=>k1 ((upd_other L true (by decide:(1:Nat)≠4)).symm.trans l),λ_=>by rw [upd_same],λl=>by rw [upd_other bs _ (by decide:(6:Nat)≠4)];exact k6 ((upd_other L true (by decide:(6:Nat)≠4)).symm.trans l),λl=>by rw [upd_other bs _ (by decide:(8:Nat)≠4)];exact k8 ((upd_other L true (by decide:(8:Nat)≠4)).symm.trans l),λl=>by rw [upd_other bs _ (by decide:(10:Nat)≠4)];exact k10 ((upd_other L true (by decide:(10:Nat)≠4)).symm.trans l),λl=>(by rw [upd_other L true (by decide:(11:Nat)≠4),l11] at l;cases l)⟩,λl=>h.m0 ((upd_other L true (by decide:(0:Nat)≠4)).symm.trans l),λl=>h.m2 ((upd_other L true (by decide:(2:Nat)≠4)).symm.trans l),λl=>h.m3 ((upd_other L true (by decide:(3:Nat)≠4)).symm.trans l),λl=>h.m5 ((upd_other L true (by decide:(5:Nat)≠4)).symm.trans l),λl=>h.m7 ((upd_other L true (by decide:(7:Nat)≠4)).symm.trans l),λl=>h.m9 ((upd_other L true (by decide:(9:Nat)≠4)).symm.trans l),λl=>(by rw [upd_other L true (by decide:(11:Nat)≠4),l11] at l;cases l),λl=>(by rw [upd_other L true (by decide:(12:Nat)≠4),l12] at l;cases l),λl=>(by have:=h.t ((upd_other L true (by decide:(13:Nat)≠4)).symm.trans l);rw [l12] at this;cases this.2)⟩
theorem NwC.mk6 {A:Array Value} (hA:zr n 1=A) (h:NwC n a w L X v6 v10 v11 v12 v13 v14 v15 v16 v17 v18 v19 v20 v21 v22) (hl:L 6=false):NwC n a w (upd L 6 true) (X.alloc (.cells A 3)) v6 v10 v11 v12 v13 v14 v15 (.slice (some ⟨X.heap.size,0,none⟩) n n) v17 v18 v19 v20 v21 v22:=by
 subst hA
 obtain ⟨bs,r,hv,dv,k0,k1,k4,k6,k8,k10,k11⟩:=h.k
 have l11:L 11=false:=by
  cases e:L 11
  ·rfl
  ·have:=h.p e;rw [hl] at this;simp at this
 have l12:L 12=false:=by
  cases e:L 12
  ·rfl
  ·have:=(h.q e).1;rw [l11] at this;cases this
 exact ⟨⟨upd bs 6 X.heap.size,r,hv,dv,λ_=>(k0 l12).make (i:=6) (by unfold fourJ;omega) hl,λl=>k1 ((upd_other L true (by decide:(1:Nat)≠6)).symm.trans l),λl=>by rw [upd_other bs _ (by decide:(4:Nat)≠6)];exact k4 ((upd_other L true (by decide:(4:Nat)≠6)).symm.trans l),λ_=>by rw [upd_same],λl=>by rw [upd_other bs _ (by decide:(8:Nat)≠6)];exact k8 ((upd_other L true (by decide:(8:Nat)≠6)).symm.trans l),λl=>by rw [upd_other bs _ (by decide:(10:Nat)≠6)];exact k10 ((upd_other L true (by decide:(10:Nat)≠6)).symm.trans l),λl=>(by rw [upd_other L true (by decide:(11:Nat)≠6),l11] at l;cases l)⟩,λl=>h.m0 ((upd_other L true (by decide:(0:Nat)≠6)).symm.trans l),λl=>h.m2 ((upd_other L true (by decide:(2:Nat)≠6)).symm.trans l),λl=>h.m3 ((upd_other L true (by decide:(3:Nat)≠6)).symm.trans l),λl=>h.m5 ((upd_other L true (by decide:(5:Nat)≠6)).symm.trans l),λl=>h.m7 ((upd_other L true (by decide:(7:Nat)≠6)).symm.trans l),λl=>h.m9 ((upd_other L true (by decide:(9:Nat)≠6)).symm.trans l),λl=>(by rw [upd_other L true (by decide:(11:Nat)≠6),l11] at l;cases l),λl=>(by rw [upd_other L true (by decide:(12:Nat)≠6),l12] at l;cases l),λl=>(by have:=h.t ((upd_other L true (by decide:(13:Nat)≠6)).symm.trans l);rw [l12] at this;cases this.2)⟩
theorem NwC.mk8 {A:Array Value} (hA:zr n 1=A) (h:NwC n a w L X v6 v10 v11 v12 v13 v14 v15 v16 v17 v18 v19 v20 v21 v22) (hl:L 8=false):NwC n a w (upd L 8 true) (X.alloc (.cells A 3)) v6 v10 v11 v12 v13 v14 v15 v16 v17 (.slice (some ⟨X.heap.size,0,none⟩) n n) v19 v20 v21 v22:=by
 subst hA
 obtain ⟨bs,r,hv,dv,k0,k1,k4,k6,k8,k10,k11⟩:=h.k
 have l11:L 11=false:=by
  cases e:L 11
  ·rfl
  ·have:=h.p e;rw [hl] at this;simp at this
 have l12:L 12=false:=by
  cases e:L 12
  ·rfl
  ·have:=(h.q e).1;rw [l11] at this;cases this
 exact ⟨⟨upd bs 8 X.heap.size,r,hv,dv,λ_=>(k0 l12).make (i:=8) (by unfold fourJ;omega) hl,λl=>k1 ((upd_other L true (by decide:(1:Nat)≠8)).symm.trans l),λl=>by rw [upd_other bs _ (by decide:(4:Nat)≠8)];exact k4 ((upd_other L true (by decide:(4:Nat)≠8)).symm.trans l),λl=>by rw [upd_other bs _ (by decide:(6:Nat)≠8)];exact k6 ((upd_other L true (by decide:(6:Nat)≠8)).symm.trans l),λ_=>by rw [upd_same],λl=>by rw [upd_other bs _ (by decide:(10:Nat)≠8)];exact k10 ((upd_other L true (by decide:(10:Nat)≠8)).symm.trans l),λl=>(by rw [upd_other L true (by decide:(11:Nat)≠8),l11] at l;cases l)⟩,λl=>h.m0 ((upd_other L true (by decide:(0:Nat)≠8)).symm.trans l),λl=>h.m2 ((upd_other L true (by decide:(2:Nat)≠8)).symm.trans l),λl=>h.m3 ((upd_other L true (by decide:(3:Nat)≠8)).symm.trans l),λl=>h.m5 ((upd_other L true (by decide:(5:Nat)≠8)).symm.trans l),λl=>h.m7 ((upd_other L true (by decide:(7:Nat)≠8)).symm.trans l),λl=>h.m9 ((upd_other L true (by decide:(9:Nat)≠8)).symm.trans l),λl=>(by rw [upd_other L true (by decide:(11:Nat)≠8),l11] at l;cases l),λl=>(by rw [upd_other L true (by decide:(12:Nat)≠8),l12] at l;cases l),λl=>(by have:=h.t ((upd_other L true (by decide:(13:Nat)≠8)).symm.trans l);rw [l12] at this;cases this.2)⟩
theorem NwC.mk10 {A:Array Value} (hA:zr n 5=A) (h:NwC n a w L X v6 v10 v11 v12 v13 v14 v15 v16 v17 v18 v19 v20 v21 v22) (hl:L 10=false):NwC n a w (upd L 10 true) (X.alloc (.cells A 23)) v6 v10 v11 v12 v13 v14 v15 v16 v17 v18 v19 (.slice (some ⟨X.heap.size,0,none⟩) n n) v21 v22:=by
 subst hA
 obtain ⟨bs,r,hv,dv,k0,k1,k4,k6,k8,k10,k11⟩:=h.k
 have l11:L 11=false:=by
  cases e:L 11
  ·rfl
  ·have:=h.p e;rw [hl] at this;simp at this
 have l12:L 12=false:=by
  cases e:L 12
  ·rfl
  ·have:=(h.q e).1;rw [l11] at this;cases this
 exact ⟨⟨upd bs 10 X.heap.size,r,hv,dv,λ_=>(k0 l12).make (i:=10) (by unfold fourJ;omega) hl,λl=>k1 ((upd_other L true (by decide:(1:Nat)≠10)).symm.trans l),λl=>by rw [upd_other bs _ (by decide:(4:Nat)≠10)];exact k4 ((upd_other L true (by decide:(4:Nat)≠10)).symm.trans l),λl=>by rw [upd_other bs _ (by decide:(6:Nat)≠10)];exact k6 ((upd_other L true (by decide:(6:Nat)≠10)).symm.trans l),λl=>by rw [upd_other bs _ (by decide:(8:Nat)≠10)];exact k8 ((upd_other L true (by decide:(8:Nat)≠10)).symm.trans l),λ_=>by rw [upd_same],λl=>(by rw [upd_other L true (by decide:(11:Nat)≠10),l11] at l;cases l)⟩,λl=>h.m0 ((upd_other L true (by decide:(0:Nat)≠10)).symm.trans l),λl=>h.m2 ((upd_other L true (by decide:(2:Nat)≠10)).symm.trans l),λl=>h.m3 ((upd_other L true (by decide:(3:Nat)≠10)).symm.trans l),λl=>h.m5 ((upd_other L true (by decide:(5:Nat)≠10)).symm.trans l),λl=>h.m7 ((upd_other L true (by decide:(7:Nat)≠10)).symm.trans l),λl=>h.m9 ((upd_other L true (by decide:(9:Nat)≠10)).symm.trans l),λl=>(by rw [upd_other L true (by decide:(11:Nat)≠10),l11] at l;cases l),λl=>(by rw [upd_other L true (by decide:(12:Nat)≠10),l12] at l;cases l),λl=>(by have:=h.t ((upd_other L true (by decide:(13:Nat)≠10)).symm.trans l);rw [l12] at this;cases this.2)⟩
theorem NwC.cl1 (h:NwC n a w L X v6 v10 v11 v12 v13 v14 v15 v16 v17 v18 v19 v20 v21 v22) (hl:L 1=false) {r:Nat} {hv dv:Value} (hS:RsAt Y r hv dv (newSeat n false false)) (hn:∀ k,SF r hv dv k→X.heap.size≤k) (kk:Wr Nil X Y):NwC n a w (upd L 1 true) Y v6 v10 (.pointer (some ⟨r,0,none⟩)) v12 v13 v14 v15 v16 v17 v18 v19 v20 v21 v22:=by
 obtain ⟨bs,r0,hv0,dv0,k0,k1,k4,k6,k8,k10,k11⟩:=h.k
 have l11:L 11=false:=by
  cases e:L 11
  ·rfl
  ·have:=h.p e;rw [hl] at this;simp at this
 have l12:L 12=false:=by
  cases e:L 12
  ·rfl
  ·have:=(h.q e).1;rw [l11] at this;cases this
 exact ⟨⟨bs,r,hv,dv,λ_=>(k0 l12).call hS hn kk,λ_=>rfl,λl=>k4 ((upd_other L true (by decide:(4:Nat)≠1)).symm.trans l),λl=>k6 ((upd_other L true (by decide:(6:Nat)≠1)).symm.trans l),λl=>k8 ((upd_other L true (by decide:(8:Nat)≠1)).symm.trans l),λl=>k10 ((upd_other L true (by decide:(10:Nat)≠1)).symm.trans l),λl=>(by rw [upd_other L true (by decide:(11:Nat)≠1),l11] at l;cases l)⟩,λl=>h.m0 ((upd_other L true (by decide:(0:Nat)≠1)).symm.trans l),λl=>h.m2 ((upd_other L true (by decide:(2:Nat)≠1)).symm.trans l),λl=>h.m3 ((upd_other L true (by decide:(3:Nat)≠1)).symm.trans l),λl=>h.m5 ((upd_other L true (by decide:(5:Nat)≠1)).symm.trans l),λl=>h.m7 ((upd_other L true (by decide:(7:Nat)≠1)).symm.trans l),λl=>h.m9 ((upd_other L true (by decide:(9:Nat)≠1)).symm.trans l),λl=>(by rw [upd_other L true (by decide:(11:Nat)≠1),l11] at l;cases l),λl=>(by rw [upd_other L true (by decide:(12:Nat)≠1),l12] at l;cases l),λl=>(by have:=h.t ((upd_other L true (by decide:(13:Nat)≠1)).symm.trans l);rw [l12] at this;cases this.2)⟩
theorem NwC.bd (h:NwC n a w L X v6 v10 v11 v12 v13 v14 v15 v16 v17 v18 v19 v20 v21 v22) (hl:L 11=false) (l1:L 1=true) (l2:L 2=true) (l4:L 4=true) (l6:L 6=true) (l8:L 8=true) (l10:L 10=true):∃ (r b1 b2 b3 b4:Nat),v11= .pointer (some ⟨r,0,none⟩)∧v12= .int .i64 a∧v14= .slice (some ⟨b1,0,none⟩) n n∧v16= .slice (some ⟨b2,0,none⟩) n n∧v18= .slice (some ⟨b3,0,none⟩) n n∧v20= .slice (some ⟨b4,0,none⟩) n n∧NwC n a w (upd L 11 true) X v6 v10 v11 v12 v13 v14 v15 v16 v17 v18 v19 v20 (.agg #[.pointer (some ⟨r,0,none⟩),.int .i64 a,.slice none 0 0,.slice (some ⟨b1,0,none⟩) n n,.slice none 0 0,.slice (some ⟨b2,0,none⟩) n n,.slice (some ⟨b3,0,none⟩) n n,.slice (some ⟨b4,0,none⟩) n n]) v22:=by
 obtain ⟨bs,r,hv,dv,k0,k1,k4,k6,k8,k10,k11⟩:=h.k
 have l12:L 12=false:=by
  cases e:L 12
  ·rfl
  ·have:=(h.q e).1;rw [hl] at this;cases this
 refine ⟨r,bs 4,bs 6,bs 8,bs 10,k1 l1,h.m2 l2,k4 l4,k6 l6,k8 l8,k10 l10,?_⟩
 exact ⟨⟨bs,r,hv,dv,λl=>(k0 l12).cong (by decide) (by unfold fourJ;decide),λl=>k1 ((upd_other L true (by decide:(1:Nat)≠11)).symm.trans l),λl=>k4 ((upd_other L true (by decide:(4:Nat)≠11)).symm.trans l),λl=>k6 ((upd_other L true (by decide:(6:Nat)≠11)).symm.trans l),λl=>k8 ((upd_other L true (by decide:(8:Nat)≠11)).symm.trans l),λl=>k10 ((upd_other L true (by decide:(10:Nat)≠11)).symm.trans l),λ_=>rfl⟩,λl=>h.m0 ((upd_other L true (by decide:(0:Nat)≠11)).symm.trans l),λl=>h.m2 ((upd_other L true (by decide:(2:Nat)≠11)).symm.trans l),λl=>h.m3 ((upd_other L true (by decide:(3:Nat)≠11)).symm.trans l),λl=>h.m5 ((upd_other L true (by decide:(5:Nat)≠11)).symm.trans l),λl=>h.m7 ((upd_other L true (by decide:(7:Nat)≠11)).symm.trans l),λl=>h.m9 ((upd_other L true (by decide:(9:Nat)≠11)).symm.trans l),λ_=>by rw [upd_other L true (by decide:(1:Nat)≠11),upd_other L true (by decide:(4:Nat)≠11),upd_other L true (by decide:(6:Nat)≠11),upd_other L true (by decide:(8:Nat)≠11),upd_other L true (by decide:(10:Nat)≠11)];exact ⟨l1,l4,l6,l8,l10⟩,λl=>(by rw [upd_other L true (by decide:(12:Nat)≠11),l12] at l;cases l),λl=>(by have:=h.t ((upd_other L true (by decide:(13:Nat)≠11)).symm.trans l);rw [l12] at this;cases this.2)⟩
theorem NwC.bx (h:NwC n a w L X v6 v10 v11 v12 v13 v14 v15 v16 v17 v18 v19 v20 v21 v22) (hl:L 12=false) (l11:L 11=true):∃ (r b1 b2 b3 b4:Nat),v21= .agg #[.pointer (some ⟨r,0,none⟩),.int .i64 a,.slice none 0 0,.slice (some ⟨b1,0,none⟩) n n,.slice none 0 0,.slice (some ⟨b2,0,none⟩) n n,.slice (some ⟨b3,0,none⟩) n n,.slice (some ⟨b4,0,none⟩) n n]∧NwC n a w (upd L 12 true) (X.alloc (.cells #[.pointer (some ⟨r,0,none⟩),.int .i64 a,.slice none 0 0,.slice (some ⟨b1,0,none⟩) n n,.slice none 0 0,.slice (some ⟨b2,0,none⟩) n n,.slice (some ⟨b3,0,none⟩) n n,.slice (some ⟨b4,0,none⟩) n n] 165)) v6 v10 v11 v12 v13 v14 v15 v16 v17 v18 v19 v20 v21 (.pointer (some ⟨X.heap.size,0,none⟩)):=by
 obtain ⟨bs,r,hv,dv,k0,k1,k4,k6,k8,k10,k11⟩:=h.k
 obtain ⟨p1,p4,p6,p8,p10⟩:=h.p l11
 refine ⟨r,bs 4,bs 6,bs 8,bs 10,k11 l11,?_⟩
 exact ⟨⟨bs,r,hv,dv,λl=>(by rw [upd_same] at l;cases l),λl=>k1 ((upd_other L true (by decide:(1:Nat)≠12)).symm.trans l),λl=>k4 ((upd_other L true (by decide:(4:Nat)≠12)).symm.trans l),λl=>k6 ((upd_other L true (by decide:(6:Nat)≠12)).symm.trans l),λl=>k8 ((upd_other L true (by decide:(8:Nat)≠12)).symm.trans l),λl=>k10 ((upd_other L true (by decide:(10:Nat)≠12)).symm.trans l),λl=>k11 ((upd_other L true (by decide:(11:Nat)≠12)).symm.trans l)⟩,λl=>h.m0 ((upd_other L true (by decide:(0:Nat)≠12)).symm.trans l),λl=>h.m2 ((upd_other L true (by decide:(2:Nat)≠12)).symm.trans l),λl=>h.m3 ((upd_other L true (by decide:(3:Nat)≠12)).symm.trans l),λl=>h.m5 ((upd_other L true (by decide:(5:Nat)≠12)).symm.trans l),λl=>h.m7 ((upd_other L true (by decide:(7:Nat)≠12)).symm.trans l),λl=>h.m9 ((upd_other L true (by decide:(9:Nat)≠12)).symm.trans l),λl=>by have:=h.p ((upd_other L true (by decide:(11:Nat)≠12)).symm.trans l);rw [upd_other L true (by decide:(1:Nat)≠12),upd_other L true (by decide:(4:Nat)≠12),upd_other L true (by decide:(6:Nat)≠12),upd_other L true (by decide:(8:Nat)≠12),upd_other L true (by decide:(10:Nat)≠12)];exact this,λ_=>⟨(upd_other L true (by decide:(11:Nat)≠12)).trans l11,X.heap.size,r,bs 4,bs 6,bs 8,bs 10,hv,dv,rfl,(k0 hl).boxed p1 p4 p6 p8 p10⟩,λl=>by have:=h.t ((upd_other L true (by decide:(13:Nat)≠12)).symm.trans l);rw [hl] at this;cases this.2⟩
theorem NwC.as (h:NwC n a w L X v6 v10 v11 v12 v13 v14 v15 v16 v17 v18 v19 v20 v21 v22) (l12:L 12=true):NwC n a w (upd L 13 true) X v22 v10 v11 v12 v13 v14 v15 v16 v17 v18 v19 v20 v21 v22:=by
 obtain ⟨bs,r,hv,dv,k0,k1,k4,k6,k8,k10,k11⟩:=h.k
 exact ⟨⟨bs,r,hv,dv,λl=>(k0 ((upd_other L true (by decide:(12:Nat)≠13)).symm.trans l)).cong (by decide) (by unfold fourJ;decide),λl=>k1 ((upd_other L true (by decide:(1:Nat)≠13)).symm.trans l),λl=>k4 ((upd_other L true (by decide:(4:Nat)≠13)).symm.trans l),λl=>k6 ((upd_other L true (by decide:(6:Nat)≠13)).symm.trans l),λl=>k8 ((upd_other L true (by decide:(8:Nat)≠13)).symm.trans l),λl=>k10 ((upd_other L true (by decide:(10:Nat)≠13)).symm.trans l),λl=>k11 ((upd_other L true (by decide:(11:Nat)≠13)).symm.trans l)⟩,λl=>h.m0 ((upd_other L true (by decide:(0:Nat)≠13)).symm.trans l),λl=>h.m2 ((upd_other L true (by decide:(2:Nat)≠13)).symm.trans l),λl=>h.m3 ((upd_other L true (by decide:(3:Nat)≠13)).symm.trans l),λl=>h.m5 ((upd_other L true (by decide:(5:Nat)≠13)).symm.trans l),λl=>h.m7 ((upd_other L true (by decide:(7:Nat)≠13)).symm.trans l),λl=>h.m9 ((upd_other L true (by decide:(9:Nat)≠13)).symm.trans l),λl=>by have:=h.p ((upd_other L true (by decide:(11:Nat)≠13)).symm.trans l);rw [upd_other L true (by decide:(1:Nat)≠13),upd_other L true (by decide:(4:Nat)≠13),upd_other L true (by decide:(6:Nat)≠13),upd_other L true (by decide:(8:Nat)≠13),upd_other L true (by decide:(10:Nat)≠13)];exact this,λl=>by have:=h.q ((upd_other L true (by decide:(12:Nat)≠13)).symm.trans l);rw [upd_other L true (by decide:(11:Nat)≠13)];exact this,λ_=>⟨rfl,(upd_other L true (by decide:(12:Nat)≠13)).trans l12⟩⟩
end
section
variable {w X Y Z:World} {n:Nat} {a:Int} {rb r b1 b2 b3 b4:Nat} {hv dv vc vn v':Value}
theorem RnSt.after (h:RnSt w X n a rb r b1 b2 b3 b4 hv dv vc vn) (q:Wr Nil X Y):RnSt w Y n a rb r b1 b2 b3 b4 hv dv vc vn:=⟨(q.block _ (blk_lt h.obj) id).trans h.obj,h.mt.old q,h.lt,h.ne⟩
theorem RnSt.turns {vc' vn':Value} (h:RnSt w X n a rb r b1 b2 b3 b4 hv dv vc vn) (k:Wr (λj=>rb≤j) X Y) (ho:Y.heap[rb]? =some (.cells #[.pointer (some ⟨r,0,none⟩),.int .i64 a,vc',.slice (some ⟨b1,0,none⟩) n n,vn',.slice (some ⟨b2,0,none⟩) n n,.slice (some ⟨b3,0,none⟩) n n,.slice (some ⟨b4,0,none⟩) n n] 165 (0,0))):RnSt w Y n a rb r b1 b2 b3 b4 hv dv vc' vn':=by
 have hl:=h.lt
 refine ⟨ho,⟨⟨h.mt.ms.wr.trans k λb hb e=>by omega,λb hb=>⟨(h.mt.ms.all b hb).1,(k.block _ (blk_lt (h.mt.ms.all b hb).2) λe=> ?_).trans (h.mt.ms.all b hb).2⟩⟩,h.mt.seat.wrote k λj hj e=>by have:=hl.2.2 j hj;omega,h.mt.off⟩,hl,h.ne⟩
 simp only [List.mem_cons,List.not_mem_nil,or_false] at hb
 rcases hb with rfl|rfl|rfl|rfl<;>dsimp only at e<;>omega
end
structure RnB (w X:World) (n:Nat) (zs:List Int) (a:Int) (rb r b1 b2 b3 b4:Nat) (hv dv:Value) (g cap:Nat) (k:Nat) (vn:Value):Prop where
 st:RnSt w X n a rb r b1 b2 b3 b4 hv dv (.slice (some ⟨g,0,none⟩) n cap) vn
 lo:rb<g
 row:RowC X 0 g n (λj=>zs.getD j 0)
 own:X.ownsRow (g+1) 3 1 vn k ((List.range k).map λj:Nat=>Value.int .i64 ((j:Int)+1))
section
variable {w X Y:World} {n:Nat} {zs:List Int} {a:Int} {rb r b1 b2 b3 b4:Nat} {hv dv vn v':Value} {g cap k:Nat}
theorem RnB.after (h:RnB w X n zs a rb r b1 b2 b3 b4 hv dv g cap k vn) (q:Wr Nil X Y):RnB w Y n zs a rb r b1 b2 b3 b4 hv dv g cap k vn:=
 ⟨h.st.after q,h.lo,h.row.wrote q id,ownsRow_keep h.own λj hj=>q.block j (h.own.lt j hj).2 id⟩
theorem RnSt.row (n1:1≤n) (hz:zs.length=n) (h:RnSt w X n a rb r b1 b2 b3 b4 hv dv (.slice none 0 0) (.slice none 0 0)) (ho:Y.ownsRow (rb+1) 3 1 v' n (zs.map (Value.int .i64))) (hg:X.grownBy Y (Value.slice none 0 0).ownBlock):
  ∃ g cap,v'= .slice (some ⟨g,0,none⟩) n cap∧RnB w (Y.setCell ⟨rb,2,none⟩ v') n zs a rb r b1 b2 b3 b4 hv dv g cap 0 (.slice none 0 0):=by
 have hl:=h.lt
 have k1:Wr Nil X Y:=(Wr.refl _ X).grown hg λj hj _=>by simp [Value.ownBlock] at hj
 have k2:Wr (One rb) Y (Y.setCell ⟨rb,2,none⟩ v'):=(Wr.refl _ Y).setCell _ _ λ_=>rfl
 have o1:=(k1.block _ (blk_lt h.obj) id).trans h.obj
 obtain ⟨g,cap,cur,rfl,hg0,hc,hcap⟩:∃ g cap cur,v'= .slice (some ⟨g,0,none⟩) n cap∧rb+1≤g∧Y.heap[g]? =some (.cells cur 3 (0,0))∧∀ j,j<n→cur[j]? =some (Value.int .i64 (zs.getD j 0)):=by
  rcases ho.2 with ⟨_,e⟩|⟨g,cap,cur,e1,e2,e3,e4,e5,e6,e7⟩
  ·omega
  ·refine ⟨g,cap,cur,e1,e2,e3,λj hj=> ?_⟩
   have:(cur.toList.take (n*1))[j]? =some (Value.int .i64 (zs.getD j 0)):=by rw [e7,List.getElem?_map,List.getD_eq_getElem?_getD,List.getElem?_eq_getElem (by omega)];rfl
   rw [List.getElem?_take_of_lt (by omega)] at this
   simpa using this
 refine ⟨g,cap,rfl,h.turns ((k1.mono λb _ e=>e.elim).trans k2 λb _ e=>by cases e;exact Nat.le_refl _) ?_,by omega,⟨cur,?_,hcap⟩,World.ownsRow_nil _ _ _ _⟩
 ·rw [blk_setCell o1];rfl
 ·exact (k2.block _ (blk_lt hc) λe=>by cases e;omega).trans hc
theorem RnB.next (h:RnB w X n zs a rb r b1 b2 b3 b4 hv dv g cap k vn) (ho:Y.ownsRow (g+1) 3 1 v' (k+1) ((List.range k).map (λj:Nat=>Value.int .i64 ((j:Int)+1))++[.int .i64 ((k:Int)+1)])) (hg:X.grownBy Y vn.ownBlock):
  RnB w (Y.setCell ⟨rb,4,none⟩ v') n zs a rb r b1 b2 b3 b4 hv dv g cap (k+1) v':=by
 have hl:=h.lo
 have k1:Wr (λj=>vn.ownBlock=some j) X Y:=(Wr.refl _ X).grown hg λj hj _=>hj
 have hv0:∀ j,vn.ownBlock=some j→g+1≤j:=λj hj=>(h.own.lt j hj).1
 have k2:Wr (One rb) Y (Y.setCell ⟨rb,4,none⟩ v'):=(Wr.refl _ Y).setCell _ _ λ_=>rfl
 have o1:=(k1.block _ (blk_lt h.st.obj) λe=>by have:=hv0 rb e;omega).trans h.st.obj
 refine ⟨h.st.turns ((k1.mono λb _ e=>by have:=hv0 b e;omega).trans k2 λb _ e=>by cases e;exact Nat.le_refl _) ?_,h.lo,(h.row.wrote k1 λe=>by have:=hv0 g e;omega).wrote k2 (λe=>by cases e;omega),?_⟩
 ·rw [blk_setCell o1];rfl
 ·rw [List.range_succ,List.map_append]
  exact ownsRow_keep ho λj hj=>k2.block j (ho.lt j hj).2 λe=>by have:=(ho.lt j hj).1;cases e;omega
end
def rwF (g b1 d b2 b3 b4:Nat):Nat→Nat
 |0=>g
 |1=>b1
 |2=>d
 |3=>b2
 |4=>b3
 |_=>b4
def NewMlPost (w:World) (n:Nat) (zs:List Int) (a:Int) (e:Ending) (w':World):Prop:=
 ∃ M:Mp,e= .returned (.pointer (some ⟨M.r,0,none⟩))∧MlRaw w' M (newSeat n false false) (fv (newF zs n n))∧M.a=a∧M.base=w'.heap.size∧(w.heap.size≤M.r∧∀ k,MF M k→w.heap.size≤k)∧Wr Nil w w'
theorem RnB.done {w X:World} {n:Nat} {zs:List Int} {a:Int} {rb r b1 b2 b3 b4:Nat} {hv dv vn:Value} {g cap:Nat} (n1:1≤n) (h:RnB w X n zs a rb r b1 b2 b3 b4 hv dv g cap n vn):NewMlPost w n zs a (.returned (.pointer (some ⟨rb,0,none⟩))) X:=by
 have hl:=h.st.lt
 have hlo:=h.lo
 obtain ⟨d,dc,cur,rfl,hd,hc,hcap⟩:∃ d dc cur,vn= .slice (some ⟨d,0,none⟩) n dc∧g+1≤d∧X.heap[d]? =some (.cells cur 3 (0,0))∧∀ k,k<n→cur[k]? =some (Value.int .i64 ((k:Int)+1)):=by
  rcases h.own.2 with ⟨_,e⟩|⟨d,dc,cur,e1,e2,e3,e4,e5,e6,e7⟩
  ·omega
  ·refine ⟨d,dc,cur,e1,e2,e3,λk hk=> ?_⟩
   have:(cur.toList.take (n*1))[k]? =some (Value.int .i64 ((k:Int)+1)):=by rw [e7,List.getElem?_map,List.getElem?_range hk];rfl
   rw [List.getElem?_take_of_lt (by omega)] at this
   simpa using this
 have a1:=h.st.mt.ms.all (b1,1) (by simp)
 have a2:=h.st.mt.ms.all (b2,1) (by simp)
 have a3:=h.st.mt.ms.all (b3,1) (by simp)
 have a4:=h.st.mt.ms.all (b4,5) (by simp)
 have hnd:=h.st.ne
 dsimp only at a1 a2 a3 a4
 have hld:=blk_lt hc
 have hlg:=h.row.lt
 have hlr:=blk_lt h.st.obj
 have cases6:∀ i,i<6→i=0∨i=1∨i=2∨i=3∨i=4∨i=5:=λi hi=>by omega
 refine ⟨⟨rb,r,hv,dv,rwF g b1 d b2 b3 b4,cap,dc,a,0,X.heap.size⟩,rfl,⟨h.st.obj,h.st.mt.seat,λi hi=> ?_,λi hi=>⟨?_,λj hj hij=> ?_⟩,λk hk=>⟨?_,λi hi=> ?_⟩,⟨hlr,λi hi=> ?_,λk hk=>SrAt.lt h.st.mt.seat hk⟩⟩,rfl,rfl,⟨hl.1,λk hk=> ?_⟩,h.st.mt.ms.wr⟩
 ·rcases cases6 i hi with rfl|rfl|rfl|rfl|rfl|rfl
  ·exact h.row
  ·exact ⟨_,a1.2,λk hk=>rowA_at _ hk⟩
  ·exact ⟨_,hc,λk hk=>by rw [hcap k hk];rfl⟩
  ·exact ⟨_,a2.2,λk hk=>rowA_at _ hk⟩
  ·exact ⟨_,a3.2,λk hk=>rowA_at _ hk⟩
  ·exact ⟨_,a4.2,λk hk=>rowA_at _ hk⟩
 ·rcases cases6 i hi with rfl|rfl|rfl|rfl|rfl|rfl<;>simp only [rwF]<;>omega
 ·rcases cases6 i hi with rfl|rfl|rfl|rfl|rfl|rfl<;>rcases cases6 j hj with rfl|rfl|rfl|rfl|rfl|rfl<;>simp only [rwF]<;>first|exact absurd rfl hij|omega
 ·have:=hl.2.2 k hk;dsimp only;omega
 ·have s1:=hl.2.2 k hk
  have s2:=(h.st.mt.off k hk).2
  have t1:k≠b1:=λe=>s2 1 (by subst e;simp)
  have t2:k≠b2:=λe=>s2 1 (by subst e;simp)
  have t3:k≠b3:=λe=>s2 1 (by subst e;simp)
  have t4:k≠b4:=λe=>s2 5 (by subst e;simp)
  rcases cases6 i hi with rfl|rfl|rfl|rfl|rfl|rfl<;>simp only [rwF]<;>omega
 ·rcases cases6 i hi with rfl|rfl|rfl|rfl|rfl|rfl<;>simp only [rwF]<;>omega
 ·rcases hk with ⟨i,hi,rfl⟩|hk
  ·rcases cases6 i hi with rfl|rfl|rfl|rfl|rfl|rfl<;>simp only [rwF]<;>omega
  ·exact (h.st.mt.off k hk).1
theorem ml_new {w:World} {b o n cp:Nat} {zs:List Int} (hr:RowAt .i64 w (some ⟨b,o,none⟩) n zs) (n1:1≤n) (n2:n≤64) (a:Int):Calls prog 43 #[.slice (some ⟨b,o,none⟩) n cp,.int .i64 a] w (NewMlPost w n zs a):=by
 obtain ⟨i0,hi,hz0,hz1,hz2⟩:=info_parts info_int
 obtain ⟨j0,hj,hy0,hy1,hy2⟩:=info_parts info_u32
 have hmk:∀ w:World,(Instr.makeSlice 22 (.int .i64 (n:Int)) (.int .i64 (n:Int))).run prog w= .ok (.slice (some ⟨w.heap.size,0,none⟩) n n) (w.alloc (.cells (zr n 1) 3)):=by
  intro w
  have h:=Go.run_make (P:=prog) w 22 3 i0 _ underlying22 hi hz0 .i64 .i64 n n (by omega) (by omega) (by rw [hz2];omega) (by omega)
  rw [hz1] at h
  simp only [Int.toNat_natCast] at h
  rw [show madeCells (Value.int .i64 0).cells (n*1)=zr n 1 from made_row (.int .i64 0) n] at h
  exact h
 have hmu:∀ w:World,(Instr.makeSlice 53 (.int .i64 (n:Int)) (.int .i64 (n:Int))).run prog w= .ok (.slice (some ⟨w.heap.size,0,none⟩) n n) (w.alloc (.cells (zr n 5) 23)):=by
  intro w
  have h:=Go.run_make (P:=prog) w 53 23 j0 _ underlying53 hj hy0 .i64 .i64 n n (by omega) (by omega) (by rw [hy2];omega) (by omega)
  rw [hy1] at h
  simp only [Int.toNat_natCast] at h
  rw [show madeCells (Value.int .u32 0).cells (n*1)=zr n 5 from made_row (.int .u32 0) n] at h
  exact h
 generalize hA:zr n 1=A at hmk
 generalize hU:zr n 5=U at hmu
 have cS:=λW=>rs_new n false false n2 W
 have HA:=Lib.hid hA
 have HU:=Lib.hid hU
 have HR0:=Lib.hid hr
 clear hA hU hr hj hy0 hy1 hy2
 go_enter func43,ntmps43
 go_wp2
 go_cut [6] from 10 to 22 (λv6 wx=>∃ (rb r b1 b2 b3 b4:Nat) (hv dv:Value),v6= .pointer (some ⟨rb,0,none⟩)∧RnSt w wx n a rb r b1 b2 b3 b4 hv dv (.slice none 0 0) (.slice none 0 0))
 case first=>
  refine wp_region_any (by kernel_rfl) ?_
  refine wpAny_inv' (I:=λL act X=>∃ v6 v10 v11 v12 v13 v14 v15 v16 v17 v18 v19 v20 v21 v22:Value,act=⟨#[.slice (some ⟨b,o,none⟩) n cp,.int .i64 a,undef,undef,.pointer none,.int .i64 (n:Int),v6,undef,.slice (some ⟨b,o,none⟩) n cp,.int .i64 (n:Int),v10,v11,v12,v13,v14,v15,v16,v17,v18,v19,v20,v21,v22,undef,undef,undef,undef,undef,undef,undef,undef,undef,undef,undef,undef,undef,undef,undef,undef,undef,undef,undef,undef,undef,undef,undef,undef,undef,undef],[]⟩∧NwC n a w (λj=>L.getD j true) X v6 v10 v11 v12 v13 v14 v15 v16 v17 v18 v19 v20 v21 v22) ?hend ?hstep _ _ _ _ ?hst rfl (by kernel_rfl)
  case hst=>exact ⟨_,_,_,_,_,_,_,_,_,_,_,_,_,_,rfl,⟨⟨λ_=>0,0,.slice none 0 0,.slice none 0 0,λ_=>⟨(Wr.refl Nil w).drew,λj hj l=>(by rcases hj with rfl|rfl|rfl|rfl<;>cases l),λi j hi hj hne l=>(by rcases hi with rfl|rfl|rfl|rfl<;>cases l),λl=>(by cases l)⟩,λl=>(by cases l),λl=>(by cases l),λl=>(by cases l),λl=>(by cases l),λl=>(by cases l),λl=>(by cases l)⟩,λl=>(by cases l),λl=>(by cases l),λl=>(by cases l),λl=>(by cases l),λl=>(by cases l),λl=>(by cases l),λl=>(by cases l),λl=>(by cases l),λl=>(by cases l)⟩⟩
  case hend=>
   intro L act X hI hr
   obtain ⟨v6,v10,v11,v12,v13,v14,v15,v16,v17,v18,v19,v20,v21,v22,rfl,hC⟩:=hI
   have l13:L.getD 13 true=true:=hr 13
   obtain ⟨e6,l12⟩:=hC.t l13
   obtain ⟨_,rb,r,b1,b2,b3,b4,hv,dv,e22,hS⟩:=hC.q l12
   subst e22
   subst e6
   have HS:=Lib.hid hS
   clear hC hS hr l13 l12
   go_wp2
   go_meet
   exact ⟨rb,r,b1,b2,b3,b4,hv,dv,rfl,HS.out⟩
  case hstep=>
   intro L act X hI i op ho hl hr K' hK
   obtain ⟨v6,v10,v11,v12,v13,v14,v15,v16,v17,v18,v19,v20,v21,v22,rfl,hC⟩:=hI
   match i,ho,hl,hK with
   |0,ho,hl,hK=>
    cases ho
    clear hr
    have HC:=Lib.hid (And.intro hC hK)
    clear hC hK hl
    go_simp
    refine HC.out.2 _ _ ⟨_,_,_,_,_,_,_,_,_,_,_,_,_,_,rfl,?_⟩
    rw [getD_sets]
    exact HC.out.1.mv0
   |1,ho,hl,hK=>
    cases ho
    have e:v10= .int .i64 n:=hC.m0 (getD_ft (hr ⟨0,.data⟩ (by simp) rfl))
    subst e
    have HC:=Lib.hid (And.intro hC hl)
    clear hC hl hr
    go_simp
    go_wp2_with (go_at_call 65;(with_reducible refine (cS _).mono ?_);intro e w2 hq;unfold RsNewPost at hq;obtain ⟨r,hv,dv,rfl,hR,hnew,hW⟩:=hq;have HR:=Lib.hid (And.intro hR (And.intro hnew hW));clear hR hnew hW cS)
    try refine hK _ _ ?_
    refine ⟨_,_,_,_,_,_,_,_,_,_,_,_,_,_,rfl,?_⟩
    rw [getD_sets]
    exact HC.out.1.cl1 HC.out.2 HR.out.1 HR.out.2.1 HR.out.2.2
   |2,ho,hl,hK=>
    cases ho
    clear hr
    have HC:=Lib.hid (And.intro hC hK)
    clear hC hK hl
    go_simp
    refine HC.out.2 _ _ ⟨_,_,_,_,_,_,_,_,_,_,_,_,_,_,rfl,?_⟩
    rw [getD_sets]
    exact HC.out.1.mv2
   |3,ho,hl,hK=>
    cases ho
    clear hr
    have HC:=Lib.hid (And.intro hC hK)
    clear hC hK hl
    go_simp
    refine HC.out.2 _ _ ⟨_,_,_,_,_,_,_,_,_,_,_,_,_,_,rfl,?_⟩
    rw [getD_sets]
    exact HC.out.1.mv3
   |4,ho,hl,hK=>
    cases ho
    have e:v13= .int .i64 n:=hC.m3 (getD_ft (hr ⟨3,.data⟩ (by simp) rfl))
    subst e
    have HC:=Lib.hid (And.intro hC (And.intro hl hK))
    clear hC hK hl hr
    go_simp
    refine HC.out.2.2 _ _ ⟨_,_,_,_,_,_,_,_,_,_,_,_,_,_,rfl,?_⟩
    rw [getD_sets]
    exact HC.out.1.mk4 HA.out HC.out.2.1
   |5,ho,hl,hK=>
    cases ho
    clear hr
    have HC:=Lib.hid (And.intro hC hK)
    clear hC hK hl
    go_simp
    refine HC.out.2 _ _ ⟨_,_,_,_,_,_,_,_,_,_,_,_,_,_,rfl,?_⟩
    rw [getD_sets]
    exact HC.out.1.mv5
   |6,ho,hl,hK=>
    cases ho
    have e:v15= .int .i64 n:=hC.m5 (getD_ft (hr ⟨5,.data⟩ (by simp) rfl))
    subst e
    have HC:=Lib.hid (And.intro hC (And.intro hl hK))
    clear hC hK hl hr
    go_simp
    refine HC.out.2.2 _ _ ⟨_,_,_,_,_,_,_,_,_,_,_,_,_,_,rfl,?_⟩
    rw [getD_sets]
    exact HC.out.1.mk6 HA.out HC.out.2.1
   |7,ho,hl,hK=>
    cases ho
    clear hr
    have HC:=Lib.hid (And.intro hC hK)
    clear hC hK hl
    go_simp
    refine HC.out.2 _ _ ⟨_,_,_,_,_,_,_,_,_,_,_,_,_,_,rfl,?_⟩
    rw [getD_sets]
    exact HC.out.1.mv7
   |8,ho,hl,hK=>
    cases ho
    have e:v17= .int .i64 n:=hC.m7 (getD_ft (hr ⟨7,.data⟩ (by simp) rfl))
    subst e
    have HC:=Lib.hid (And.intro hC (And.intro hl hK))
    clear hC hK hl hr
    go_simp
    refine HC.out.2.2 _ _ ⟨_,_,_,_,_,_,_,_,_,_,_,_,_,_,rfl,?_⟩
    rw [getD_sets]
    exact HC.out.1.mk8 HA.out HC.out.2.1
   |9,ho,hl,hK=>
    cases ho
    clear hr
    have HC:=Lib.hid (And.intro hC hK)
    clear hC hK hl
    go_simp
    refine HC.out.2 _ _ ⟨_,_,_,_,_,_,_,_,_,_,_,_,_,_,rfl,?_⟩
    rw [getD_sets]
    exact HC.out.1.mv9
   |10,ho,hl,hK=>
    cases ho
    have e:v19= .int .i64 n:=hC.m9 (getD_ft (hr ⟨9,.data⟩ (by simp) rfl))
    subst e
    have HC:=Lib.hid (And.intro hC (And.intro hl hK))
    clear hC hK hl hr
    go_simp
    refine HC.out.2.2 _ _ ⟨_,_,_,_,_,_,_,_,_,_,_,_,_,_,rfl,?_⟩
    rw [getD_sets]
    exact HC.out.1.mk10 HU.out HC.out.2.1
   |11,ho,hl,hK=>
    cases ho
    obtain ⟨r,b1,b2,b3,b4,e11,e12,e14,e16,e18,e20,hN⟩:=hC.bd hl (getD_ft (hr ⟨1,.data⟩ (by simp) rfl)) (getD_ft (hr ⟨2,.data⟩ (by simp) rfl)) (getD_ft (hr ⟨4,.data⟩ (by simp) rfl)) (getD_ft (hr ⟨6,.data⟩ (by simp) rfl)) (getD_ft (hr ⟨8,.data⟩ (by simp) rfl)) (getD_ft (hr ⟨10,.data⟩ (by simp) rfl))
    subst e11 e12 e14 e16 e18 e20
    have HC:=Lib.hid (And.intro hN hK)
    clear hC hK hl hr hN
    go_simp
    refine HC.out.2 _ _ ⟨_,_,_,_,_,_,_,_,_,_,_,_,_,_,rfl,?_⟩
    rw [getD_sets]
    exact HC.out.1
   |12,ho,hl,hK=>
    cases ho
    obtain ⟨r,b1,b2,b3,b4,e21,hN⟩:=hC.bx hl (getD_ft (hr ⟨11,.data⟩ (by simp) rfl))
    subst e21
    have HC:=Lib.hid (And.intro hN hK)
    clear hC hK hl hr hN
    go_simp
    refine HC.out.2 _ _ ⟨_,_,_,_,_,_,_,_,_,_,_,_,_,_,rfl,?_⟩
    rw [getD_sets]
    exact HC.out.1
   |13,ho,hl,hK=>
    cases ho
    have hN:=hC.as (getD_ft (hr ⟨12,.data⟩ (by simp) rfl))
    have HC:=Lib.hid (And.intro hN hK)
    clear hC hK hl hr hN
    go_simp
    refine HC.out.2 _ _ ⟨_,_,_,_,_,_,_,_,_,_,_,_,_,_,rfl,?_⟩
    rw [getD_sets]
    exact HC.out.1
   |i+14,ho,hl,hK=>cases ho
 case rest=>
  obtain ⟨rb,r,b1,b2,b3,b4,hv,dv,rfl,hS⟩:=hcut
  clear hmk hmu HA HU cS
  have HS:=Lib.hid hS
  have hsr:=HR0.out.after hS.mt.ms.wr
  have HR1:=Lib.hid hsr
  have hb:rb<wc.heap.size:=blk_lt hS.obj
  have c2:wc.cell? ⟨rb,2,none⟩=some (.slice none 0 0):=(blk_cell hS.obj 2).trans rfl
  have hown:=World.ownsRow_nil wc (rb+1) 3 1
  clear hS hsr
  go_wp2_with (at_builtin;refine wpList_append_own _ rfl _ _ 22 rfl (rb+1) 3 i0 (.int .i64 0) 1 8 underlying22 hi hz0 hz1 hz2 rfl (by decide) _ _ _ rfl hown ⟨b,o,none⟩ n cp (zs.map (.int .i64)) rfl ?c0 ?c1 ?c2 ?c3 ?c4 ?c5 ?_)
  case c0=>rw [List.length_map,HR1.out.len];omega
  case c1=>
   intro j u hj
   rw [List.getElem?_map] at hj
   obtain ⟨y,hy,rfl⟩:=Option.map_eq_some_iff.1 hj
   have hjn:j<n:=by rw [←HR1.out.len];exact (List.getElem?_eq_some_iff.1 hy).1
   have:=HR1.out.cell _ rfl j hjn
   rw [this,List.getD_eq_getElem?_getD,hy]
   rfl
  case c2=>intro u hu;obtain ⟨y,_,rfl⟩:=List.mem_map.1 hu;rfl
  case c3=>unfold maxLen;omega
  case c4=>omega
  case c5=>omega
  ·intro v' w1 hown' hgrow _
   have o1:w1.heap[rb]? =_:=(((Wr.refl Nil _).grown hgrow λj hj _=>by simp [Value.ownBlock] at hj).block rb hb id).trans HS.out.obj
   have e1:w1.cell? ⟨rb,2,none⟩=some (.slice none 0 0):=(blk_cell o1 2).trans rfl
   have f1:=blk_frozen o1 2
   try rw [Nat.zero_add,List.nil_append] at hown'
   obtain ⟨g,cap,rfl,hB⟩:=HS.out.row n1 HR1.out.len hown' hgrow
   have HB:=Lib.hid hB
   clear hown' hgrow o1 hB c2 hown hb
   go_wp2
   go_loopw [7] (λi wr=>∃ (k:Nat) (v:Value),k≤n∧i= .int .i64 k∧RnB w wr n zs a rb r b1 b2 b3 b4 hv dv g cap k v) (λi _=>n-(intOf i).toNat)
   case atStart=>exact ⟨0,_,Nat.zero_le _,rfl,HB.out⟩
   case round=>
    clear HB HS HR1 e1 f1
    obtain ⟨k,v,hk,rfl,hS⟩:=hrel
    by_cases hlt:k<n
    ·have HS:=Lib.hid hS
     have k1:Wr Nil wr (wr.alloc (.cells #[.int .i64 ((k:Int)+1)] 3)):=(Wr.refl Nil wr).alloc _
     have hown:=(hS.after k1).own
     have hb:rb<wr.heap.size:=blk_lt hS.st.obj
     have hgl:=hS.row.lt
     have hwk:IntKind.i64.wrap ((k:Int)+1)=(k:Int)+1:=by rw [IntKind.wrap_i64];omega
     clear hS
     have c3:wr.cell? ⟨rb,4,none⟩=some v:=(blk_cell HS.out.st.obj 4).trans rfl
     go_wp2_with (at_builtin;refine wpList_append_own _ rfl _ _ 22 rfl (g+1) 3 i0 (.int .i64 0) 1 8 underlying22 hi hz0 hz1 hz2 rfl (by decide) _ _ _ rfl hown ⟨wr.heap.size,0,none⟩ 1 1 [.int .i64 ((k:Int)+1)] rfl rfl ?c1 ?c2 ?c3 ?c4 ?c5 ?_)
     case c1=>
      intro j u hj
      match j,hj with
      |0,hj=>simp at hj;subst hj;simp [Addr.add]
     case c2=>intro u hu;simp at hu;subst hu;rfl
     case c3=>unfold maxLen;omega
     case c4=>omega
     case c5=>simp;omega
     ·intro v' w1 hown' hgrow _
      obtain ⟨so,cp2,rfl⟩:=s_form hown'
      have o1:w1.heap[rb]? =_:=(((Wr.refl (λj=>v.ownBlock=some j) _).grown hgrow λj hj _=>hj).block rb (by have e:=nblk_alloc wr (.cells #[.int .i64 ((k:Int)+1)] 3);omega) (λe=>by have:=(hown.lt rb e).1;have:=HS.out.lo;omega)).trans (HS.out.after k1).st.obj
      have e1:w1.cell? ⟨rb,4,none⟩=some v:=(blk_cell o1 4).trans rfl
      have f1:=blk_frozen o1 4
      have HN:=Lib.hid ((HS.out.after k1).next hown' hgrow)
      clear hown' hgrow o1
      go_wp2
      go_roundw
      case rel=>exact ⟨k+1,.slice so (k+1) cp2,by omega,by go_num,HN.out⟩
      case measure=>simp [intOf];omega
    ·obtain rfl:k=n:=by omega
     go_wp2
     go_ret
     exact RnB.done n1 hS
def WordsMlPost (w:World) (n:Nat) (e:Ending) (w':World):Prop:=∃ g,e= .returned (.slice (some ⟨g,0,none⟩) (n+10) (n+10))∧RowAt .u32 w' (some ⟨g,0,none⟩) (n+10) (wordsH n)∧Wr Nil w w'
theorem words_row {w:World} {n:Nat} {A:Array Value} (hA:rowA (n+10) (λ_=> .int .u32 0)=A):RowAt .u32 (w.alloc (.cells ((A.setIfInBounds 0 (.int .u32 ((n:Int)+1))).setIfInBounds (n+9) (.int .u32 4294967292)) 23)) (some ⟨w.heap.size,0,none⟩) (n+10) (wordsH n):=by
 subst hA
 rw [rowA_set,rowA_set]
 refine ⟨wordsH_len n,(λe=>by cases e),λb hb j hj=> ?_⟩
 cases hb
 have e:(Addr.add ⟨w.heap.size,0,none⟩ j)=⟨w.heap.size,j,none⟩:=by
  simp [Addr.add]
  exact λe=>e.symm
 rw [e,blk_cell (blk_alloc_new w _),rowA_at _ hj]
 by_cases e9:j=n+9
 ·subst e9
  rw [upd_same]
  have:(wordsH n).getD (n+9) 0=4294967292:=by
   unfold wordsH
   rw [List.getD_eq_getElem?_getD,List.getElem?_append_right (by first|(simp;done)|(simp;omega))]
   simp
   try (rw [show n+9-(1+8+n)=0 by omega];rfl)
  rw [this]
 ·rw [upd_other _ _ e9]
  by_cases e0:j=0
  ·subst e0
   rw [upd_same]
   first|rfl|simp [wordsH]
  ·rw [upd_other _ _ e0]
   have:(wordsH n).getD j 0=0:=by
    unfold wordsH
    rw [List.getD_eq_getElem?_getD,List.getElem?_append_left (by simp;omega),List.append_assoc,List.getElem?_append_right (by simp;omega)]
    rw [List.replicate_append_replicate,List.getElem?_replicate]
    split<;>rfl
   rw [this]
theorem ml_words (n:Nat) (n1:1≤n) (n64:n≤64) (w:World):Calls prog 44 #[.int .i64 (n:Int)] w (WordsMlPost w n):=by
 obtain ⟨i0,hi,hz0,hz1,hz2⟩:=info_parts info_u32
 have hmk:∀ w:World,(Instr.makeSlice 53 (.int .i64 ((n:Int)+10)) (.int .i64 ((n:Int)+10))).run prog w= .ok (.slice (some ⟨w.heap.size,0,none⟩) (n+10) (n+10)) (w.alloc (.cells (rowA (n+10) λ_=> .int .u32 0) 23)):=by
  intro w
  have h:=Go.run_make (P:=prog) w 53 23 i0 _ underlying53 hi hz0 .i64 .i64 ((n:Int)+10) ((n:Int)+10) (by omega) (by omega) (by rw [hz2];omega) (by omega)
  rw [hz1] at h
  rw [show ((n:Int)+10).toNat=n+10 by omega] at h
  rw [show madeCells (Value.int .u32 0).cells ((n+10)*1)=rowA (n+10) (λ_=> .int .u32 0) from made_row (.int .u32 0) (n+10)] at h
  exact h
 generalize hA:rowA (n+10) (λ_=>Value.int .u32 0)=A at hmk
 have hw10:IntKind.i64.wrap ((n:Int)+10)=(n:Int)+10:=by rw [IntKind.wrap_i64];omega
 have hw9:IntKind.i64.wrap ((n:Int)+9)=(n:Int)+9:=by rw [IntKind.wrap_i64];omega
 have hw1:IntKind.i64.wrap ((n:Int)+1)=(n:Int)+1:=by rw [IntKind.wrap_i64];omega
 have hu1:IntKind.u32.wrap ((n:Int)+1)=(n:Int)+1:=by show ((n:Int)+1)%4294967296=_;omega
 have cW:=rp_word 1073741823 0 0 (by decide) (by decide) (by decide)
 rw [show wd 1073741823 0 0=4294967292 by rfl] at cW
 have HP:=Lib.hid (words_row (w:=w) (n:=n) hA)
 have hAs:A.size=n+10:=by rw [←hA];simp [rowA]
 have HA:=Lib.hid hA
 have j0:(0:Int)<(n:Int)+10:=by omega
 have j9:(n:Int)+9<(n:Int)+10:=by omega
 have j8:(0:Int)≤(n:Int)+9:=by omega
 have t9:((n:Int)+9).toNat=n+9:=by omega
 clear hA
 go_enter func44,ntmps44
 go_wp2_with (go_at_call 66;(with_reducible refine (cW _).mono ?_);rintro e w2 ⟨rfl,rfl⟩)
 go_ret
 exact ⟨_,rfl,HP.out,(Wr.refl Nil w).alloc _⟩
end Go.Proofs.YtcikfcplagelaaaGreat.Kh

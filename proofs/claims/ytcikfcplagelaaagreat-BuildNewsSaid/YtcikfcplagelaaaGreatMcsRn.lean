
import Derived.Test.YtcikfcplagelaaaGreatPortSame
import Derived.Test.YtcikfcplagelaaaGreatBuC
import Derived.Deep.CutBlock
import Derived.Test.YtcikfcplagelaaaGreatBuM
namespace Go.Proofs.YtcikfcplagelaaaGreat.Kc
open Go.RowKit
set_option linter.unusedVariables false
set_option maxRecDepth 100000
def rowA (n:Nat) (g:Nat→Value):Array Value:=((List.range n).map g).toArray
theorem rowA_at {n:Nat} (g:Nat→Value) {k:Nat} (hk:k<n):(rowA n g)[k]? =some (g k):=by
 unfold rowA
 rw [List.getElem?_toArray,List.getElem?_map,List.getElem?_range hk]
 rfl
theorem made_row (x:Value) (n:Nat):madeCells #[x] (n*1)=rowA n (λ_=>x):=by
 apply Array.ext'
 apply List.ext_getElem?
 intro m
 unfold madeCells rowA
 rw [Nat.mul_one]
 by_cases hm:m<n
 ·rw [Array.toList_map,List.getElem?_map,Array.toList_range,List.getElem?_range hm,List.getElem?_map,List.getElem?_range hm]
  simp [Nat.mod_one]
 ·rw [List.getElem?_eq_none (by simp;omega),List.getElem?_eq_none (by simp;omega)]
def inV (m:Nat→Int) (k:Nat):Value:= .int .i64 (m k)
structure Mp where
 r:Nat
 sr:Nat
 hv:Value
 dv:Value
 pc:Nat
 nd:Nat
 nc:Nat
 ah:Nat
 a:Int
 pr:Nat
 base:Nat
structure MlRaw (w:World) (M:Mp) (s:SS) (p nd ah:Nat→Int):Prop where
 obj:w.heap[M.r]? =some (.cells #[.pointer (some ⟨M.sr,0,none⟩),.int .i64 M.a,.slice (some ⟨M.pc,0,none⟩) s.n s.n,.slice (some ⟨M.nd,0,none⟩) s.n M.nc,.slice (some ⟨M.ah,0,none⟩) s.n s.n] 159 (0,0))
 seat:RsAt w M.sr M.hv M.dv s
 pcs:w.heap[M.pc]? =some (.cells (rowA s.n (inV p)) 3 (0,0))
 nds:∃ A:Array Value,w.heap[M.nd]? =some (.cells A 3 (0,0))∧∀ k,k<s.n→A[k]? =some (inV nd k)
 ahs:w.heap[M.ah]? =some (.cells (rowA s.n (inV ah)) 3 (0,0))
 ne:M.r≠M.pc∧M.r≠M.nd∧M.r≠M.ah∧M.pc≠M.nd∧M.pc≠M.ah∧M.nd≠M.ah
 off:∀ k,SF M.sr M.hv M.dv k→k≠M.r∧k≠M.pc∧k≠M.nd∧k≠M.ah
 low:M.r<M.base∧M.pc<M.base∧M.nd<M.base∧M.ah<M.base∧∀ k,SF M.sr M.hv M.dv k→k<M.base
def MF (M:Mp) (k:Nat):Prop:=k=M.pc∨k=M.nd∨k=M.ah∨SF M.sr M.hv M.dv k
theorem mf_sf {M:Mp} {k:Nat} (h:SF M.sr M.hv M.dv k):MF M k:= .inr (.inr (.inr h))
namespace MlRaw
variable {w w':World} {M:Mp} {s s':SS} {p nd ah:Nat→Int}
theorem wrote {S:Nat→Prop} (h:MlRaw w M s p nd ah) (k:Wr S w w') (h1:¬ S M.r) (h2:∀ j,MF M j→¬ S j):MlRaw w' M s p nd ah:=by
 obtain ⟨A,hA,hn⟩:=h.nds
 exact ⟨(k.block _ (blk_lt h.obj) h1).trans h.obj,h.seat.wrote k λj hj=>h2 j (mf_sf hj),(k.block _ (blk_lt h.pcs) (h2 _ (.inl rfl))).trans h.pcs,⟨A,(k.block _ (blk_lt hA) (h2 _ (.inr (.inl rfl)))).trans hA,hn⟩,(k.block _ (blk_lt h.ahs) (h2 _ (.inr (.inr (.inl rfl))))).trans h.ahs,h.ne,h.off,h.low⟩
theorem after (h:MlRaw w M s p nd ah) (k:Wr Nil w w'):MlRaw w' M s p nd ah:=h.wrote k id λ_ _=>id
theorem lt (h:MlRaw w M s p nd ah) {k:Nat} (hk:MF M k):k<w.heap.size:=by
 rcases hk with rfl|rfl|rfl|hk
 ·exact blk_lt h.pcs
 ·obtain ⟨A,hA,hq⟩:=h.nds;exact blk_lt hA
 ·exact blk_lt h.ahs
 ·exact SrAt.lt h.seat hk
end MlRaw
structure MlAt (w:World) (M:Mp) (f:FL):Prop where
 raw:∃ ah,MlRaw w M f.s f.pc f.node ah∧∀ k,k<f.s.n→f.pc k=2→ah k=f.ahd k
theorem MlAt.after {w w':World} {M:Mp} {f:FL} (h:MlAt w M f) (k:Wr Nil w w'):MlAt w' M f:=by
 obtain ⟨ah,h1,h2⟩:=h.raw
 exact ⟨ah,h1.after k,h2⟩
theorem MlAt.apart {w w':World} {M:Mp} {f:FL} {S:Nat→Prop} (h:MlAt w M f) (k:Wr S w w') (h1:¬ S M.r) (h2:∀ j,MF M j→¬ S j):MlAt w' M f:=by
 obtain ⟨ah,a,b⟩:=h.raw
 exact ⟨ah,a.wrote k h1 h2,b⟩
set_option maxHeartbeats 8000000
open _root_.Go.Proofs.Tryz Go.Deep
open Go.RowKit Go.BigFrame
structure MkA (w X:World) (B n:Nat) (a:Int) (r sr:Nat) (hv dv:Value) (pc mn:Nat) (nv:Value):Prop where
 obj:X.heap[r]? =some (.cells #[.pointer (some ⟨sr,0,none⟩),.int .i64 a,.slice (some ⟨pc,0,none⟩) n n,nv,.slice (some ⟨mn,0,none⟩) n n] 159 (0,0))
 seat:RsAt X sr hv dv (newSeat n false true)
 pcs:X.heap[pc]? =some (.cells (rowA n (inV λ_=>0)) 3 (0,0))
 ahs:X.heap[mn]? =some (.cells (rowA n (inV λ_=>0)) 3 (0,0))
 ne:r≠pc∧r≠mn∧pc≠mn
 off:∀ k,SF sr hv dv k→k≠r∧k≠pc∧k≠mn
 new:w.heap.size≤r∧w.heap.size≤pc∧w.heap.size≤mn∧∀ k,SF sr hv dv k→w.heap.size≤k
 low:r<B∧pc<B∧mn<B∧∀ k,SF sr hv dv k→k<B
 wr:Wr Nil w X
namespace MkA
variable {w X Y:World} {B n r sr pc mn:Nat} {a:Int} {hv dv nv:Value}
theorem apart {S:Nat→Prop} (h:MkA w X B n a r sr hv dv pc mn nv) (k:Wr S X Y) (hS:∀ b,b<X.heap.size→S b→B≤b):MkA w Y B n a r sr hv dv pc mn nv:=by
 have l:=h.low
 have nw:=h.new
 have lr:=blk_lt h.obj
 have lp:=blk_lt h.pcs
 have lm:=blk_lt h.ahs
 refine ⟨(k.block _ lr λe=>by have:=hS _ lr e;omega).trans h.obj,h.seat.wrote k λj hj e=>by have:=hS _ (SrAt.lt h.seat hj) e;have:=l.2.2.2 j hj;omega,(k.block _ lp λe=>by have:=hS _ lp e;omega).trans h.pcs,(k.block _ lm λe=>by have:=hS _ lm e;omega).trans h.ahs,h.ne,h.off,h.new,h.low,h.wr.trans k λb hb e=> ?_⟩
 have:=hS b (Nat.lt_of_lt_of_le hb h.wr.size) e
 omega
theorem after (h:MkA w X B n a r sr hv dv pc mn nv) (k:Wr Nil X Y):MkA w Y B n a r sr hv dv pc mn nv:=h.apart k λ_ _ e=>e.elim
theorem cell3 (h:MkA w X B n a r sr hv dv pc mn nv):X.cell? ⟨r,3,none⟩=some nv:=by rw [blk_cell h.obj];rfl
theorem frz (h:MkA w X B n a r sr hv dv pc mn nv):X.frozen? ⟨r,3,none⟩=false:=blk_frozen h.obj 3
theorem set3 (h:MkA w X B n a r sr hv dv pc mn nv) (v:Value):MkA w (X.setCell ⟨r,3,none⟩ v) B n a r sr hv dv pc mn v:=by
 have k:Wr (One r) X (X.setCell ⟨r,3,none⟩ v):=(Wr.refl _ X).setCell _ _ λ_=>rfl
 have nw:=h.new
 have ne:=h.ne
 refine ⟨(blk_setCell h.obj 3 v).trans rfl,h.seat.wrote k λj hj e=>(h.off j hj).1 e,(k.block _ (blk_lt h.pcs) λe=>ne.1 e.symm).trans h.pcs,(k.block _ (blk_lt h.ahs) λe=>ne.2.1 e.symm).trans h.ahs,h.ne,h.off,h.new,h.low,h.wr.trans k λb hb e=> ?_⟩
 have e:b=r:=e
 omega
end MkA
def MkPost (w:World) (n:Nat) (a:Int) (v:Value) (X:World):Prop:=
 ∃ (r sr:Nat) (hv dv:Value) (pc mn:Nat),v= .pointer (some ⟨r,0,none⟩)∧MkA w X X.heap.size n a r sr hv dv pc mn (.slice none 0 0)
theorem two_0 (w:World) (A B:Obj):((w.alloc A).alloc B).heap[w.heap.size]? =some A:=by
 rw [blk_alloc_lt _ _ _ (by rw [nblk_alloc];omega),blk_alloc_new]
theorem two_1 (w:World) (A B:Obj):((w.alloc A).alloc B).heap[w.heap.size+1]? =some B:=by
 rw [←nblk_alloc w A,blk_alloc_new]
theorem mk_end {w Wc w2 W:World} {n:Nat} {a:Int} {r pc mn lb:Nat} {hv dv:Value} {A B:Array Value} (hA:rowA n (inV λ_=>0)=A) (hB:rowA n (inV λ_=>0)=B) (h0:Wr Nil w Wc) (hR:RsAt w2 r hv dv (newSeat n false true)) (hnew:∀ k,SF r hv dv k→Wc.heap.size≤k) (hW:Wr Nil Wc w2) (h2:Wr Nil w2 W)
  (hp:W.heap[pc]? =some (.cells A 3 (0,0))) (hm:W.heap[mn]? =some (.cells B 3 (0,0))) (hpp:(w.heap.size≤pc∧pc<Wc.heap.size)∨w2.heap.size≤pc) (hmm:(w.heap.size≤mn∧mn<Wc.heap.size)∨w2.heap.size≤mn) (hne:pc≠mn) (hlb:lb=W.heap.size)
  (Y:World) (hY:Y=W.alloc (.cells #[.pointer (some ⟨r,0,none⟩),.int .i64 a,.slice (some ⟨pc,0,none⟩) n n,.slice none 0 0,.slice (some ⟨mn,0,none⟩) n n] 159)):MkPost w n a (.pointer (some ⟨lb,0,none⟩)) Y:=by
 subst hlb hY hA hB
 have k:Wr Nil W (W.alloc (.cells #[.pointer (some ⟨r,0,none⟩),.int .i64 a,.slice (some ⟨pc,0,none⟩) n n,.slice none 0 0,.slice (some ⟨mn,0,none⟩) n n] 159)):=(Wr.refl _ W).alloc _
 have e1:(W.alloc (.cells #[.pointer (some ⟨r,0,none⟩),.int .i64 a,.slice (some ⟨pc,0,none⟩) n n,.slice none 0 0,.slice (some ⟨mn,0,none⟩) n n] 159)).heap.size=W.heap.size+1:=nblk_alloc _ _
 have s0:=h0.size
 have s1:=hW.size
 have s2:=h2.size
 have lp:=blk_lt hp
 have lm:=blk_lt hm
 have hsf:∀ k,SF r hv dv k→Wc.heap.size≤k∧k<w2.heap.size:=λk hk=>⟨hnew k hk,SrAt.lt hR hk⟩
 refine ⟨W.heap.size,r,hv,dv,pc,mn,rfl,⟨blk_alloc_new W _,hR.after (h2.nil k),(k.block _ lp id).trans hp,(k.block _ lm id).trans hm,⟨by omega,by omega,hne⟩,λj hj=> ?_,⟨by omega,by omega,by omega,λj hj=> ?_⟩,⟨by omega,by omega,by omega,λj hj=> ?_⟩,((h0.nil hW).nil h2).nil k⟩⟩
 ·have:=hsf j hj
  omega
 ·have:=hsf j hj;omega
 ·have:=hsf j hj;omega
def ones1 (k:Nat):List Value:=(List.range k).map λ(i:Nat)=>Value.int .i64 ((i:Int)+1)
theorem ones1_more (k:Nat):ones1 (k+1)=ones1 k++[.int .i64 ((k:Int)+1)]:=by unfold ones1;rw [List.range_succ,List.map_append];rfl
structure MkL (w X:World) (B n:Nat) (a:Int) (r sr:Nat) (hv dv:Value) (pc mn k:Nat) (v:Value):Prop where
 am:MkA w X B n a r sr hv dv pc mn v
 own:X.ownsRow B 3 1 v k (ones1 k)
 sz:B≤X.heap.size
def NewMlPost (w:World) (n:Nat) (a:Int) (e:Ending) (w':World):Prop:=
 ∃ M:Mp,e= .returned (.pointer (some ⟨M.r,0,none⟩))∧MlRaw w' M (newSeat n false true) (λ_=>0) (nodeK n) (λ_=>0)∧M.a=a∧M.base=w'.heap.size∧(w.heap.size≤M.r∧∀ k,MF M k→w.heap.size≤k)∧Wr Nil w w'
theorem mk_done {w X:World} {B n:Nat} {a:Int} {r sr:Nat} {hv dv:Value} {pc mn:Nat} {v:Value} (h:MkL w X B n a r sr hv dv pc mn n v) (n1:1≤n) (hB:w.heap.size≤B):NewMlPost w n a (.returned (.pointer (some ⟨r,0,none⟩))) X:=by
 have l:=h.am.low
 have nw:=h.am.new
 have ne:=h.am.ne
 have sz:=h.sz
 have hl:=h.own.1
 rcases h.own.2 with ⟨_,h0⟩|⟨g,cap,cur,rfl,hb,hg,hnc,hcm,hcs,ht⟩
 ·omega
 ·have gl:=blk_lt hg
  refine ⟨⟨r,sr,hv,dv,pc,g,cap,mn,a,0,X.heap.size⟩,rfl,⟨h.am.obj,h.am.seat,h.am.pcs,⟨cur,hg,λk hk=> ?_⟩,h.am.ahs,⟨ne.1,by dsimp only;omega,ne.2.1,by dsimp only;omega,ne.2.2,by dsimp only;omega⟩,λj hj=> ?_,?_⟩,rfl,rfl,⟨nw.1,λj hj=> ?_⟩,h.am.wr⟩
  ·have hk:k<n:=hk
   have h2:(cur.toList.take (n*1))[k]? =(ones1 n)[k]? :=by rw [ht]
   rw [List.getElem?_take_of_lt (by omega)] at h2
   rw [←Array.getElem?_toList,h2]
   unfold ones1 inV nodeK
   rw [List.getElem?_map,List.getElem?_range hk,if_pos hk]
   rfl
  ·have o:=h.am.off j hj
   have q:=l.2.2.2 j hj
   dsimp only
   exact ⟨o.1,o.2.1,by omega,o.2.2⟩
  ·dsimp only
   exact ⟨by omega,by omega,by omega,by omega,λj hj=>by have:=l.2.2.2 j hj;omega⟩
  ·rcases hj with rfl|rfl|rfl|hj
   ·(try dsimp only);omega
   ·(try dsimp only);omega
   ·(try dsimp only);omega
   ·exact nw.2.2.2 j hj
theorem ml_new (n:Nat) (n1:1≤n) (n2:n≤64) (a:Int) (w:World):Calls prog 40 #[.int .i64 (n:Int),.int .i64 a] w (NewMlPost w n a):=by
 obtain ⟨i0,hi,hz0,hz1,hz2⟩:=info_parts info_int
 have hmk:∀ w:World,(Instr.makeSlice 22 (.int .i64 (n:Int)) (.int .i64 (n:Int))).run prog w= .ok (.slice (some ⟨w.heap.size,0,none⟩) n n) (w.alloc (.cells (rowA n (inV λ_=>0)) 3)):=by
  intro w
  have h:=Go.run_make (P:=prog) w 22 3 i0 _ underlying22 hi hz0 .i64 .i64 n n (by omega) (by omega) (by rw [hz2];omega) (by omega)
  rw [hz1] at h
  simp only [Int.toNat_natCast] at h
  rw [show madeCells (Value.int .i64 0).cells (n*1)=rowA n (inV λ_=>0) from made_row (.int .i64 0) n] at h
  exact h
 generalize hA:rowA n (inV λ_=>0)=A at hmk
 have cS:=λW=>rs_new n false true n2 W
 have HA:=Lib.hid (And.intro hA hA)
 clear hA
 go_enter func40,ntmps40
 go_upto_region 1 with fail
 go_cut [5] from 7 to 15 (λv5 wx=>MkPost w n a v5 wx)
 case first=>
  go_region_with (go_at_call 65;(with_reducible refine (cS _).mono ?_);intro e w2 hq;unfold RsNewPost at hq;obtain ⟨r,hv,dv,rfl,hR,hnew,hW⟩:=hq;have HR:=Lib.hid (And.intro hR (And.intro hnew hW));clear hR hnew hW cS)
  all_goals
   go_wp2
   go_meet
   first
    |exact mk_end HA.out.1 HA.out.2 ((Wr.refl Nil w).drew) HR.out.1 HR.out.2.1 HR.out.2.2 (((Wr.refl Nil w2).alloc _).alloc _) (two_0 w2 _ _) (two_1 w2 _ _) (by exact .inr (Nat.le_refl _)) (by exact .inr (Nat.le_succ _)) (by omega) (by simp only [nblk_alloc]) _ rfl
    |exact mk_end HA.out.1 HA.out.2 ((Wr.refl Nil w).drew) HR.out.1 HR.out.2.1 HR.out.2.2 (((Wr.refl Nil w2).alloc _).alloc _) (two_1 w2 _ _) (two_0 w2 _ _) (by exact .inr (Nat.le_succ _)) (by exact .inr (Nat.le_refl _)) (by omega) (by simp only [nblk_alloc]) _ rfl
    |exact mk_end HA.out.1 HA.out.2 (((Wr.refl Nil w).alloc _).drew) HR.out.1 HR.out.2.1 HR.out.2.2 ((Wr.refl Nil w2).alloc _) ((blk_alloc_lt w2 _ _ (Nat.lt_of_lt_of_le ((by have e:(w.alloc (.cells A 3)).heap.size=w.heap.size+1:=nblk_alloc _ _;show w.heap.size<(w.alloc (.cells A 3)).heap.size;omega)) HR.out.2.2.size)).trans ((HR.out.2.2.block w.heap.size ((by have e:(w.alloc (.cells A 3)).heap.size=w.heap.size+1:=nblk_alloc _ _;show w.heap.size<(w.alloc (.cells A 3)).heap.size;omega)) id).trans (blk_alloc_new w (.cells A 3)))) (blk_alloc_new w2 _) (by exact .inl ⟨Nat.le_refl _,(by have e:(w.alloc (.cells A 3)).heap.size=w.heap.size+1:=nblk_alloc _ _;show w.heap.size<(w.alloc (.cells A 3)).heap.size;omega)⟩) (by exact .inr (Nat.le_refl _)) (by have q1:w.heap.size<(w.alloc (.cells A 3)).heap.size:=(by have e:(w.alloc (.cells A 3)).heap.size=w.heap.size+1:=nblk_alloc _ _;show w.heap.size<(w.alloc (.cells A 3)).heap.size;omega);have q2:=HR.out.2.2.size;have q3:(w.alloc (.cells A 3)).heap.size≤w2.heap.size:=q2;omega) (by simp only [nblk_alloc]) _ rfl
    |exact mk_end HA.out.1 HA.out.2 (((Wr.refl Nil w).drew).alloc _) HR.out.1 HR.out.2.1 HR.out.2.2 ((Wr.refl Nil w2).alloc _) ((blk_alloc_lt w2 _ _ (Nat.lt_of_lt_of_le ((by have e:(w.alloc (.cells A 3)).heap.size=w.heap.size+1:=nblk_alloc _ _;show w.heap.size<(w.alloc (.cells A 3)).heap.size;omega)) HR.out.2.2.size)).trans ((HR.out.2.2.block w.heap.size ((by have e:(w.alloc (.cells A 3)).heap.size=w.heap.size+1:=nblk_alloc _ _;show w.heap.size<(w.alloc (.cells A 3)).heap.size;omega)) id).trans (blk_alloc_new w (.cells A 3)))) (blk_alloc_new w2 _) (by exact .inl ⟨Nat.le_refl _,(by have e:(w.alloc (.cells A 3)).heap.size=w.heap.size+1:=nblk_alloc _ _;show w.heap.size<(w.alloc (.cells A 3)).heap.size;omega)⟩) (by exact .inr (Nat.le_refl _)) (by have q1:w.heap.size<(w.alloc (.cells A 3)).heap.size:=(by have e:(w.alloc (.cells A 3)).heap.size=w.heap.size+1:=nblk_alloc _ _;show w.heap.size<(w.alloc (.cells A 3)).heap.size;omega);have q2:=HR.out.2.2.size;have q3:(w.alloc (.cells A 3)).heap.size≤w2.heap.size:=q2;omega) (by simp only [nblk_alloc]) _ rfl
    |exact mk_end HA.out.1 HA.out.2 (((Wr.refl Nil w).alloc _).drew) HR.out.1 HR.out.2.1 HR.out.2.2 ((Wr.refl Nil w2).alloc _) (blk_alloc_new w2 _) ((blk_alloc_lt w2 _ _ (Nat.lt_of_lt_of_le ((by have e:(w.alloc (.cells A 3)).heap.size=w.heap.size+1:=nblk_alloc _ _;show w.heap.size<(w.alloc (.cells A 3)).heap.size;omega)) HR.out.2.2.size)).trans ((HR.out.2.2.block w.heap.size ((by have e:(w.alloc (.cells A 3)).heap.size=w.heap.size+1:=nblk_alloc _ _;show w.heap.size<(w.alloc (.cells A 3)).heap.size;omega)) id).trans (blk_alloc_new w (.cells A 3)))) (by exact .inr (Nat.le_refl _)) (by exact .inl ⟨Nat.le_refl _,(by have e:(w.alloc (.cells A 3)).heap.size=w.heap.size+1:=nblk_alloc _ _;show w.heap.size<(w.alloc (.cells A 3)).heap.size;omega)⟩) (by have q1:w.heap.size<(w.alloc (.cells A 3)).heap.size:=(by have e:(w.alloc (.cells A 3)).heap.size=w.heap.size+1:=nblk_alloc _ _;show w.heap.size<(w.alloc (.cells A 3)).heap.size;omega);have q2:=HR.out.2.2.size;have q3:(w.alloc (.cells A 3)).heap.size≤w2.heap.size:=q2;omega) (by simp only [nblk_alloc]) _ rfl
    |exact mk_end HA.out.1 HA.out.2 (((Wr.refl Nil w).drew).alloc _) HR.out.1 HR.out.2.1 HR.out.2.2 ((Wr.refl Nil w2).alloc _) (blk_alloc_new w2 _) ((blk_alloc_lt w2 _ _ (Nat.lt_of_lt_of_le ((by have e:(w.alloc (.cells A 3)).heap.size=w.heap.size+1:=nblk_alloc _ _;show w.heap.size<(w.alloc (.cells A 3)).heap.size;omega)) HR.out.2.2.size)).trans ((HR.out.2.2.block w.heap.size ((by have e:(w.alloc (.cells A 3)).heap.size=w.heap.size+1:=nblk_alloc _ _;show w.heap.size<(w.alloc (.cells A 3)).heap.size;omega)) id).trans (blk_alloc_new w (.cells A 3)))) (by exact .inr (Nat.le_refl _)) (by exact .inl ⟨Nat.le_refl _,(by have e:(w.alloc (.cells A 3)).heap.size=w.heap.size+1:=nblk_alloc _ _;show w.heap.size<(w.alloc (.cells A 3)).heap.size;omega)⟩) (by have q1:w.heap.size<(w.alloc (.cells A 3)).heap.size:=(by have e:(w.alloc (.cells A 3)).heap.size=w.heap.size+1:=nblk_alloc _ _;show w.heap.size<(w.alloc (.cells A 3)).heap.size;omega);have q2:=HR.out.2.2.size;have q3:(w.alloc (.cells A 3)).heap.size≤w2.heap.size:=q2;omega) (by simp only [nblk_alloc]) _ rfl
    |exact mk_end HA.out.1 HA.out.2 ((((Wr.refl Nil w).alloc _).alloc _).drew) HR.out.1 HR.out.2.1 HR.out.2.2 (Wr.refl Nil w2) ((HR.out.2.2.block w.heap.size ((by have e:((w.alloc (.cells A 3)).alloc (.cells A 3)).heap.size=w.heap.size+1+1:=(by rw [nblk_alloc,nblk_alloc]);show w.heap.size<((w.alloc (.cells A 3)).alloc (.cells A 3)).heap.size;omega)) id).trans (two_0 w (.cells A 3) (.cells A 3))) ((HR.out.2.2.block (w.heap.size+1) ((by have e:((w.alloc (.cells A 3)).alloc (.cells A 3)).heap.size=w.heap.size+1+1:=(by rw [nblk_alloc,nblk_alloc]);show w.heap.size+1<((w.alloc (.cells A 3)).alloc (.cells A 3)).heap.size;omega)) id).trans (two_1 w (.cells A 3) (.cells A 3))) (by exact .inl ⟨Nat.le_refl _,(by have e:((w.alloc (.cells A 3)).alloc (.cells A 3)).heap.size=w.heap.size+1+1:=(by rw [nblk_alloc,nblk_alloc]);show w.heap.size<((w.alloc (.cells A 3)).alloc (.cells A 3)).heap.size;omega)⟩) (by exact .inl ⟨Nat.le_succ _,(by have e:((w.alloc (.cells A 3)).alloc (.cells A 3)).heap.size=w.heap.size+1+1:=(by rw [nblk_alloc,nblk_alloc]);show w.heap.size+1<((w.alloc (.cells A 3)).alloc (.cells A 3)).heap.size;omega)⟩) (by omega) rfl _ rfl
    |exact mk_end HA.out.1 HA.out.2 ((((Wr.refl Nil w).drew).alloc _).alloc _) HR.out.1 HR.out.2.1 HR.out.2.2 (Wr.refl Nil w2) ((HR.out.2.2.block w.heap.size ((by have e:((w.alloc (.cells A 3)).alloc (.cells A 3)).heap.size=w.heap.size+1+1:=(by rw [nblk_alloc,nblk_alloc]);show w.heap.size<((w.alloc (.cells A 3)).alloc (.cells A 3)).heap.size;omega)) id).trans (two_0 w (.cells A 3) (.cells A 3))) ((HR.out.2.2.block (w.heap.size+1) ((by have e:((w.alloc (.cells A 3)).alloc (.cells A 3)).heap.size=w.heap.size+1+1:=(by rw [nblk_alloc,nblk_alloc]);show w.heap.size+1<((w.alloc (.cells A 3)).alloc (.cells A 3)).heap.size;omega)) id).trans (two_1 w (.cells A 3) (.cells A 3))) (by exact .inl ⟨Nat.le_refl _,(by have e:((w.alloc (.cells A 3)).alloc (.cells A 3)).heap.size=w.heap.size+1+1:=(by rw [nblk_alloc,nblk_alloc]);show w.heap.size<((w.alloc (.cells A 3)).alloc (.cells A 3)).heap.size;omega)⟩) (by exact .inl ⟨Nat.le_succ _,(by have e:((w.alloc (.cells A 3)).alloc (.cells A 3)).heap.size=w.heap.size+1+1:=(by rw [nblk_alloc,nblk_alloc]);show w.heap.size+1<((w.alloc (.cells A 3)).alloc (.cells A 3)).heap.size;omega)⟩) (by omega) rfl _ rfl
    |exact mk_end HA.out.1 HA.out.2 ((((Wr.refl Nil w).alloc _).alloc _).drew) HR.out.1 HR.out.2.1 HR.out.2.2 (Wr.refl Nil w2) ((HR.out.2.2.block (w.heap.size+1) ((by have e:((w.alloc (.cells A 3)).alloc (.cells A 3)).heap.size=w.heap.size+1+1:=(by rw [nblk_alloc,nblk_alloc]);show w.heap.size+1<((w.alloc (.cells A 3)).alloc (.cells A 3)).heap.size;omega)) id).trans (two_1 w (.cells A 3) (.cells A 3))) ((HR.out.2.2.block w.heap.size ((by have e:((w.alloc (.cells A 3)).alloc (.cells A 3)).heap.size=w.heap.size+1+1:=(by rw [nblk_alloc,nblk_alloc]);show w.heap.size<((w.alloc (.cells A 3)).alloc (.cells A 3)).heap.size;omega)) id).trans (two_0 w (.cells A 3) (.cells A 3))) (by exact .inl ⟨Nat.le_succ _,(by have e:((w.alloc (.cells A 3)).alloc (.cells A 3)).heap.size=w.heap.size+1+1:=(by rw [nblk_alloc,nblk_alloc]);show w.heap.size+1<((w.alloc (.cells A 3)).alloc (.cells A 3)).heap.size;omega)⟩) (by exact .inl ⟨Nat.le_refl _,(by have e:((w.alloc (.cells A 3)).alloc (.cells A 3)).heap.size=w.heap.size+1+1:=(by rw [nblk_alloc,nblk_alloc]);show w.heap.size<((w.alloc (.cells A 3)).alloc (.cells A 3)).heap.size;omega)⟩) (by omega) rfl _ rfl
    |exact mk_end HA.out.1 HA.out.2 ((((Wr.refl Nil w).drew).alloc _).alloc _) HR.out.1 HR.out.2.1 HR.out.2.2 (Wr.refl Nil w2) ((HR.out.2.2.block (w.heap.size+1) ((by have e:((w.alloc (.cells A 3)).alloc (.cells A 3)).heap.size=w.heap.size+1+1:=(by rw [nblk_alloc,nblk_alloc]);show w.heap.size+1<((w.alloc (.cells A 3)).alloc (.cells A 3)).heap.size;omega)) id).trans (two_1 w (.cells A 3) (.cells A 3))) ((HR.out.2.2.block w.heap.size ((by have e:((w.alloc (.cells A 3)).alloc (.cells A 3)).heap.size=w.heap.size+1+1:=(by rw [nblk_alloc,nblk_alloc]);show w.heap.size<((w.alloc (.cells A 3)).alloc (.cells A 3)).heap.size;omega)) id).trans (two_0 w (.cells A 3) (.cells A 3))) (by exact .inl ⟨Nat.le_succ _,(by have e:((w.alloc (.cells A 3)).alloc (.cells A 3)).heap.size=w.heap.size+1+1:=(by rw [nblk_alloc,nblk_alloc]);show w.heap.size+1<((w.alloc (.cells A 3)).alloc (.cells A 3)).heap.size;omega)⟩) (by exact .inl ⟨Nat.le_refl _,(by have e:((w.alloc (.cells A 3)).alloc (.cells A 3)).heap.size=w.heap.size+1+1:=(by rw [nblk_alloc,nblk_alloc]);show w.heap.size<((w.alloc (.cells A 3)).alloc (.cells A 3)).heap.size;omega)⟩) (by omega) rfl _ rfl
 case rest=>
  clear hmk cS HA A
  unfold MkPost at hcut
  obtain ⟨r,sr,hv,dv,pc,mn,rfl,hM⟩:=hcut
  obtain ⟨B,hB⟩:∃ B,B=wc.heap.size:=⟨_,rfl⟩
  rw [←hB] at hM
  have HM:=Lib.hid (And.intro hM hB)
  clear hM hB
  go_wp2
  go_loopw [6] (λv6 wr=>∃ (k:Nat) (v:Value),k≤n∧v6= .int .i64 k∧MkL w wr B n a r sr hv dv pc mn k v) (λv6 _=>n-(intOf v6).toNat)
  case atStart=>exact ⟨0,.slice none 0 0,Nat.zero_le _,rfl,HM.out.1,World.ownsRow_nil _ _ _ _,by rw [HM.out.2];exact Nat.le_refl _⟩
  case round=>
   obtain ⟨k,v,hk,rfl,hL⟩:=hrel
   by_cases hlt:k<n
   ·obtain ⟨so,cp,rfl⟩:=own_form hL.own
    have c3:=hL.am.cell3
    have hown:=hL.own
    have hsz:=hL.sz
    have hwk:IntKind.i64.wrap ((k:Int)+1)=(k:Int)+1:=by rw [IntKind.wrap_i64];omega
    have key:∀ (w1:World) (v':Value),w1.ownsRow B 3 1 v' (k+1) (ones1 k++[.int .i64 ((k:Int)+1)])→(wr.alloc (.cells #[.int .i64 ((k:Int)+1)] 3)).grownBy w1 (Value.slice so k cp).ownBlock→MkA w w1 B n a r sr hv dv pc mn (.slice so k cp)∧MkL w (w1.setCell ⟨r,3,none⟩ v') B n a r sr hv dv pc mn (k+1) v':=λw1 v' ho hg=>by
     have k0:Wr Nil wr (wr.alloc (.cells #[.int .i64 ((k:Int)+1)] 3)):=(Wr.refl _ wr).alloc _
     have hM1:=hL.am.after k0
     have k1:Wr (λb=>(Value.slice so k cp).ownBlock=some b) (wr.alloc (.cells #[.int .i64 ((k:Int)+1)] 3)) w1:=(Wr.refl _ _).grown hg λb hb _=>hb
     have hM2:=hM1.apart k1 λb _ e=>(hL.own.lt b e).1
     refine ⟨hM2,hM2.set3 v',?_,?_⟩
     ·rw [ones1_more]
      refine ownsRow_keep ho λj hj=> ?_
      have hj1:=ho.lt j hj
      have kr:Wr (One r) w1 (w1.setCell ⟨r,3,none⟩ v'):=(Wr.refl _ w1).setCell _ _ λ_=>rfl
      exact kr.block j hj1.2 λe=>by have e:j=r:=e;have:=hM2.low.1;omega
     ·rw [nblk_setCell]
      have:=k0.size
      have:=k1.size
      omega
    have HK:=Lib.hid key
    clear key hL
    go_wp2_with (at_builtin;refine wpList_append_own _ rfl _ _ 22 rfl B 3 i0 (.int .i64 0) 1 8 underlying22 hi hz0 hz1 hz2 rfl (by decide) _ _ _ rfl (hown.alloc _) ⟨wr.heap.size,0,none⟩ 1 1 [.int .i64 ((k:Int)+1)] rfl rfl ?c1 ?c2 ?c3 ?c4 ?c5 ?_)
    case c1=>
     intro j u hj
     match j,hj with
     |0,hj=>simp at hj;subst hj;simp [Addr.add]
    case c2=>intro u hu;simp at hu;subst hu;rfl
    case c3=>unfold maxLen;omega
    case c4=>omega
    case c5=>simp;omega
    ·intro v' w1 hown' hgrow _
     obtain ⟨hM2,hL2⟩:=HK.out _ _ hown' hgrow
     obtain ⟨so',cp',rfl⟩:=own_form hown'
     have f3:=hM2.cell3
     have z3:=hM2.frz
     have HN:=Lib.hid hL2
     clear hM2 hL2 hown' hgrow
     go_wp2
     go_roundw
     case rel=>exact ⟨k+1,_,by omega,by go_num,HN.out⟩
     case measure=>simp [intOf];omega
   ·obtain rfl:k=n:=by omega
    have HN:=Lib.hid (mk_done hL n1 (by rw [HM.out.2];exact HM.out.1.wr.size))
    clear hL HM
    go_wp2
    go_ret
    exact HN.out
end Go.Proofs.YtcikfcplagelaaaGreat.Kc
namespace Go.Proofs.YtcikfcplagelaaaGreat.Km
open Go.RowKit
set_option linter.unusedVariables false
set_option maxRecDepth 100000
def rowA (n:Nat) (g:Nat→Value):Array Value:=((List.range n).map g).toArray
theorem made_row (x:Value) (n:Nat):madeCells #[x] (n*1)=rowA n (λ_=>x):=by
 apply Array.ext'
 apply List.ext_getElem?
 intro m
 unfold madeCells rowA
 rw [Nat.mul_one]
 by_cases hm:m<n
 ·rw [Array.toList_map,List.getElem?_map,Array.toList_range,List.getElem?_range hm,List.getElem?_map,List.getElem?_range hm]
  simp [Nat.mod_one]
 ·rw [List.getElem?_eq_none (by simp;omega),List.getElem?_eq_none (by simp;omega)]
def inV (m:Nat→Int) (k:Nat):Value:= .int .i64 (m k)
structure Mp where
 r:Nat
 sr:Nat
 hv:Value
 dv:Value
 pc:Nat
 ot:Nat
 a:Int
 pr:Nat
 base:Nat
structure MlRaw (w:World) (M:Mp) (s:SS) (p o:Nat→Int):Prop where
 obj:w.heap[M.r]? =some (.cells #[.pointer (some ⟨M.sr,0,none⟩),.int .i64 M.a,.slice (some ⟨M.pc,0,none⟩) s.n s.n,.slice (some ⟨M.ot,0,none⟩) s.n s.n] 161 (0,0))
 seat:RsAt w M.sr M.hv M.dv s
 pcs:w.heap[M.pc]? =some (.cells (rowA s.n (inV p)) 3 (0,0))
 ots:w.heap[M.ot]? =some (.cells (rowA s.n (inV o)) 3 (0,0))
 ne:M.r≠M.pc∧M.r≠M.ot∧M.pc≠M.ot
 off:∀ k,SF M.sr M.hv M.dv k→k≠M.r∧k≠M.pc∧k≠M.ot
 low:M.r<M.base∧M.pc<M.base∧M.ot<M.base∧∀ k,SF M.sr M.hv M.dv k→k<M.base
def MF (M:Mp) (k:Nat):Prop:=k=M.pc∨k=M.ot∨SF M.sr M.hv M.dv k
theorem mf_sf {M:Mp} {k:Nat} (h:SF M.sr M.hv M.dv k):MF M k:= .inr (.inr h)
namespace MlRaw
variable {w w':World} {M:Mp} {s s':SS} {p o:Nat→Int}
theorem wrote {S:Nat→Prop} (h:MlRaw w M s p o) (k:Wr S w w') (h1:¬ S M.r) (h2:∀ j,MF M j→¬ S j):MlRaw w' M s p o:=
 ⟨(k.block _ (blk_lt h.obj) h1).trans h.obj,h.seat.wrote k λj hj=>h2 j (mf_sf hj),(k.block _ (blk_lt h.pcs) (h2 _ (.inl rfl))).trans h.pcs,(k.block _ (blk_lt h.ots) (h2 _ (.inr (.inl rfl)))).trans h.ots,h.ne,h.off,h.low⟩
theorem after (h:MlRaw w M s p o) (k:Wr Nil w w'):MlRaw w' M s p o:=h.wrote k id λ_ _=>id
theorem lt (h:MlRaw w M s p o) {k:Nat} (hk:MF M k):k<w.heap.size:=by
 rcases hk with rfl|rfl|hk
 ·exact blk_lt h.pcs
 ·exact blk_lt h.ots
 ·exact SrAt.lt h.seat hk
end MlRaw
set_option maxHeartbeats 8000000
open _root_.Go.Proofs.Tryz Go.Deep
open Go.RowKit Go.BigFrame
structure MlAt (w:World) (M:Mp) (f:FL):Prop where
 raw:∃ o,MlRaw w M f.s f.pc o∧o=f.oth
theorem MlAt.after {w w':World} {M:Mp} {f:FL} (h:MlAt w M f) (k:Wr Nil w w'):MlAt w' M f:=by
 obtain ⟨o,a,b⟩:=h.raw
 exact ⟨o,a.after k,b⟩
theorem MlAt.apart {w w':World} {M:Mp} {f:FL} {S:Nat→Prop} (h:MlAt w M f) (k:Wr S w w') (h1:¬ S M.r) (h2:∀ j,MF M j→¬ S j):MlAt w' M f:=by
 obtain ⟨o,a,b⟩:=h.raw
 exact ⟨o,a.wrote k h1 h2,b⟩
def NewMlPost (w:World) (n:Nat) (a:Int) (e:Ending) (w':World):Prop:=
 ∃ M:Mp,e= .returned (.pointer (some ⟨M.r,0,none⟩))∧MlRaw w' M (newSeat n false true) (λ_=>0) (λ_=>0)∧M.a=a∧M.base=w'.heap.size∧(w.heap.size≤M.r∧∀ k,MF M k→w.heap.size≤k)∧Wr Nil w w'
theorem two_0 (w:World) (A B:Obj):((w.alloc A).alloc B).heap[w.heap.size]? =some A:=by
 rw [blk_alloc_lt _ _ _ (by rw [nblk_alloc];omega),blk_alloc_new]
theorem two_1 (w:World) (A B:Obj):((w.alloc A).alloc B).heap[w.heap.size+1]? =some B:=by
 rw [←nblk_alloc w A,blk_alloc_new]
theorem ml_end {w Wc w2 W:World} {n:Nat} {a:Int} {r pc mn lb:Nat} {hv dv:Value} {A B:Array Value} (hA:rowA n (inV λ_=>0)=A) (hB:rowA n (inV λ_=>0)=B) (h0:Wr Nil w Wc) (hR:RsAt w2 r hv dv (newSeat n false true)) (hnew:∀ k,SF r hv dv k→Wc.heap.size≤k) (hW:Wr Nil Wc w2) (h2:Wr Nil w2 W)
  (hp:W.heap[pc]? =some (.cells A 3 (0,0))) (hm:W.heap[mn]? =some (.cells B 3 (0,0))) (hpp:(w.heap.size≤pc∧pc<Wc.heap.size)∨w2.heap.size≤pc) (hmm:(w.heap.size≤mn∧mn<Wc.heap.size)∨w2.heap.size≤mn) (hne:pc≠mn) (hlb:lb=W.heap.size)
  (Y:World) (hY:Y=W.alloc (.cells #[.pointer (some ⟨r,0,none⟩),.int .i64 a,.slice (some ⟨pc,0,none⟩) n n,.slice (some ⟨mn,0,none⟩) n n] 161)):NewMlPost w n a (.returned (.pointer (some ⟨lb,0,none⟩))) Y:=by
 subst hlb hY hA hB
 have k:Wr Nil W (W.alloc (.cells #[.pointer (some ⟨r,0,none⟩),.int .i64 a,.slice (some ⟨pc,0,none⟩) n n,.slice (some ⟨mn,0,none⟩) n n] 161)):=(Wr.refl _ W).alloc _
 have e1:(W.alloc (.cells #[.pointer (some ⟨r,0,none⟩),.int .i64 a,.slice (some ⟨pc,0,none⟩) n n,.slice (some ⟨mn,0,none⟩) n n] 161)).heap.size=W.heap.size+1:=nblk_alloc _ _
 have s0:=h0.size
 have s1:=hW.size
 have s2:=h2.size
 have lp:=blk_lt hp
 have lm:=blk_lt hm
 have hsf:∀ k,SF r hv dv k→Wc.heap.size≤k∧k<w2.heap.size:=λk hk=>⟨hnew k hk,SrAt.lt hR hk⟩
 refine ⟨⟨W.heap.size,r,hv,dv,pc,mn,a,0,(W.alloc (.cells #[.pointer (some ⟨r,0,none⟩),.int .i64 a,.slice (some ⟨pc,0,none⟩) n n,.slice (some ⟨mn,0,none⟩) n n] 161)).heap.size⟩,rfl,⟨blk_alloc_new W _,hR.after (h2.nil k),(k.block _ lp id).trans hp,(k.block _ lm id).trans hm,⟨by dsimp only;omega,by dsimp only;omega,hne⟩,λj hj=> ?_,?_⟩,rfl,rfl,⟨by dsimp only;omega,λj hj=> ?_⟩,((h0.nil hW).nil h2).nil k⟩
 ·have:=hsf j hj
  dsimp only
  omega
 ·dsimp only
  exact ⟨by omega,by omega,by omega,λj hj=>by have:=hsf j hj;omega⟩
 ·rcases hj with rfl|rfl|hj
  ·(try dsimp only);omega
  ·(try dsimp only);omega
  ·have:=hsf j hj;omega
theorem ml_new (n:Nat) (n2:n≤64) (a:Int) (w:World):Calls prog 41 #[.int .i64 (n:Int),.int .i64 a] w (NewMlPost w n a):=by
 obtain ⟨i0,hi,hz0,hz1,hz2⟩:=info_parts info_int
 have hmk:∀ w:World,(Instr.makeSlice 22 (.int .i64 (n:Int)) (.int .i64 (n:Int))).run prog w= .ok (.slice (some ⟨w.heap.size,0,none⟩) n n) (w.alloc (.cells (rowA n (inV λ_=>0)) 3)):=by
  intro w
  have h:=Go.run_make (P:=prog) w 22 3 i0 _ underlying22 hi hz0 .i64 .i64 n n (by omega) (by omega) (by rw [hz2];omega) (by omega)
  rw [hz1] at h
  simp only [Int.toNat_natCast] at h
  rw [show madeCells (Value.int .i64 0).cells (n*1)=rowA n (inV λ_=>0) from made_row (.int .i64 0) n] at h
  exact h
 generalize hA:rowA n (inV λ_=>0)=A at hmk
 have cS:=λW=>rs_new n false true n2 W
 have HA:=Lib.hid (And.intro hA hA)
 clear hA
 go_enter func41,ntmps41
 go_wp2
 go_region_with (go_at_call 65;(with_reducible refine (cS _).mono ?_);intro e w2 hq;unfold RsNewPost at hq;obtain ⟨r,hv,dv,rfl,hR,hnew,hW⟩:=hq;have HR:=Lib.hid (And.intro hR (And.intro hnew hW));clear hR hnew hW cS)
 all_goals
  go_wp2
  go_ret
  first
   |exact ml_end HA.out.1 HA.out.2 ((Wr.refl Nil w).drew) HR.out.1 HR.out.2.1 HR.out.2.2 (((Wr.refl Nil w2).alloc _).alloc _) (two_0 w2 _ _) (two_1 w2 _ _) (by exact .inr (Nat.le_refl _)) (by exact .inr (Nat.le_succ _)) (by omega) (by simp only [nblk_alloc]) _ rfl
   |exact ml_end HA.out.1 HA.out.2 ((Wr.refl Nil w).drew) HR.out.1 HR.out.2.1 HR.out.2.2 (((Wr.refl Nil w2).alloc _).alloc _) (two_1 w2 _ _) (two_0 w2 _ _) (by exact .inr (Nat.le_succ _)) (by exact .inr (Nat.le_refl _)) (by omega) (by simp only [nblk_alloc]) _ rfl
   |exact ml_end HA.out.1 HA.out.2 (((Wr.refl Nil w).alloc _).drew) HR.out.1 HR.out.2.1 HR.out.2.2 ((Wr.refl Nil w2).alloc _) ((blk_alloc_lt w2 _ _ (Nat.lt_of_lt_of_le ((by have e:(w.alloc (.cells A 3)).heap.size=w.heap.size+1:=nblk_alloc _ _;show w.heap.size<(w.alloc (.cells A 3)).heap.size;omega)) HR.out.2.2.size)).trans ((HR.out.2.2.block w.heap.size ((by have e:(w.alloc (.cells A 3)).heap.size=w.heap.size+1:=nblk_alloc _ _;show w.heap.size<(w.alloc (.cells A 3)).heap.size;omega)) id).trans (blk_alloc_new w (.cells A 3)))) (blk_alloc_new w2 _) (by exact .inl ⟨Nat.le_refl _,(by have e:(w.alloc (.cells A 3)).heap.size=w.heap.size+1:=nblk_alloc _ _;show w.heap.size<(w.alloc (.cells A 3)).heap.size;omega)⟩) (by exact .inr (Nat.le_refl _)) (by have q1:w.heap.size<(w.alloc (.cells A 3)).heap.size:=(by have e:(w.alloc (.cells A 3)).heap.size=w.heap.size+1:=nblk_alloc _ _;show w.heap.size<(w.alloc (.cells A 3)).heap.size;omega);have q2:=HR.out.2.2.size;have q3:(w.alloc (.cells A 3)).heap.size≤w2.heap.size:=q2;omega) (by simp only [nblk_alloc]) _ rfl
   |exact ml_end HA.out.1 HA.out.2 (((Wr.refl Nil w).drew).alloc _) HR.out.1 HR.out.2.1 HR.out.2.2 ((Wr.refl Nil w2).alloc _) ((blk_alloc_lt w2 _ _ (Nat.lt_of_lt_of_le ((by have e:(w.alloc (.cells A 3)).heap.size=w.heap.size+1:=nblk_alloc _ _;show w.heap.size<(w.alloc (.cells A 3)).heap.size;omega)) HR.out.2.2.size)).trans ((HR.out.2.2.block w.heap.size ((by have e:(w.alloc (.cells A 3)).heap.size=w.heap.size+1:=nblk_alloc _ _;show w.heap.size<(w.alloc (.cells A 3)).heap.size;omega)) id).trans (blk_alloc_new w (.cells A 3)))) (blk_alloc_new w2 _) (by exact .inl ⟨Nat.le_refl _,(by have e:(w.alloc (.cells A 3)).heap.size=w.heap.size+1:=nblk_alloc _ _;show w.heap.size<(w.alloc (.cells A 3)).heap.size;omega)⟩) (by exact .inr (Nat.le_refl _)) (by have q1:w.heap.size<(w.alloc (.cells A 3)).heap.size:=(by have e:(w.alloc (.cells A 3)).heap.size=w.heap.size+1:=nblk_alloc _ _;show w.heap.size<(w.alloc (.cells A 3)).heap.size;omega);have q2:=HR.out.2.2.size;have q3:(w.alloc (.cells A 3)).heap.size≤w2.heap.size:=q2;omega) (by simp only [nblk_alloc]) _ rfl
   |exact ml_end HA.out.1 HA.out.2 (((Wr.refl Nil w).alloc _).drew) HR.out.1 HR.out.2.1 HR.out.2.2 ((Wr.refl Nil w2).alloc _) (blk_alloc_new w2 _) ((blk_alloc_lt w2 _ _ (Nat.lt_of_lt_of_le ((by have e:(w.alloc (.cells A 3)).heap.size=w.heap.size+1:=nblk_alloc _ _;show w.heap.size<(w.alloc (.cells A 3)).heap.size;omega)) HR.out.2.2.size)).trans ((HR.out.2.2.block w.heap.size ((by have e:(w.alloc (.cells A 3)).heap.size=w.heap.size+1:=nblk_alloc _ _;show w.heap.size<(w.alloc (.cells A 3)).heap.size;omega)) id).trans (blk_alloc_new w (.cells A 3)))) (by exact .inr (Nat.le_refl _)) (by exact .inl ⟨Nat.le_refl _,(by have e:(w.alloc (.cells A 3)).heap.size=w.heap.size+1:=nblk_alloc _ _;show w.heap.size<(w.alloc (.cells A 3)).heap.size;omega)⟩) (by have q1:w.heap.size<(w.alloc (.cells A 3)).heap.size:=(by have e:(w.alloc (.cells A 3)).heap.size=w.heap.size+1:=nblk_alloc _ _;show w.heap.size<(w.alloc (.cells A 3)).heap.size;omega);have q2:=HR.out.2.2.size;have q3:(w.alloc (.cells A 3)).heap.size≤w2.heap.size:=q2;omega) (by simp only [nblk_alloc]) _ rfl
   |exact ml_end HA.out.1 HA.out.2 (((Wr.refl Nil w).drew).alloc _) HR.out.1 HR.out.2.1 HR.out.2.2 ((Wr.refl Nil w2).alloc _) (blk_alloc_new w2 _) ((blk_alloc_lt w2 _ _ (Nat.lt_of_lt_of_le ((by have e:(w.alloc (.cells A 3)).heap.size=w.heap.size+1:=nblk_alloc _ _;show w.heap.size<(w.alloc (.cells A 3)).heap.size;omega)) HR.out.2.2.size)).trans ((HR.out.2.2.block w.heap.size ((by have e:(w.alloc (.cells A 3)).heap.size=w.heap.size+1:=nblk_alloc _ _;show w.heap.size<(w.alloc (.cells A 3)).heap.size;omega)) id).trans (blk_alloc_new w (.cells A 3)))) (by exact .inr (Nat.le_refl _)) (by exact .inl ⟨Nat.le_refl _,(by have e:(w.alloc (.cells A 3)).heap.size=w.heap.size+1:=nblk_alloc _ _;show w.heap.size<(w.alloc (.cells A 3)).heap.size;omega)⟩) (by have q1:w.heap.size<(w.alloc (.cells A 3)).heap.size:=(by have e:(w.alloc (.cells A 3)).heap.size=w.heap.size+1:=nblk_alloc _ _;show w.heap.size<(w.alloc (.cells A 3)).heap.size;omega);have q2:=HR.out.2.2.size;have q3:(w.alloc (.cells A 3)).heap.size≤w2.heap.size:=q2;omega) (by simp only [nblk_alloc]) _ rfl
   |exact ml_end HA.out.1 HA.out.2 ((((Wr.refl Nil w).alloc _).alloc _).drew) HR.out.1 HR.out.2.1 HR.out.2.2 (Wr.refl Nil w2) ((HR.out.2.2.block w.heap.size ((by have e:((w.alloc (.cells A 3)).alloc (.cells A 3)).heap.size=w.heap.size+1+1:=(by rw [nblk_alloc,nblk_alloc]);show w.heap.size<((w.alloc (.cells A 3)).alloc (.cells A 3)).heap.size;omega)) id).trans (two_0 w (.cells A 3) (.cells A 3))) ((HR.out.2.2.block (w.heap.size+1) ((by have e:((w.alloc (.cells A 3)).alloc (.cells A 3)).heap.size=w.heap.size+1+1:=(by rw [nblk_alloc,nblk_alloc]);show w.heap.size+1<((w.alloc (.cells A 3)).alloc (.cells A 3)).heap.size;omega)) id).trans (two_1 w (.cells A 3) (.cells A 3))) (by exact .inl ⟨Nat.le_refl _,(by have e:((w.alloc (.cells A 3)).alloc (.cells A 3)).heap.size=w.heap.size+1+1:=(by rw [nblk_alloc,nblk_alloc]);show w.heap.size<((w.alloc (.cells A 3)).alloc (.cells A 3)).heap.size;omega)⟩) (by exact .inl ⟨Nat.le_succ _,(by have e:((w.alloc (.cells A 3)).alloc (.cells A 3)).heap.size=w.heap.size+1+1:=(by rw [nblk_alloc,nblk_alloc]);show w.heap.size+1<((w.alloc (.cells A 3)).alloc (.cells A 3)).heap.size;omega)⟩) (by omega) rfl _ rfl
   |exact ml_end HA.out.1 HA.out.2 ((((Wr.refl Nil w).drew).alloc _).alloc _) HR.out.1 HR.out.2.1 HR.out.2.2 (Wr.refl Nil w2) ((HR.out.2.2.block w.heap.size ((by have e:((w.alloc (.cells A 3)).alloc (.cells A 3)).heap.size=w.heap.size+1+1:=(by rw [nblk_alloc,nblk_alloc]);show w.heap.size<((w.alloc (.cells A 3)).alloc (.cells A 3)).heap.size;omega)) id).trans (two_0 w (.cells A 3) (.cells A 3))) ((HR.out.2.2.block (w.heap.size+1) ((by have e:((w.alloc (.cells A 3)).alloc (.cells A 3)).heap.size=w.heap.size+1+1:=(by rw [nblk_alloc,nblk_alloc]);show w.heap.size+1<((w.alloc (.cells A 3)).alloc (.cells A 3)).heap.size;omega)) id).trans (two_1 w (.cells A 3) (.cells A 3))) (by exact .inl ⟨Nat.le_refl _,(by have e:((w.alloc (.cells A 3)).alloc (.cells A 3)).heap.size=w.heap.size+1+1:=(by rw [nblk_alloc,nblk_alloc]);show w.heap.size<((w.alloc (.cells A 3)).alloc (.cells A 3)).heap.size;omega)⟩) (by exact .inl ⟨Nat.le_succ _,(by have e:((w.alloc (.cells A 3)).alloc (.cells A 3)).heap.size=w.heap.size+1+1:=(by rw [nblk_alloc,nblk_alloc]);show w.heap.size+1<((w.alloc (.cells A 3)).alloc (.cells A 3)).heap.size;omega)⟩) (by omega) rfl _ rfl
   |exact ml_end HA.out.1 HA.out.2 ((((Wr.refl Nil w).alloc _).alloc _).drew) HR.out.1 HR.out.2.1 HR.out.2.2 (Wr.refl Nil w2) ((HR.out.2.2.block (w.heap.size+1) ((by have e:((w.alloc (.cells A 3)).alloc (.cells A 3)).heap.size=w.heap.size+1+1:=(by rw [nblk_alloc,nblk_alloc]);show w.heap.size+1<((w.alloc (.cells A 3)).alloc (.cells A 3)).heap.size;omega)) id).trans (two_1 w (.cells A 3) (.cells A 3))) ((HR.out.2.2.block w.heap.size ((by have e:((w.alloc (.cells A 3)).alloc (.cells A 3)).heap.size=w.heap.size+1+1:=(by rw [nblk_alloc,nblk_alloc]);show w.heap.size<((w.alloc (.cells A 3)).alloc (.cells A 3)).heap.size;omega)) id).trans (two_0 w (.cells A 3) (.cells A 3))) (by exact .inl ⟨Nat.le_succ _,(by have e:((w.alloc (.cells A 3)).alloc (.cells A 3)).heap.size=w.heap.size+1+1:=(by rw [nblk_alloc,nblk_alloc]);show w.heap.size+1<((w.alloc (.cells A 3)).alloc (.cells A 3)).heap.size;omega)⟩) (by exact .inl ⟨Nat.le_refl _,(by have e:((w.alloc (.cells A 3)).alloc (.cells A 3)).heap.size=w.heap.size+1+1:=(by rw [nblk_alloc,nblk_alloc]);show w.heap.size<((w.alloc (.cells A 3)).alloc (.cells A 3)).heap.size;omega)⟩) (by omega) rfl _ rfl
   |exact ml_end HA.out.1 HA.out.2 ((((Wr.refl Nil w).drew).alloc _).alloc _) HR.out.1 HR.out.2.1 HR.out.2.2 (Wr.refl Nil w2) ((HR.out.2.2.block (w.heap.size+1) ((by have e:((w.alloc (.cells A 3)).alloc (.cells A 3)).heap.size=w.heap.size+1+1:=(by rw [nblk_alloc,nblk_alloc]);show w.heap.size+1<((w.alloc (.cells A 3)).alloc (.cells A 3)).heap.size;omega)) id).trans (two_1 w (.cells A 3) (.cells A 3))) ((HR.out.2.2.block w.heap.size ((by have e:((w.alloc (.cells A 3)).alloc (.cells A 3)).heap.size=w.heap.size+1+1:=(by rw [nblk_alloc,nblk_alloc]);show w.heap.size<((w.alloc (.cells A 3)).alloc (.cells A 3)).heap.size;omega)) id).trans (two_0 w (.cells A 3) (.cells A 3))) (by exact .inl ⟨Nat.le_succ _,(by have e:((w.alloc (.cells A 3)).alloc (.cells A 3)).heap.size=w.heap.size+1+1:=(by rw [nblk_alloc,nblk_alloc]);show w.heap.size+1<((w.alloc (.cells A 3)).alloc (.cells A 3)).heap.size;omega)⟩) (by exact .inl ⟨Nat.le_refl _,(by have e:((w.alloc (.cells A 3)).alloc (.cells A 3)).heap.size=w.heap.size+1+1:=(by rw [nblk_alloc,nblk_alloc]);show w.heap.size<((w.alloc (.cells A 3)).alloc (.cells A 3)).heap.size;omega)⟩) (by omega) rfl _ rfl
end Go.Proofs.YtcikfcplagelaaaGreat.Km

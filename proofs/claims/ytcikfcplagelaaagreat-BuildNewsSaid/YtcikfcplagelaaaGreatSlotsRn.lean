
import Derived.Test.YtcikfcplagelaaaGreatPortSame
import Derived.Test.YtcikfcplagelaaaGreatBuF
import Derived.Deep.CutBlock
import Derived.Test.YtcikfcplagelaaaGreatBuS
namespace Go.Proofs.YtcikfcplagelaaaGreat.Kf
open Go.RowKit
set_option linter.unusedVariables false
set_option maxRecDepth 100000
def rowA (n:Nat) (g:Nat→Value):Array Value:=((List.range n).map g).toArray
theorem made_row (x:Value) (n:Nat):madeCells #[x] (n*1)=rowA n (λ_=>x):=by
 apply Array.ext'
 apply List.ext_getElem?
 intro m
 unfold madeCells rowA
 rw [Nat.mul_one]
 by_cases hm:m<n
 ·rw [Array.toList_map,List.getElem?_map,Array.toList_range,List.getElem?_range hm,List.getElem?_map,List.getElem?_range hm]
  simp [Nat.mod_one]
 ·rw [List.getElem?_eq_none (by simp;omega),List.getElem?_eq_none (by simp;omega)]
def pcV (p:Nat→Bool) (k:Nat):Value:= .int .i64 (b2i (p k))
def miV (m:Nat→Int) (k:Nat):Value:= .int .u32 (m k)
structure Mp where
 r:Nat
 sr:Nat
 hv:Value
 dv:Value
 pc:Nat
 mn:Nat
 a:Int
 pr:Nat
 base:Nat
structure MlRaw (w:World) (M:Mp) (s:SS) (p:Nat→Bool) (mi:Nat→Int):Prop where
 obj:w.heap[M.r]? =some (.cells #[.pointer (some ⟨M.sr,0,none⟩),.int .i64 M.a,.slice (some ⟨M.pc,0,none⟩) s.n s.n,.slice (some ⟨M.mn,0,none⟩) s.n s.n] 155 (0,0))
 seat:RsAt w M.sr M.hv M.dv s
 pcs:w.heap[M.pc]? =some (.cells (rowA s.n (pcV p)) 3 (0,0))
 min:w.heap[M.mn]? =some (.cells (rowA s.n (miV mi)) 23 (0,0))
 ne:M.r≠M.pc∧M.r≠M.mn∧M.pc≠M.mn
 off:∀ k,SF M.sr M.hv M.dv k→k≠M.r∧k≠M.pc∧k≠M.mn
 low:M.r<M.base∧M.pc<M.base∧M.mn<M.base∧∀ k,SF M.sr M.hv M.dv k→k<M.base
def MF (M:Mp) (k:Nat):Prop:=k=M.pc∨k=M.mn∨SF M.sr M.hv M.dv k
namespace MlRaw
variable {w w':World} {M:Mp} {s s':SS} {p:Nat→Bool} {mi:Nat→Int}
theorem wrote {S:Nat→Prop} (h:MlRaw w M s p mi) (k:Wr S w w') (h1:¬ S M.r) (h2:¬ S M.pc) (h3:¬ S M.mn) (h4:∀ j,SF M.sr M.hv M.dv j→¬ S j):MlRaw w' M s p mi:=
 ⟨(k.block _ (blk_lt h.obj) h1).trans h.obj,h.seat.wrote k h4,(k.block _ (blk_lt h.pcs) h2).trans h.pcs,(k.block _ (blk_lt h.min) h3).trans h.min,h.ne,h.off,h.low⟩
theorem after (h:MlRaw w M s p mi) (k:Wr Nil w w'):MlRaw w' M s p mi:=h.wrote k id id id λ_ _=>id
theorem lt (h:MlRaw w M s p mi) {k:Nat} (hk:MF M k):k<w.heap.size:=by
 rcases hk with rfl|rfl|hk
 ·exact blk_lt h.pcs
 ·exact blk_lt h.min
 ·exact SrAt.lt h.seat hk
end MlRaw
structure MlAt (w:World) (M:Mp) (f:FL):Prop where
 raw:∃ mi,MlRaw w M f.s f.dr mi∧(∀ k,0≤mi k∧mi k<4294967296)∧∀ k,k<f.s.n→f.dr k=true→mi k=f.num k
theorem MlAt.after {w w':World} {M:Mp} {f:FL} (h:MlAt w M f) (k:Wr Nil w w'):MlAt w' M f:=by
 obtain ⟨mi,h1,h2,h3⟩:=h.raw
 exact ⟨mi,h1.after k,h2,h3⟩
theorem mf_sf {M:Mp} {k:Nat} (h:SF M.sr M.hv M.dv k):MF M k:= .inr (.inr h)
theorem MlAt.apart {w w':World} {M:Mp} {f:FL} {S:Nat→Prop} (h:MlAt w M f) (k:Wr S w w') (h1:¬ S M.r) (h2:∀ j,MF M j→¬ S j):MlAt w' M f:=by
 obtain ⟨mi,a,b,c⟩:=h.raw
 exact ⟨mi,a.wrote k h1 (h2 _ (.inl rfl)) (h2 _ (.inr (.inl rfl))) λj hj=>h2 j (mf_sf hj),b,c⟩
set_option maxHeartbeats 8000000
open _root_.Go.Proofs.Tryz Go.Deep
open Go.RowKit Go.BigFrame
def WordsNewPost (w:World) (v:Int) (e:Ending) (w':World):Prop:=∃ g,e= .returned (.slice (some ⟨g,0,none⟩) 2 2)∧RowAt .u32 w' (some ⟨g,0,none⟩) 2 [v,v]∧Wr Nil w w'∧w.heap.size≤w'.heap.size
theorem ml_words (w:World) (v:Int):Calls prog 37 #[.int .u32 v] w (WordsNewPost w v):=by
 go_enter func37,ntmps37
 go_wp2
 go_ret
 have hW:Wr Nil w (w.alloc (.cells #[.int .u32 v,.int .u32 v] 23)):=(Wr.refl _ w).alloc _
 refine ⟨w.heap.size,rfl,⟨rfl,λe=>(by cases e),λb hb j hj=> ?_⟩,hW,hW.size⟩
 cases hb
 have hc:=blk_alloc_new w (.cells #[.int .u32 v,.int .u32 v] 23)
 rw [Go.Addr.add_lit,Nat.zero_add,blk_cell hc]
 match j,hj with
 |0,_=>rfl
 |1,_=>rfl
def NewMlPost (w:World) (n:Nat) (a:Int) (e:Ending) (w':World):Prop:=
 ∃ M:Mp,e= .returned (.pointer (some ⟨M.r,0,none⟩))∧MlRaw w' M (newSeat n false true) (λ_=>false) (λ_=>0)∧M.a=a∧M.base=w'.heap.size∧(w.heap.size≤M.r∧∀ k,MF M k→w.heap.size≤k)∧Wr Nil w w'
theorem two_0 (w:World) (A B:Obj):((w.alloc A).alloc B).heap[w.heap.size]? =some A:=by
 rw [blk_alloc_lt _ _ _ (by rw [nblk_alloc];omega),blk_alloc_new]
theorem two_1 (w:World) (A B:Obj):((w.alloc A).alloc B).heap[w.heap.size+1]? =some B:=by
 rw [←nblk_alloc w A,blk_alloc_new]
theorem ml_end {w Wc w2 W:World} {n:Nat} {a:Int} {r pc mn lb:Nat} {hv dv:Value} {A B:Array Value} (hA:rowA n (pcV λ_=>false)=A) (hB:rowA n (miV λ_=>0)=B) (h0:Wr Nil w Wc) (hR:RsAt w2 r hv dv (newSeat n false true)) (hnew:∀ k,SF r hv dv k→Wc.heap.size≤k) (hW:Wr Nil Wc w2) (h2:Wr Nil w2 W)
  (hp:W.heap[pc]? =some (.cells A 3 (0,0))) (hm:W.heap[mn]? =some (.cells B 23 (0,0))) (hpp:(w.heap.size≤pc∧pc<Wc.heap.size)∨w2.heap.size≤pc) (hmm:(w.heap.size≤mn∧mn<Wc.heap.size)∨w2.heap.size≤mn) (hne:pc≠mn) (hlb:lb=W.heap.size)
  (Y:World) (hY:Y=W.alloc (.cells #[.pointer (some ⟨r,0,none⟩),.int .i64 a,.slice (some ⟨pc,0,none⟩) n n,.slice (some ⟨mn,0,none⟩) n n] 155)):NewMlPost w n a (.returned (.pointer (some ⟨lb,0,none⟩))) Y:=by
 subst hlb hY hA hB
 have k:Wr Nil W (W.alloc (.cells #[.pointer (some ⟨r,0,none⟩),.int .i64 a,.slice (some ⟨pc,0,none⟩) n n,.slice (some ⟨mn,0,none⟩) n n] 155)):=(Wr.refl _ W).alloc _
 have e1:(W.alloc (.cells #[.pointer (some ⟨r,0,none⟩),.int .i64 a,.slice (some ⟨pc,0,none⟩) n n,.slice (some ⟨mn,0,none⟩) n n] 155)).heap.size=W.heap.size+1:=nblk_alloc _ _
 have s0:=h0.size
 have s1:=hW.size
 have s2:=h2.size
 have lp:=blk_lt hp
 have lm:=blk_lt hm
 have hsf:∀ k,SF r hv dv k→Wc.heap.size≤k∧k<w2.heap.size:=λk hk=>⟨hnew k hk,SrAt.lt hR hk⟩
 refine ⟨⟨W.heap.size,r,hv,dv,pc,mn,a,0,(W.alloc (.cells #[.pointer (some ⟨r,0,none⟩),.int .i64 a,.slice (some ⟨pc,0,none⟩) n n,.slice (some ⟨mn,0,none⟩) n n] 155)).heap.size⟩,rfl,⟨blk_alloc_new W _,hR.after (h2.nil k),(k.block _ lp id).trans hp,(k.block _ lm id).trans hm,⟨by dsimp only;omega,by dsimp only;omega,hne⟩,λj hj=> ?_,?_⟩,rfl,rfl,⟨by dsimp only;omega,λj hj=> ?_⟩,((h0.nil hW).nil h2).nil k⟩
 ·have:=hsf j hj
  dsimp only
  omega
 ·dsimp only
  exact ⟨by omega,by omega,by omega,λj hj=>by have:=hsf j hj;omega⟩
 ·rcases hj with rfl|rfl|hj
  ·(try dsimp only);omega
  ·(try dsimp only);omega
  ·have:=hsf j hj;omega
theorem ml_new (n:Nat) (n2:n≤64) (a:Int) (w:World):Calls prog 36 #[.int .i64 (n:Int),.int .i64 a] w (NewMlPost w n a):=by
 obtain ⟨i0,hi,hz0,hz1,hz2⟩:=info_parts info_int
 have hmk:∀ w:World,(Instr.makeSlice 22 (.int .i64 (n:Int)) (.int .i64 (n:Int))).run prog w= .ok (.slice (some ⟨w.heap.size,0,none⟩) n n) (w.alloc (.cells (rowA n (pcV λ_=>false)) 3)):=by
  intro w
  have h:=Go.run_make (P:=prog) w 22 3 i0 _ underlying22 hi hz0 .i64 .i64 n n (by omega) (by omega) (by rw [hz2];omega) (by omega)
  rw [hz1] at h
  simp only [Int.toNat_natCast] at h
  rw [show madeCells (Value.int .i64 0).cells (n*1)=rowA n (pcV λ_=>false) from made_row (.int .i64 0) n] at h
  exact h
 obtain ⟨j0,gi,gz0,gz1,gz2⟩:=info_parts (show (prog.info? 23).map (λi=>(i.zero,i.size,i.bytes))=some (some (.int .u32 0),1,4) by kernel_rfl)
 have hmm:∀ w:World,(Instr.makeSlice 53 (.int .i64 (n:Int)) (.int .i64 (n:Int))).run prog w= .ok (.slice (some ⟨w.heap.size,0,none⟩) n n) (w.alloc (.cells (rowA n (miV λ_=>0)) 23)):=by
  intro w
  have h:=Go.run_make (P:=prog) w 53 23 j0 _ underlying53 gi gz0 .i64 .i64 n n (by omega) (by omega) (by rw [gz2];omega) (by omega)
  rw [gz1] at h
  simp only [Int.toNat_natCast] at h
  rw [show madeCells (Value.int .u32 0).cells (n*1)=rowA n (miV λ_=>0) from made_row (.int .u32 0) n] at h
  exact h
 generalize hA:rowA n (pcV λ_=>false)=A at hmk
 generalize hB:rowA n (miV λ_=>0)=B at hmm
 have cS:=λW=>rs_new n false true n2 W
 have HA:=Lib.hid (And.intro hA hB)
 clear hA hB
 go_enter func36,ntmps36
 go_wp2
 go_region_with (go_at_call 65;(with_reducible refine (cS _).mono ?_);intro e w2 hq;unfold RsNewPost at hq;obtain ⟨r,hv,dv,rfl,hR,hnew,hW⟩:=hq;have HR:=Lib.hid (And.intro hR (And.intro hnew hW));clear hR hnew hW cS)
 all_goals
  go_wp2
  go_ret
  first
   |exact ml_end HA.out.1 HA.out.2 ((Wr.refl Nil w).drew) HR.out.1 HR.out.2.1 HR.out.2.2 (((Wr.refl Nil w2).alloc _).alloc _) (two_0 w2 _ _) (two_1 w2 _ _) (by exact .inr (Nat.le_refl _)) (by exact .inr (Nat.le_succ _)) (by omega) (by simp only [nblk_alloc]) _ rfl
   |exact ml_end HA.out.1 HA.out.2 ((Wr.refl Nil w).drew) HR.out.1 HR.out.2.1 HR.out.2.2 (((Wr.refl Nil w2).alloc _).alloc _) (two_1 w2 _ _) (two_0 w2 _ _) (by exact .inr (Nat.le_succ _)) (by exact .inr (Nat.le_refl _)) (by omega) (by simp only [nblk_alloc]) _ rfl
   |exact ml_end HA.out.1 HA.out.2 (((Wr.refl Nil w).alloc _).drew) HR.out.1 HR.out.2.1 HR.out.2.2 ((Wr.refl Nil w2).alloc _) ((blk_alloc_lt w2 _ _ (Nat.lt_of_lt_of_le ((by have e:(w.alloc (.cells A 3)).heap.size=w.heap.size+1:=nblk_alloc _ _;show w.heap.size<(w.alloc (.cells A 3)).heap.size;omega)) HR.out.2.2.size)).trans ((HR.out.2.2.block w.heap.size ((by have e:(w.alloc (.cells A 3)).heap.size=w.heap.size+1:=nblk_alloc _ _;show w.heap.size<(w.alloc (.cells A 3)).heap.size;omega)) id).trans (blk_alloc_new w (.cells A 3)))) (blk_alloc_new w2 _) (by exact .inl ⟨Nat.le_refl _,(by have e:(w.alloc (.cells A 3)).heap.size=w.heap.size+1:=nblk_alloc _ _;show w.heap.size<(w.alloc (.cells A 3)).heap.size;omega)⟩) (by exact .inr (Nat.le_refl _)) (by have q1:w.heap.size<(w.alloc (.cells A 3)).heap.size:=(by have e:(w.alloc (.cells A 3)).heap.size=w.heap.size+1:=nblk_alloc _ _;show w.heap.size<(w.alloc (.cells A 3)).heap.size;omega);have q2:=HR.out.2.2.size;have q3:(w.alloc (.cells A 3)).heap.size≤w2.heap.size:=q2;omega) (by simp only [nblk_alloc]) _ rfl
   |exact ml_end HA.out.1 HA.out.2 (((Wr.refl Nil w).drew).alloc _) HR.out.1 HR.out.2.1 HR.out.2.2 ((Wr.refl Nil w2).alloc _) ((blk_alloc_lt w2 _ _ (Nat.lt_of_lt_of_le ((by have e:(w.alloc (.cells A 3)).heap.size=w.heap.size+1:=nblk_alloc _ _;show w.heap.size<(w.alloc (.cells A 3)).heap.size;omega)) HR.out.2.2.size)).trans ((HR.out.2.2.block w.heap.size ((by have e:(w.alloc (.cells A 3)).heap.size=w.heap.size+1:=nblk_alloc _ _;show w.heap.size<(w.alloc (.cells A 3)).heap.size;omega)) id).trans (blk_alloc_new w (.cells A 3)))) (blk_alloc_new w2 _) (by exact .inl ⟨Nat.le_refl _,(by have e:(w.alloc (.cells A 3)).heap.size=w.heap.size+1:=nblk_alloc _ _;show w.heap.size<(w.alloc (.cells A 3)).heap.size;omega)⟩) (by exact .inr (Nat.le_refl _)) (by have q1:w.heap.size<(w.alloc (.cells A 3)).heap.size:=(by have e:(w.alloc (.cells A 3)).heap.size=w.heap.size+1:=nblk_alloc _ _;show w.heap.size<(w.alloc (.cells A 3)).heap.size;omega);have q2:=HR.out.2.2.size;have q3:(w.alloc (.cells A 3)).heap.size≤w2.heap.size:=q2;omega) (by simp only [nblk_alloc]) _ rfl
   |exact ml_end HA.out.1 HA.out.2 (((Wr.refl Nil w).alloc _).drew) HR.out.1 HR.out.2.1 HR.out.2.2 ((Wr.refl Nil w2).alloc _) (blk_alloc_new w2 _) ((blk_alloc_lt w2 _ _ (Nat.lt_of_lt_of_le ((by have e:(w.alloc (.cells B 23)).heap.size=w.heap.size+1:=nblk_alloc _ _;show w.heap.size<(w.alloc (.cells B 23)).heap.size;omega)) HR.out.2.2.size)).trans ((HR.out.2.2.block w.heap.size ((by have e:(w.alloc (.cells B 23)).heap.size=w.heap.size+1:=nblk_alloc _ _;show w.heap.size<(w.alloc (.cells B 23)).heap.size;omega)) id).trans (blk_alloc_new w (.cells B 23)))) (by exact .inr (Nat.le_refl _)) (by exact .inl ⟨Nat.le_refl _,(by have e:(w.alloc (.cells B 23)).heap.size=w.heap.size+1:=nblk_alloc _ _;show w.heap.size<(w.alloc (.cells B 23)).heap.size;omega)⟩) (by have q1:w.heap.size<(w.alloc (.cells B 23)).heap.size:=(by have e:(w.alloc (.cells B 23)).heap.size=w.heap.size+1:=nblk_alloc _ _;show w.heap.size<(w.alloc (.cells B 23)).heap.size;omega);have q2:=HR.out.2.2.size;have q3:(w.alloc (.cells B 23)).heap.size≤w2.heap.size:=q2;omega) (by simp only [nblk_alloc]) _ rfl
   |exact ml_end HA.out.1 HA.out.2 (((Wr.refl Nil w).drew).alloc _) HR.out.1 HR.out.2.1 HR.out.2.2 ((Wr.refl Nil w2).alloc _) (blk_alloc_new w2 _) ((blk_alloc_lt w2 _ _ (Nat.lt_of_lt_of_le ((by have e:(w.alloc (.cells B 23)).heap.size=w.heap.size+1:=nblk_alloc _ _;show w.heap.size<(w.alloc (.cells B 23)).heap.size;omega)) HR.out.2.2.size)).trans ((HR.out.2.2.block w.heap.size ((by have e:(w.alloc (.cells B 23)).heap.size=w.heap.size+1:=nblk_alloc _ _;show w.heap.size<(w.alloc (.cells B 23)).heap.size;omega)) id).trans (blk_alloc_new w (.cells B 23)))) (by exact .inr (Nat.le_refl _)) (by exact .inl ⟨Nat.le_refl _,(by have e:(w.alloc (.cells B 23)).heap.size=w.heap.size+1:=nblk_alloc _ _;show w.heap.size<(w.alloc (.cells B 23)).heap.size;omega)⟩) (by have q1:w.heap.size<(w.alloc (.cells B 23)).heap.size:=(by have e:(w.alloc (.cells B 23)).heap.size=w.heap.size+1:=nblk_alloc _ _;show w.heap.size<(w.alloc (.cells B 23)).heap.size;omega);have q2:=HR.out.2.2.size;have q3:(w.alloc (.cells B 23)).heap.size≤w2.heap.size:=q2;omega) (by simp only [nblk_alloc]) _ rfl
   |exact ml_end HA.out.1 HA.out.2 ((((Wr.refl Nil w).alloc _).alloc _).drew) HR.out.1 HR.out.2.1 HR.out.2.2 (Wr.refl Nil w2) ((HR.out.2.2.block w.heap.size ((by have e:((w.alloc (.cells A 3)).alloc (.cells B 23)).heap.size=w.heap.size+1+1:=(by rw [nblk_alloc,nblk_alloc]);show w.heap.size<((w.alloc (.cells A 3)).alloc (.cells B 23)).heap.size;omega)) id).trans (two_0 w (.cells A 3) (.cells B 23))) ((HR.out.2.2.block (w.heap.size+1) ((by have e:((w.alloc (.cells A 3)).alloc (.cells B 23)).heap.size=w.heap.size+1+1:=(by rw [nblk_alloc,nblk_alloc]);show w.heap.size+1<((w.alloc (.cells A 3)).alloc (.cells B 23)).heap.size;omega)) id).trans (two_1 w (.cells A 3) (.cells B 23))) (by exact .inl ⟨Nat.le_refl _,(by have e:((w.alloc (.cells A 3)).alloc (.cells B 23)).heap.size=w.heap.size+1+1:=(by rw [nblk_alloc,nblk_alloc]);show w.heap.size<((w.alloc (.cells A 3)).alloc (.cells B 23)).heap.size;omega)⟩) (by exact .inl ⟨Nat.le_succ _,(by have e:((w.alloc (.cells A 3)).alloc (.cells B 23)).heap.size=w.heap.size+1+1:=(by rw [nblk_alloc,nblk_alloc]);show w.heap.size+1<((w.alloc (.cells A 3)).alloc (.cells B 23)).heap.size;omega)⟩) (by omega) rfl _ rfl
   |exact ml_end HA.out.1 HA.out.2 ((((Wr.refl Nil w).drew).alloc _).alloc _) HR.out.1 HR.out.2.1 HR.out.2.2 (Wr.refl Nil w2) ((HR.out.2.2.block w.heap.size ((by have e:((w.alloc (.cells A 3)).alloc (.cells B 23)).heap.size=w.heap.size+1+1:=(by rw [nblk_alloc,nblk_alloc]);show w.heap.size<((w.alloc (.cells A 3)).alloc (.cells B 23)).heap.size;omega)) id).trans (two_0 w (.cells A 3) (.cells B 23))) ((HR.out.2.2.block (w.heap.size+1) ((by have e:((w.alloc (.cells A 3)).alloc (.cells B 23)).heap.size=w.heap.size+1+1:=(by rw [nblk_alloc,nblk_alloc]);show w.heap.size+1<((w.alloc (.cells A 3)).alloc (.cells B 23)).heap.size;omega)) id).trans (two_1 w (.cells A 3) (.cells B 23))) (by exact .inl ⟨Nat.le_refl _,(by have e:((w.alloc (.cells A 3)).alloc (.cells B 23)).heap.size=w.heap.size+1+1:=(by rw [nblk_alloc,nblk_alloc]);show w.heap.size<((w.alloc (.cells A 3)).alloc (.cells B 23)).heap.size;omega)⟩) (by exact .inl ⟨Nat.le_succ _,(by have e:((w.alloc (.cells A 3)).alloc (.cells B 23)).heap.size=w.heap.size+1+1:=(by rw [nblk_alloc,nblk_alloc]);show w.heap.size+1<((w.alloc (.cells A 3)).alloc (.cells B 23)).heap.size;omega)⟩) (by omega) rfl _ rfl
   |exact ml_end HA.out.1 HA.out.2 ((((Wr.refl Nil w).alloc _).alloc _).drew) HR.out.1 HR.out.2.1 HR.out.2.2 (Wr.refl Nil w2) ((HR.out.2.2.block (w.heap.size+1) ((by have e:((w.alloc (.cells B 23)).alloc (.cells A 3)).heap.size=w.heap.size+1+1:=(by rw [nblk_alloc,nblk_alloc]);show w.heap.size+1<((w.alloc (.cells B 23)).alloc (.cells A 3)).heap.size;omega)) id).trans (two_1 w (.cells B 23) (.cells A 3))) ((HR.out.2.2.block w.heap.size ((by have e:((w.alloc (.cells B 23)).alloc (.cells A 3)).heap.size=w.heap.size+1+1:=(by rw [nblk_alloc,nblk_alloc]);show w.heap.size<((w.alloc (.cells B 23)).alloc (.cells A 3)).heap.size;omega)) id).trans (two_0 w (.cells B 23) (.cells A 3))) (by exact .inl ⟨Nat.le_succ _,(by have e:((w.alloc (.cells B 23)).alloc (.cells A 3)).heap.size=w.heap.size+1+1:=(by rw [nblk_alloc,nblk_alloc]);show w.heap.size+1<((w.alloc (.cells B 23)).alloc (.cells A 3)).heap.size;omega)⟩) (by exact .inl ⟨Nat.le_refl _,(by have e:((w.alloc (.cells B 23)).alloc (.cells A 3)).heap.size=w.heap.size+1+1:=(by rw [nblk_alloc,nblk_alloc]);show w.heap.size<((w.alloc (.cells B 23)).alloc (.cells A 3)).heap.size;omega)⟩) (by omega) rfl _ rfl
   |exact ml_end HA.out.1 HA.out.2 ((((Wr.refl Nil w).drew).alloc _).alloc _) HR.out.1 HR.out.2.1 HR.out.2.2 (Wr.refl Nil w2) ((HR.out.2.2.block (w.heap.size+1) ((by have e:((w.alloc (.cells B 23)).alloc (.cells A 3)).heap.size=w.heap.size+1+1:=(by rw [nblk_alloc,nblk_alloc]);show w.heap.size+1<((w.alloc (.cells B 23)).alloc (.cells A 3)).heap.size;omega)) id).trans (two_1 w (.cells B 23) (.cells A 3))) ((HR.out.2.2.block w.heap.size ((by have e:((w.alloc (.cells B 23)).alloc (.cells A 3)).heap.size=w.heap.size+1+1:=(by rw [nblk_alloc,nblk_alloc]);show w.heap.size<((w.alloc (.cells B 23)).alloc (.cells A 3)).heap.size;omega)) id).trans (two_0 w (.cells B 23) (.cells A 3))) (by exact .inl ⟨Nat.le_succ _,(by have e:((w.alloc (.cells B 23)).alloc (.cells A 3)).heap.size=w.heap.size+1+1:=(by rw [nblk_alloc,nblk_alloc]);show w.heap.size+1<((w.alloc (.cells B 23)).alloc (.cells A 3)).heap.size;omega)⟩) (by exact .inl ⟨Nat.le_refl _,(by have e:((w.alloc (.cells B 23)).alloc (.cells A 3)).heap.size=w.heap.size+1+1:=(by rw [nblk_alloc,nblk_alloc]);show w.heap.size<((w.alloc (.cells B 23)).alloc (.cells A 3)).heap.size;omega)⟩) (by omega) rfl _ rfl
end Go.Proofs.YtcikfcplagelaaaGreat.Kf
namespace Go.Proofs.YtcikfcplagelaaaGreat.Ks
open Go.RowKit
set_option linter.unusedVariables false
set_option maxRecDepth 100000
def rowA (n:Nat) (g:Nat→Value):Array Value:=((List.range n).map g).toArray
theorem made_row (x:Value) (n:Nat):madeCells #[x] (n*1)=rowA n (λ_=>x):=by
 apply Array.ext'
 apply List.ext_getElem?
 intro m
 unfold madeCells rowA
 rw [Nat.mul_one]
 by_cases hm:m<n
 ·rw [Array.toList_map,List.getElem?_map,Array.toList_range,List.getElem?_range hm,List.getElem?_map,List.getElem?_range hm]
  simp [Nat.mod_one]
 ·rw [List.getElem?_eq_none (by simp;omega),List.getElem?_eq_none (by simp;omega)]
def inV (m:Nat→Int) (k:Nat):Value:= .int .i64 (m k)
structure Mp where
 r:Nat
 sr:Nat
 hv:Value
 dv:Value
 pc:Nat
 mn:Nat
 a:Int
 n:Nat
 pr:Nat
 base:Nat
structure MlRaw (w:World) (M:Mp) (s:SS) (p:Nat→Int) (mi:Nat→Int):Prop where
 obj:w.heap[M.r]? =some (.cells #[.pointer (some ⟨M.sr,0,none⟩),.int .i64 M.a,.int .i64 (M.n:Nat),.slice (some ⟨M.pc,0,none⟩) s.n s.n,.slice (some ⟨M.mn,0,none⟩) s.n s.n] 157 (0,0))
 seat:RsAt w M.sr M.hv M.dv s
 pcs:w.heap[M.pc]? =some (.cells (rowA s.n (inV p)) 3 (0,0))
 min:w.heap[M.mn]? =some (.cells (rowA s.n (inV mi)) 3 (0,0))
 ne:M.r≠M.pc∧M.r≠M.mn∧M.pc≠M.mn
 off:∀ k,SF M.sr M.hv M.dv k→k≠M.r∧k≠M.pc∧k≠M.mn
 low:M.r<M.base∧M.pc<M.base∧M.mn<M.base∧∀ k,SF M.sr M.hv M.dv k→k<M.base
def MF (M:Mp) (k:Nat):Prop:=k=M.pc∨k=M.mn∨SF M.sr M.hv M.dv k
set_option maxHeartbeats 8000000
open _root_.Go.Proofs.Tryz Go.Deep
open Go.RowKit Go.BigFrame
def NewMlPost (w:World) (n sz:Nat) (a:Int) (e:Ending) (w':World):Prop:=
 ∃ M:Mp,e= .returned (.pointer (some ⟨M.r,0,none⟩))∧MlRaw w' M (newSeat n false false) (λ_=>0) (λ_=>0)∧M.a=a∧M.n=sz∧M.base=w'.heap.size∧(w.heap.size≤M.r∧∀ k,MF M k→w.heap.size≤k)∧Wr Nil w w'
theorem two_0 (w:World) (A B:Obj):((w.alloc A).alloc B).heap[w.heap.size]? =some A:=by
 rw [blk_alloc_lt _ _ _ (by rw [nblk_alloc];omega),blk_alloc_new]
theorem two_1 (w:World) (A B:Obj):((w.alloc A).alloc B).heap[w.heap.size+1]? =some B:=by
 rw [←nblk_alloc w A,blk_alloc_new]
theorem ml_end {w Wc w2 W:World} {n sz:Nat} {a:Int} {r pc mn lb:Nat} {hv dv:Value} {A B:Array Value} (hA:rowA n (inV λ_=>0)=A) (hB:rowA n (inV λ_=>0)=B) (h0:Wr Nil w Wc) (hR:RsAt w2 r hv dv (newSeat n false false)) (hnew:∀ k,SF r hv dv k→Wc.heap.size≤k) (hW:Wr Nil Wc w2) (h2:Wr Nil w2 W)
  (hp:W.heap[pc]? =some (.cells A 3 (0,0))) (hm:W.heap[mn]? =some (.cells B 3 (0,0))) (hpp:(w.heap.size≤pc∧pc<Wc.heap.size)∨w2.heap.size≤pc) (hmm:(w.heap.size≤mn∧mn<Wc.heap.size)∨w2.heap.size≤mn) (hne:pc≠mn) (hlb:lb=W.heap.size)
  (Y:World) (hY:Y=W.alloc (.cells #[.pointer (some ⟨r,0,none⟩),.int .i64 a,.int .i64 (sz:Nat),.slice (some ⟨pc,0,none⟩) n n,.slice (some ⟨mn,0,none⟩) n n] 157)):NewMlPost w n sz a (.returned (.pointer (some ⟨lb,0,none⟩))) Y:=by
 subst hlb hY hA hB
 have k:Wr Nil W (W.alloc (.cells #[.pointer (some ⟨r,0,none⟩),.int .i64 a,.int .i64 (sz:Nat),.slice (some ⟨pc,0,none⟩) n n,.slice (some ⟨mn,0,none⟩) n n] 157)):=(Wr.refl _ W).alloc _
 have e1:(W.alloc (.cells #[.pointer (some ⟨r,0,none⟩),.int .i64 a,.int .i64 (sz:Nat),.slice (some ⟨pc,0,none⟩) n n,.slice (some ⟨mn,0,none⟩) n n] 157)).heap.size=W.heap.size+1:=nblk_alloc _ _
 have s0:=h0.size
 have s1:=hW.size
 have s2:=h2.size
 have lp:=blk_lt hp
 have lm:=blk_lt hm
 have hsf:∀ k,SF r hv dv k→Wc.heap.size≤k∧k<w2.heap.size:=λk hk=>⟨hnew k hk,SrAt.lt hR hk⟩
 refine ⟨⟨W.heap.size,r,hv,dv,pc,mn,a,sz,0,(W.alloc (.cells #[.pointer (some ⟨r,0,none⟩),.int .i64 a,.int .i64 (sz:Nat),.slice (some ⟨pc,0,none⟩) n n,.slice (some ⟨mn,0,none⟩) n n] 157)).heap.size⟩,rfl,⟨blk_alloc_new W _,hR.after (h2.nil k),(k.block _ lp id).trans hp,(k.block _ lm id).trans hm,⟨by dsimp only;omega,by dsimp only;omega,hne⟩,λj hj=> ?_,?_⟩,rfl,rfl,rfl,⟨by dsimp only;omega,λj hj=> ?_⟩,((h0.nil hW).nil h2).nil k⟩
 ·have:=hsf j hj
  dsimp only
  omega
 ·dsimp only
  exact ⟨by omega,by omega,by omega,λj hj=>by have:=hsf j hj;omega⟩
 ·rcases hj with rfl|rfl|hj
  ·(try dsimp only);omega
  ·(try dsimp only);omega
  ·have:=hsf j hj;omega
theorem ml_new (n sz:Nat) (n2:n≤64) (a:Int) (w:World):Calls prog 38 #[.int .i64 (n:Int),.int .i64 (sz:Nat),.int .i64 a] w (NewMlPost w n sz a):=by
 obtain ⟨i0,hi,hz0,hz1,hz2⟩:=info_parts info_int
 have hmk:∀ w:World,(Instr.makeSlice 22 (.int .i64 (n:Int)) (.int .i64 (n:Int))).run prog w= .ok (.slice (some ⟨w.heap.size,0,none⟩) n n) (w.alloc (.cells (rowA n (inV λ_=>0)) 3)):=by
  intro w
  have h:=Go.run_make (P:=prog) w 22 3 i0 _ underlying22 hi hz0 .i64 .i64 n n (by omega) (by omega) (by rw [hz2];omega) (by omega)
  rw [hz1] at h
  simp only [Int.toNat_natCast] at h
  rw [show madeCells (Value.int .i64 0).cells (n*1)=rowA n (inV λ_=>0) from made_row (.int .i64 0) n] at h
  exact h
 generalize hA:rowA n (inV λ_=>0)=A at hmk
 have cS:=λW=>rs_new n false false n2 W
 have HA:=Lib.hid (And.intro hA hA)
 clear hA
 go_enter func38,ntmps38
 go_wp2
 go_region_with (go_at_call 65;(with_reducible refine (cS _).mono ?_);intro e w2 hq;unfold RsNewPost at hq;obtain ⟨r,hv,dv,rfl,hR,hnew,hW⟩:=hq;have HR:=Lib.hid (And.intro hR (And.intro hnew hW));clear hR hnew hW cS)
 all_goals
  go_wp2
  go_ret
  first
   |exact ml_end HA.out.1 HA.out.2 ((Wr.refl Nil w).drew) HR.out.1 HR.out.2.1 HR.out.2.2 (((Wr.refl Nil w2).alloc _).alloc _) (two_0 w2 _ _) (two_1 w2 _ _) (by exact .inr (Nat.le_refl _)) (by exact .inr (Nat.le_succ _)) (by omega) (by simp only [nblk_alloc]) _ rfl
   |exact ml_end HA.out.1 HA.out.2 ((Wr.refl Nil w).drew) HR.out.1 HR.out.2.1 HR.out.2.2 (((Wr.refl Nil w2).alloc _).alloc _) (two_1 w2 _ _) (two_0 w2 _ _) (by exact .inr (Nat.le_succ _)) (by exact .inr (Nat.le_refl _)) (by omega) (by simp only [nblk_alloc]) _ rfl
   |exact ml_end HA.out.1 HA.out.2 (((Wr.refl Nil w).alloc _).drew) HR.out.1 HR.out.2.1 HR.out.2.2 ((Wr.refl Nil w2).alloc _) ((blk_alloc_lt w2 _ _ (Nat.lt_of_lt_of_le ((by have e:(w.alloc (.cells A 3)).heap.size=w.heap.size+1:=nblk_alloc _ _;show w.heap.size<(w.alloc (.cells A 3)).heap.size;omega)) HR.out.2.2.size)).trans ((HR.out.2.2.block w.heap.size ((by have e:(w.alloc (.cells A 3)).heap.size=w.heap.size+1:=nblk_alloc _ _;show w.heap.size<(w.alloc (.cells A 3)).heap.size;omega)) id).trans (blk_alloc_new w (.cells A 3)))) (blk_alloc_new w2 _) (by exact .inl ⟨Nat.le_refl _,(by have e:(w.alloc (.cells A 3)).heap.size=w.heap.size+1:=nblk_alloc _ _;show w.heap.size<(w.alloc (.cells A 3)).heap.size;omega)⟩) (by exact .inr (Nat.le_refl _)) (by have q1:w.heap.size<(w.alloc (.cells A 3)).heap.size:=(by have e:(w.alloc (.cells A 3)).heap.size=w.heap.size+1:=nblk_alloc _ _;show w.heap.size<(w.alloc (.cells A 3)).heap.size;omega);have q2:=HR.out.2.2.size;have q3:(w.alloc (.cells A 3)).heap.size≤w2.heap.size:=q2;omega) (by simp only [nblk_alloc]) _ rfl
   |exact ml_end HA.out.1 HA.out.2 (((Wr.refl Nil w).drew).alloc _) HR.out.1 HR.out.2.1 HR.out.2.2 ((Wr.refl Nil w2).alloc _) ((blk_alloc_lt w2 _ _ (Nat.lt_of_lt_of_le ((by have e:(w.alloc (.cells A 3)).heap.size=w.heap.size+1:=nblk_alloc _ _;show w.heap.size<(w.alloc (.cells A 3)).heap.size;omega)) HR.out.2.2.size)).trans ((HR.out.2.2.block w.heap.size ((by have e:(w.alloc (.cells A 3)).heap.size=w.heap.size+1:=nblk_alloc _ _;show w.heap.size<(w.alloc (.cells A 3)).heap.size;omega)) id).trans (blk_alloc_new w (.cells A 3)))) (blk_alloc_new w2 _) (by exact .inl ⟨Nat.le_refl _,(by have e:(w.alloc (.cells A 3)).heap.size=w.heap.size+1:=nblk_alloc _ _;show w.heap.size<(w.alloc (.cells A 3)).heap.size;omega)⟩) (by exact .inr (Nat.le_refl _)) (by have q1:w.heap.size<(w.alloc (.cells A 3)).heap.size:=(by have e:(w.alloc (.cells A 3)).heap.size=w.heap.size+1:=nblk_alloc _ _;show w.heap.size<(w.alloc (.cells A 3)).heap.size;omega);have q2:=HR.out.2.2.size;have q3:(w.alloc (.cells A 3)).heap.size≤w2.heap.size:=q2;omega) (by simp only [nblk_alloc]) _ rfl
   |exact ml_end HA.out.1 HA.out.2 (((Wr.refl Nil w).alloc _).drew) HR.out.1 HR.out.2.1 HR.out.2.2 ((Wr.refl Nil w2).alloc _) (blk_alloc_new w2 _) ((blk_alloc_lt w2 _ _ (Nat.lt_of_lt_of_le ((by have e:(w.alloc (.cells A 3)).heap.size=w.heap.size+1:=nblk_alloc _ _;show w.heap.size<(w.alloc (.cells A 3)).heap.size;omega)) HR.out.2.2.size)).trans ((HR.out.2.2.block w.heap.size ((by have e:(w.alloc (.cells A 3)).heap.size=w.heap.size+1:=nblk_alloc _ _;show w.heap.size<(w.alloc (.cells A 3)).heap.size;omega)) id).trans (blk_alloc_new w (.cells A 3)))) (by exact .inr (Nat.le_refl _)) (by exact .inl ⟨Nat.le_refl _,(by have e:(w.alloc (.cells A 3)).heap.size=w.heap.size+1:=nblk_alloc _ _;show w.heap.size<(w.alloc (.cells A 3)).heap.size;omega)⟩) (by have q1:w.heap.size<(w.alloc (.cells A 3)).heap.size:=(by have e:(w.alloc (.cells A 3)).heap.size=w.heap.size+1:=nblk_alloc _ _;show w.heap.size<(w.alloc (.cells A 3)).heap.size;omega);have q2:=HR.out.2.2.size;have q3:(w.alloc (.cells A 3)).heap.size≤w2.heap.size:=q2;omega) (by simp only [nblk_alloc]) _ rfl
   |exact ml_end HA.out.1 HA.out.2 (((Wr.refl Nil w).drew).alloc _) HR.out.1 HR.out.2.1 HR.out.2.2 ((Wr.refl Nil w2).alloc _) (blk_alloc_new w2 _) ((blk_alloc_lt w2 _ _ (Nat.lt_of_lt_of_le ((by have e:(w.alloc (.cells A 3)).heap.size=w.heap.size+1:=nblk_alloc _ _;show w.heap.size<(w.alloc (.cells A 3)).heap.size;omega)) HR.out.2.2.size)).trans ((HR.out.2.2.block w.heap.size ((by have e:(w.alloc (.cells A 3)).heap.size=w.heap.size+1:=nblk_alloc _ _;show w.heap.size<(w.alloc (.cells A 3)).heap.size;omega)) id).trans (blk_alloc_new w (.cells A 3)))) (by exact .inr (Nat.le_refl _)) (by exact .inl ⟨Nat.le_refl _,(by have e:(w.alloc (.cells A 3)).heap.size=w.heap.size+1:=nblk_alloc _ _;show w.heap.size<(w.alloc (.cells A 3)).heap.size;omega)⟩) (by have q1:w.heap.size<(w.alloc (.cells A 3)).heap.size:=(by have e:(w.alloc (.cells A 3)).heap.size=w.heap.size+1:=nblk_alloc _ _;show w.heap.size<(w.alloc (.cells A 3)).heap.size;omega);have q2:=HR.out.2.2.size;have q3:(w.alloc (.cells A 3)).heap.size≤w2.heap.size:=q2;omega) (by simp only [nblk_alloc]) _ rfl
   |exact ml_end HA.out.1 HA.out.2 ((((Wr.refl Nil w).alloc _).alloc _).drew) HR.out.1 HR.out.2.1 HR.out.2.2 (Wr.refl Nil w2) ((HR.out.2.2.block w.heap.size ((by have e:((w.alloc (.cells A 3)).alloc (.cells A 3)).heap.size=w.heap.size+1+1:=(by rw [nblk_alloc,nblk_alloc]);show w.heap.size<((w.alloc (.cells A 3)).alloc (.cells A 3)).heap.size;omega)) id).trans (two_0 w (.cells A 3) (.cells A 3))) ((HR.out.2.2.block (w.heap.size+1) ((by have e:((w.alloc (.cells A 3)).alloc (.cells A 3)).heap.size=w.heap.size+1+1:=(by rw [nblk_alloc,nblk_alloc]);show w.heap.size+1<((w.alloc (.cells A 3)).alloc (.cells A 3)).heap.size;omega)) id).trans (two_1 w (.cells A 3) (.cells A 3))) (by exact .inl ⟨Nat.le_refl _,(by have e:((w.alloc (.cells A 3)).alloc (.cells A 3)).heap.size=w.heap.size+1+1:=(by rw [nblk_alloc,nblk_alloc]);show w.heap.size<((w.alloc (.cells A 3)).alloc (.cells A 3)).heap.size;omega)⟩) (by exact .inl ⟨Nat.le_succ _,(by have e:((w.alloc (.cells A 3)).alloc (.cells A 3)).heap.size=w.heap.size+1+1:=(by rw [nblk_alloc,nblk_alloc]);show w.heap.size+1<((w.alloc (.cells A 3)).alloc (.cells A 3)).heap.size;omega)⟩) (by omega) rfl _ rfl
   |exact ml_end HA.out.1 HA.out.2 ((((Wr.refl Nil w).drew).alloc _).alloc _) HR.out.1 HR.out.2.1 HR.out.2.2 (Wr.refl Nil w2) ((HR.out.2.2.block w.heap.size ((by have e:((w.alloc (.cells A 3)).alloc (.cells A 3)).heap.size=w.heap.size+1+1:=(by rw [nblk_alloc,nblk_alloc]);show w.heap.size<((w.alloc (.cells A 3)).alloc (.cells A 3)).heap.size;omega)) id).trans (two_0 w (.cells A 3) (.cells A 3))) ((HR.out.2.2.block (w.heap.size+1) ((by have e:((w.alloc (.cells A 3)).alloc (.cells A 3)).heap.size=w.heap.size+1+1:=(by rw [nblk_alloc,nblk_alloc]);show w.heap.size+1<((w.alloc (.cells A 3)).alloc (.cells A 3)).heap.size;omega)) id).trans (two_1 w (.cells A 3) (.cells A 3))) (by exact .inl ⟨Nat.le_refl _,(by have e:((w.alloc (.cells A 3)).alloc (.cells A 3)).heap.size=w.heap.size+1+1:=(by rw [nblk_alloc,nblk_alloc]);show w.heap.size<((w.alloc (.cells A 3)).alloc (.cells A 3)).heap.size;omega)⟩) (by exact .inl ⟨Nat.le_succ _,(by have e:((w.alloc (.cells A 3)).alloc (.cells A 3)).heap.size=w.heap.size+1+1:=(by rw [nblk_alloc,nblk_alloc]);show w.heap.size+1<((w.alloc (.cells A 3)).alloc (.cells A 3)).heap.size;omega)⟩) (by omega) rfl _ rfl
   |exact ml_end HA.out.1 HA.out.2 ((((Wr.refl Nil w).alloc _).alloc _).drew) HR.out.1 HR.out.2.1 HR.out.2.2 (Wr.refl Nil w2) ((HR.out.2.2.block (w.heap.size+1) ((by have e:((w.alloc (.cells A 3)).alloc (.cells A 3)).heap.size=w.heap.size+1+1:=(by rw [nblk_alloc,nblk_alloc]);show w.heap.size+1<((w.alloc (.cells A 3)).alloc (.cells A 3)).heap.size;omega)) id).trans (two_1 w (.cells A 3) (.cells A 3))) ((HR.out.2.2.block w.heap.size ((by have e:((w.alloc (.cells A 3)).alloc (.cells A 3)).heap.size=w.heap.size+1+1:=(by rw [nblk_alloc,nblk_alloc]);show w.heap.size<((w.alloc (.cells A 3)).alloc (.cells A 3)).heap.size;omega)) id).trans (two_0 w (.cells A 3) (.cells A 3))) (by exact .inl ⟨Nat.le_succ _,(by have e:((w.alloc (.cells A 3)).alloc (.cells A 3)).heap.size=w.heap.size+1+1:=(by rw [nblk_alloc,nblk_alloc]);show w.heap.size+1<((w.alloc (.cells A 3)).alloc (.cells A 3)).heap.size;omega)⟩) (by exact .inl ⟨Nat.le_refl _,(by have e:((w.alloc (.cells A 3)).alloc (.cells A 3)).heap.size=w.heap.size+1+1:=(by rw [nblk_alloc,nblk_alloc]);show w.heap.size<((w.alloc (.cells A 3)).alloc (.cells A 3)).heap.size;omega)⟩) (by omega) rfl _ rfl
   |exact ml_end HA.out.1 HA.out.2 ((((Wr.refl Nil w).drew).alloc _).alloc _) HR.out.1 HR.out.2.1 HR.out.2.2 (Wr.refl Nil w2) ((HR.out.2.2.block (w.heap.size+1) ((by have e:((w.alloc (.cells A 3)).alloc (.cells A 3)).heap.size=w.heap.size+1+1:=(by rw [nblk_alloc,nblk_alloc]);show w.heap.size+1<((w.alloc (.cells A 3)).alloc (.cells A 3)).heap.size;omega)) id).trans (two_1 w (.cells A 3) (.cells A 3))) ((HR.out.2.2.block w.heap.size ((by have e:((w.alloc (.cells A 3)).alloc (.cells A 3)).heap.size=w.heap.size+1+1:=(by rw [nblk_alloc,nblk_alloc]);show w.heap.size<((w.alloc (.cells A 3)).alloc (.cells A 3)).heap.size;omega)) id).trans (two_0 w (.cells A 3) (.cells A 3))) (by exact .inl ⟨Nat.le_succ _,(by have e:((w.alloc (.cells A 3)).alloc (.cells A 3)).heap.size=w.heap.size+1+1:=(by rw [nblk_alloc,nblk_alloc]);show w.heap.size+1<((w.alloc (.cells A 3)).alloc (.cells A 3)).heap.size;omega)⟩) (by exact .inl ⟨Nat.le_refl _,(by have e:((w.alloc (.cells A 3)).alloc (.cells A 3)).heap.size=w.heap.size+1+1:=(by rw [nblk_alloc,nblk_alloc]);show w.heap.size<((w.alloc (.cells A 3)).alloc (.cells A 3)).heap.size;omega)⟩) (by omega) rfl _ rfl
theorem lit_one (w:World) (e:TypeId) (x:Value):Grow e 1 w w.heap.size (w.alloc (.cells #[x] e)) 1 [x] (.slice (some ⟨w.heap.size,0,none⟩) 1 1):=
 ⟨World.ownsRow_lit w #[x] 1 (Nat.le_refl _) (by decide) rfl,(Wr.refl _ w).alloc _,by rw [nblk_alloc];omega,Nat.le_refl _⟩
def WordsNewPost (w:World) (v:Int) (sz z:Nat) (e:Ending) (w':World):Prop:=∃ g cap,e= .returned (.slice (some ⟨g,0,none⟩) (sz+1) cap)∧RowAt .u32 w' (some ⟨g,0,none⟩) (sz+1) ([v]++slotR z sz)∧Wr Nil w w'
theorem ml_words (w:World) (v:Int) (hv:0≤v∧v<4294967296) (sz z:Nat) (s1:1≤sz) (s64:sz≤64) (hz:v%(sz:Int)=(z:Int)):Calls prog 39 #[.int .i64 (sz:Nat),.int .u32 v] w (WordsNewPost w v sz z):=by
 obtain ⟨i0,hi,hz0,hz1,hz2⟩:=info_parts (show (prog.info? 23).map (λi=>(i.zero,i.size,i.bytes))=some (some (.int .u32 0),1,4) by kernel_rfl)
 have HL:=Lib.hid (lit_one w 23 (.int .u32 v))
 have htm:v.tmod (sz:Int)=(z:Int):=by rw [Int.tmod_eq_emod_of_nonneg hv.1];exact hz
 have hwv:IntKind.i64.wrap v=v:=by rw [IntKind.wrap_i64];omega
 have hNz:(sz:Int)≠0:=by omega
 clear hv hz
 go_enter func39,ntmps39
 go_wp2
 go_loopw [5,6,7] (λv5 v6 _ wr=>∃ k:Nat,k≤sz∧v6= .int .i64 k∧Grow 23 1 w w.heap.size wr (k+1) (([v]++slotR z k).map (.int .u32)) v5) (λ_ v6 _ _=>sz-(intOf v6).toNat)
 case atStart=>exact ⟨0,Nat.zero_le _,rfl,HL.out⟩
 case round=>
  clear HL
  obtain ⟨k,hk,rfl,hG⟩:=hrel
  by_cases hlt:k<sz
  ·have hsz:=hG.size
   have hmore:=slotR_more z k
   have HG:=Lib.hid hG
   have hown:=hG.own
   clear hG
   have key:∀ y:Int,slotR z (k+1)=slotR z k++[y]→∀ (w1:World) (v':Value),w1.ownsRow w.heap.size 23 1 v' (k+1+1) (([v]++slotR z k).map (.int .u32)++[.int .u32 y])→(wr.alloc (.cells #[.int .u32 y] 23)).grownBy w1 (u5).ownBlock→Grow 23 1 w w.heap.size w1 (k+1+1) (([v]++slotR z (k+1)).map (.int .u32)) v':=λy hy w1 v' ho hg=>by
    have h2:=(HG.out.after ((Wr.refl Nil wr).alloc (.cells #[.int .u32 y] 23))).more (m:=1) (news:=[.int .u32 y]) ho hg
    rw [hy]
    simpa using h2
   by_cases hkz:z=k
   ·subst hkz
    rw [if_pos rfl] at hmore
    have HK:=Lib.hid (key 1 hmore)
    clear key hmore
    go_wp2_with (at_builtin;refine wpList_append_own _ rfl _ _ 53 rfl w.heap.size 23 i0 (.int .u32 0) 1 4 underlying53 hi hz0 hz1 hz2 rfl (by decide) _ _ _ rfl (hown.alloc _) ⟨wr.heap.size,0,none⟩ 1 1 [.int .u32 1] rfl rfl ?c1 ?c2 ?c3 ?c4 ?c5 ?_)
    case c1=>
     intro j u hj
     match j,hj with
     |0,hj=>simp at hj;subst hj;simp [Addr.add]
    case c2=>intro u hu;simp at hu;subst hu;rfl
    case c3=>unfold maxLen;omega
    case c4=>omega
    case c5=>simp;omega
    ·intro v' w1 hown' hgrow _
     have HN:=Lib.hid (HK.out _ _ hown' hgrow)
     clear hown' hgrow
     go_wp2
     go_roundw
     case rel=>exact ⟨z+1,by omega,by go_num,HN.out⟩
     case measure=>simp [intOf];omega
   ·have b1:((k:Int)==(z:Int))=false:=beq_false_of_ne (by omega)
    rw [if_neg hkz] at hmore
    have HK:=Lib.hid (key 0 hmore)
    clear key hmore hkz
    go_wp2_with (at_builtin;refine wpList_append_own _ rfl _ _ 53 rfl w.heap.size 23 i0 (.int .u32 0) 1 4 underlying53 hi hz0 hz1 hz2 rfl (by decide) _ _ _ rfl (hown.alloc _) ⟨wr.heap.size,0,none⟩ 1 1 [.int .u32 0] rfl rfl ?c1 ?c2 ?c3 ?c4 ?c5 ?_)
    case c1=>
     intro j u hj
     match j,hj with
     |0,hj=>simp at hj;subst hj;simp [Addr.add]
    case c2=>intro u hu;simp at hu;subst hu;rfl
    case c3=>unfold maxLen;omega
    case c4=>omega
    case c5=>simp;omega
    ·intro v' w1 hown' hgrow _
     have HN:=Lib.hid (HK.out _ _ hown' hgrow)
     clear hown' hgrow
     go_wp2
     go_roundw
     case rel=>exact ⟨k+1,by omega,by go_num,HN.out⟩
     case measure=>simp [intOf];omega
  ·obtain rfl:k=sz:=by omega
   obtain ⟨g,cap,rfl,hrow⟩:=own_row hG.own (Nat.succ_pos _)
   have HG:=Lib.hid (And.intro hrow hG.wrote)
   clear hG hrow
   go_wp2
   go_ret
   exact ⟨g,cap,rfl,HG.out.1.2.2.2.1,HG.out.2⟩
end Go.Proofs.YtcikfcplagelaaaGreat.Ks

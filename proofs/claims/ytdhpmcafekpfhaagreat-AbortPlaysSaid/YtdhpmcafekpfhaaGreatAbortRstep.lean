/- A step of the reference's abortable lock: what it tells, and what it leaves: the same as a step of the plain thing. -/
import Derived.Test.YtdhpmcafekpfhaaGreatAbortRlA
import Derived.Test.YtdhpmcafekpfhaaGreatAbortRul
import Derived.Test.YtdhpmcafekpfhaaGreatAbortOrd
import Derived.WalkLawsBesides
import Derived.Outline
import Derived.Deep.QuietTactic
import Derived.Deep.RegionHeld3
import Derived.BigQuiet
import Derived.BigFrame
import Derived.Handy
import Derived.OpenShut
import Derived.Lib.Walk
import Derived.WalkKit
import Derived.Lib.Hide
namespace Go.Proofs.YtdhpmcafekpfhaaGreat
open Go.RowKit Go.BigFrame
set_option linter.unusedVariables false
set_option maxRecDepth 100000

/-- behind an access: a context's four numbers, the port, what it did -/
structure RM where
  a : Int
  b : Int
  c : Int
  d : Int
  ps : PSta
  dd : Dd
def rlk (f : FL) (L : Lp) (k : Nat) (u x : Int) : RM :=
  if f.pc k = 1 then ⟨if tellS f.ps u 1 (L.oA (f.id k)) = 0 then 2 else 1, f.id k, f.oth k, f.tr k + 1, doS f.ps u 1 (L.oA (f.id k)) 0 0, if tellS f.ps u 1 (L.oA (f.id k)) ≠ 0 ∧ f.tr k + 1 = f.ea then ⟨6, false, false, false⟩ else Dd.no⟩
  else if f.pc k = 2 then ⟨3, f.nd k, f.oth k, f.tr k, doS f.ps u 2 (L.oA (f.nd k)) 0 1, Dd.no⟩
  else if f.pc k = 3 then ⟨4, f.nd k, f.oth k, f.tr k, doS f.ps u 2 (L.sA (f.nd k)) 0 0, Dd.no⟩
  else if f.pc k = 4 then ⟨5, f.nd k, f.oth k, f.tr k, doS f.ps u 2 (L.nA (f.nd k)) 0 0, Dd.no⟩
  else if f.pc k = 5 then ⟨6, f.nd k, tellS f.ps u 3 L.a1, f.tr k, doS f.ps u 3 L.a1 0 (f.nd k), ⟨if tellS f.ps u 3 L.a1 = 0 then 1 else 0, true, false, false⟩⟩
  else if f.pc k = 6 then ⟨7, f.nd k, f.oth k, f.tr k, doS f.ps u 2 (L.nA (f.oth k)) 0 (f.nd k), Dd.no⟩
  else if f.pc k = 7 then ⟨if tellS f.ps u 1 (L.sA (f.nd k)) ≠ 0 then 7 else if f.due k x then 8 else 7, f.nd k, f.oth k, f.tr k, doS f.ps u 1 (L.sA (f.nd k)) 0 0, if tellS f.ps u 1 (L.sA (f.nd k)) ≠ 0 then ⟨1, false, false, false⟩ else Dd.no⟩
  else ⟨9, f.nd k, f.oth k, f.tr k, doS f.ps u 4 (L.sA (f.nd k)) 0 2, if casT f.ps u (L.sA (f.nd k)) 0 = true then ⟨2, false, false, false⟩ else ⟨1, false, false, false⟩⟩
def rul (f : FL) (L : Lp) (k : Nat) (u : Int) : RM :=
  if f.pc k = 1 then ⟨if tellS f.ps u 1 (L.nA (f.nd k)) = 0 then 2 else 4, f.nd k, tellS f.ps u 1 (L.nA (f.nd k)), f.tr k, doS f.ps u 1 (L.nA (f.nd k)) 0 0, Dd.no⟩
  else if f.pc k = 2 then ⟨if casT f.ps u L.a1 (f.nd k) = true then 6 else 3, f.nd k, f.oth k, f.tr k, doS f.ps u 4 L.a1 (f.nd k) 0, Dd.no⟩
  else if f.pc k = 3 then ⟨if tellS f.ps u 1 (L.nA (f.nd k)) = 0 then 3 else 4, f.nd k, tellS f.ps u 1 (L.nA (f.nd k)), f.tr k, doS f.ps u 1 (L.nA (f.nd k)) 0 0, Dd.no⟩
  else if f.pc k = 4 then ⟨if casT f.ps u (L.sA (f.oth k)) 0 = true then 6 else 5, f.nd k, f.oth k, f.tr k, doS f.ps u 4 (L.sA (f.oth k)) 0 1, Dd.no⟩
  else if f.pc k = 5 then ⟨1, f.oth k, f.oth k, f.tr k, doS f.ps u 2 (L.oA (f.nd k)) 0 0, Dd.no⟩
  else ⟨6, f.nd k, f.oth k, f.tr k, doS f.ps u 2 (L.oA (f.nd k)) 0 0, ⟨3, false, false, false⟩⟩
/-- behind it all -/
def RM.fl (f : FL) (k : Nat) (r : RM) : FL := { f with pc := upd f.pc k (if r.dd.ev = 0 then r.a else 1), nd := upd f.nd k r.b, oth := upd f.oth k r.c, tr := upd f.tr k (if r.dd.ev = 0 then r.d else 0), ps := r.ps }
theorem acq_rlk (f : FL) (L : Lp) (k : Nat) (u x : Int) (hp : 1 ≤ f.pc k ∧ f.pc k ≤ 8) : f.acq L k u x = RM.fl f k (rlk f L k u x) ∧ f.acqD L k u x = (rlk f L k u x).dd := by
  have e1 : upd f.nd k (f.nd k) = f.nd := upd_id f.nd k rfl
  have e2 : upd f.oth k (f.oth k) = f.oth := upd_id f.oth k rfl
  have e3 : upd f.tr k (f.tr k) = f.tr := upd_id f.tr k rfl
  have : f.pc k = 1 ∨ f.pc k = 2 ∨ f.pc k = 3 ∨ f.pc k = 4 ∨ f.pc k = 5 ∨ f.pc k = 6 ∨ f.pc k = 7 ∨ f.pc k = 8 := by omega
  rcases this with hd | hd | hd | hd | hd | hd | hd | hd
  all_goals simp only [FL.acq, FL.acqD, rlk, RM.fl, hd, if_false, Int.reduceEq, if_pos, Dd.no, e1, e2, e3, and_true]
  · by_cases h1 : tellS f.ps u 1 (L.oA (f.id k)) = 0
    · simp [h1]
    · by_cases h2 : f.tr k + 1 = f.ea
      · simp [h1, h2]
      · simp [h1, h2]
  · by_cases h1 : tellS f.ps u 3 L.a1 = 0
    · simp [h1]
    · simp [h1, e3]
  · by_cases h1 : tellS f.ps u 1 (L.sA (f.nd k)) = 0
    · simp [h1, e3]
    · simp [h1]
  · by_cases h1 : casT f.ps u (L.sA (f.nd k)) 0 = true
    · simp [h1]
    · simp [h1]
theorem rel_rul (f : FL) (L : Lp) (k : Nat) (u : Int) (hp : 1 ≤ f.pc k ∧ f.pc k ≤ 6) : f.rel L k u = RM.fl f k (rul f L k u) ∧ f.relD k = (rul f L k u).dd := by
  have e1 : upd f.nd k (f.nd k) = f.nd := upd_id f.nd k rfl
  have e2 : upd f.oth k (f.oth k) = f.oth := upd_id f.oth k rfl
  have e3 : upd f.tr k (f.tr k) = f.tr := upd_id f.tr k rfl
  have : f.pc k = 1 ∨ f.pc k = 2 ∨ f.pc k = 3 ∨ f.pc k = 4 ∨ f.pc k = 5 ∨ f.pc k = 6 := by omega
  rcases this with hd | hd | hd | hd | hd | hd
  all_goals simp [FL.rel, FL.relD, rul, RM.fl, hd, Dd.no, e1, e2, e3]
theorem fv_fl (f : FL) (s' : SS) (k : Nat) (a b c d : Int) (ps : PSta) : fv { f with s := s', pc := upd f.pc k a, nd := upd f.nd k b, oth := upd f.oth k c, tr := upd f.tr k d, ps := ps } = vk (fv f) k a b c d := by
  funext i j
  unfold fv vk upd
  by_cases hj : j = k
  · subst hj
    match i with
    | 0 => simp
    | 1 => simp
    | 2 => simp
    | 3 => simp
    | n + 4 => simp
  · match i with
    | 0 => simp [hj]
    | 1 => simp [hj]
    | 2 => simp [hj]
    | 3 => simp [hj]
    | n + 4 => simp [hj]
/-- what bounds a context's numbers -/
structure RkIn (f : FL) (k : Nat) (u : Int) : Prop where
  hn : 0 ≤ f.nd k ∧ f.nd k < 4294967296
  ho : 0 ≤ f.oth k ∧ f.oth k < 4294967296
  ht : 0 ≤ f.tr k ∧ f.tr k ≤ 8
  hT : ∀ K a, 0 ≤ tellS f.ps u K a ∧ tellS f.ps u K a < 4294967296
section
variable {w : World} {M : Mp} {bk : Nat} {so : Option Addr} {cap : Nat} {dv : Value} {f : FL} {L : Lp}
theorem rl_lock (h : MsIn w M bk so cap dv f.s f.ea (fv f) f.ps) (hL1 : L.a1 = M.a) (hL2 : L.a2 = M.a + 1) (k : Nat) (hk : k < f.s.n) (u x : Int) (hB : RkIn f k u) (hp : 1 ≤ f.pc k ∧ f.pc k ≤ 8) (hs : f.s.st k = 1) (hdl : f.s.dl k = -1 ∨ 0 ≤ f.s.dl k) :
    Calls Tryz.prog 117 #[.pointer (some ⟨M.r, 0, none⟩), .pointer (some ⟨M.pr, 0, none⟩), .int .i64 (k : Int), .int .i64 u, .int .i64 x] w (RkPost w M bk dv f.s f.ea (vk (fv f) k (rlk f L k u x).a (rlk f L k u x).b (rlk f L k u x).c (rlk f L k u x).d) (rlk f L k u x).ps (rlk f L k u x).dd.rval) := by
  have : f.pc k = 1 ∨ f.pc k = 2 ∨ f.pc k = 3 ∨ f.pc k = 4 ∨ f.pc k = 5 ∨ f.pc k = 6 ∨ f.pc k = 7 ∨ f.pc k = 8 := by omega
  unfold rlk
  rcases this with hd | hd | hd | hd | hd | hd | hd | hd
  · rw [if_pos hd]
    by_cases h1 : tellS f.ps u 1 (L.oA (f.id k)) = 0
    · rw [if_pos h1, if_neg (fun q => q.1 h1)]; exact rl_lock1A h hL1 hL2 k hk u x hd hB.hn hB.ho hB.ht hB.hT h1
    · rw [if_neg h1]
      by_cases h2 : f.tr k + 1 = f.ea
      · rw [if_pos ⟨h1, h2⟩]; exact rl_lock1B h hL1 hL2 k hk u x hd hB.hn hB.ho hB.ht hB.hT h1 h2
      · rw [if_neg (fun q => h2 q.2)]; exact rl_lock1C h hL1 hL2 k hk u x hd hB.hn hB.ho hB.ht hB.hT h1 h2
  · rw [if_neg (by omega), if_pos hd]; exact rl_lock2 h hL1 hL2 k hk u x hd hB.hn hB.ho hB.ht hB.hT
  · rw [if_neg (by omega), if_neg (by omega), if_pos hd]; exact rl_lock3 h hL1 hL2 k hk u x hd hB.hn hB.ho hB.ht hB.hT
  · rw [if_neg (by omega), if_neg (by omega), if_neg (by omega), if_pos hd]; exact rl_lock4 h hL1 hL2 k hk u x hd hB.hn hB.ho hB.ht hB.hT
  · rw [if_neg (by omega), if_neg (by omega), if_neg (by omega), if_neg (by omega), if_pos hd]
    by_cases h1 : tellS f.ps u 3 L.a1 = 0
    · rw [if_pos h1]; exact rl_lock5A h hL1 hL2 k hk u x hd hB.hn hB.ho hB.ht hB.hT h1
    · rw [if_neg h1]; exact rl_lock5B h hL1 hL2 k hk u x hd hB.hn hB.ho hB.ht hB.hT h1
  · rw [if_neg (by omega), if_neg (by omega), if_neg (by omega), if_neg (by omega), if_neg (by omega), if_pos hd]; exact rl_lock6 h hL1 hL2 k hk u x hd hB.hn hB.ho hB.ht hB.hT
  · rw [if_neg (by omega), if_neg (by omega), if_neg (by omega), if_neg (by omega), if_neg (by omega), if_neg (by omega), if_pos hd]
    by_cases h1 : tellS f.ps u 1 (L.sA (f.nd k)) = 0
    · have h0 : ¬ tellS f.ps u 1 (L.sA (f.nd k)) ≠ 0 := fun q => q h1
      rw [if_neg h0, if_neg h0]
      by_cases h2 : f.due k x
      · rw [if_pos h2]; exact rl_lock7B h hL1 hL2 k hk u x hd hB.hn hB.ho hB.ht hB.hT hs h1 h2
      · rw [if_neg h2]
        by_cases h3 : f.s.dl k < 0
        · exact rl_lock7C h hL1 hL2 k hk u x hd hB.hn hB.ho hB.ht hB.hT hs h1 h3
        · exact rl_lock7D h hL1 hL2 k hk u x hd hB.hn hB.ho hB.ht hB.hT hs h1 h3 (by
            by_cases q : x < f.s.dl k
            · exact q
            · exact absurd ⟨by omega, by omega⟩ h2)
    · rw [if_pos h1, if_pos h1]; exact rl_lock7A h hL1 hL2 k hk u x hd hB.hn hB.ho hB.ht hB.hT h1
  · rw [if_neg (by omega), if_neg (by omega), if_neg (by omega), if_neg (by omega), if_neg (by omega), if_neg (by omega), if_neg (by omega)]
    cases h1 : casT f.ps u (L.sA (f.nd k)) 0
    · rw [if_neg (by decide)]; exact rl_lock8B h hL1 hL2 k hk u x hd hB.hn hB.ho hB.ht hB.hT h1
    · rw [if_pos rfl]; exact rl_lock8A h hL1 hL2 k hk u x hd hB.hn hB.ho hB.ht hB.hT h1
theorem rl_unlock (h : MsIn w M bk so cap dv f.s f.ea (fv f) f.ps) (hL1 : L.a1 = M.a) (hL2 : L.a2 = M.a + 1) (k : Nat) (hk : k < f.s.n) (u : Int) (hB : RkIn f k u) (hp : 1 ≤ f.pc k ∧ f.pc k ≤ 6) :
    Calls Tryz.prog 118 #[.pointer (some ⟨M.r, 0, none⟩), .pointer (some ⟨M.pr, 0, none⟩), .int .i64 (k : Int), .int .i64 u] w (RkPost w M bk dv f.s f.ea (vk (fv f) k (rul f L k u).a (rul f L k u).b (rul f L k u).c (rul f L k u).d) (rul f L k u).ps (.int .i64 (rul f L k u).dd.ev)) := by
  have : f.pc k = 1 ∨ f.pc k = 2 ∨ f.pc k = 3 ∨ f.pc k = 4 ∨ f.pc k = 5 ∨ f.pc k = 6 := by omega
  unfold rul
  rcases this with hd | hd | hd | hd | hd | hd
  · rw [if_pos hd]
    by_cases h1 : tellS f.ps u 1 (L.nA (f.nd k)) = 0
    · rw [if_pos h1]; exact rl_unlock1A h hL1 hL2 k hk u hd hB.hn hB.ho hB.ht hB.hT h1
    · rw [if_neg h1]; exact rl_unlock1B h hL1 hL2 k hk u hd hB.hn hB.ho hB.ht hB.hT h1
  · rw [if_neg (by omega), if_pos hd]
    cases h1 : casT f.ps u L.a1 (f.nd k)
    · rw [if_neg (by decide)]; exact rl_unlock2B h hL1 hL2 k hk u hd hB.hn hB.ho hB.ht hB.hT h1
    · rw [if_pos rfl]; exact rl_unlock2A h hL1 hL2 k hk u hd hB.hn hB.ho hB.ht hB.hT h1
  · rw [if_neg (by omega), if_neg (by omega), if_pos hd]
    by_cases h1 : tellS f.ps u 1 (L.nA (f.nd k)) = 0
    · rw [if_pos h1]; exact rl_unlock3A h hL1 hL2 k hk u hd hB.hn hB.ho hB.ht hB.hT h1
    · rw [if_neg h1]; exact rl_unlock3B h hL1 hL2 k hk u hd hB.hn hB.ho hB.ht hB.hT h1
  · rw [if_neg (by omega), if_neg (by omega), if_neg (by omega), if_pos hd]
    cases h1 : casT f.ps u (L.sA (f.oth k)) 0
    · rw [if_neg (by decide)]; exact rl_unlock4B h hL1 hL2 k hk u hd hB.hn hB.ho hB.ht hB.hT h1
    · rw [if_pos rfl]; exact rl_unlock4A h hL1 hL2 k hk u hd hB.hn hB.ho hB.ht hB.hT h1
  · rw [if_neg (by omega), if_neg (by omega), if_neg (by omega), if_neg (by omega), if_pos hd]; exact rl_unlock5 h hL1 hL2 k hk u hd hB.hn hB.ho hB.ht hB.hT
  · rw [if_neg (by omega), if_neg (by omega), if_neg (by omega), if_neg (by omega), if_neg (by omega)]; exact rl_unlock6 h hL1 hL2 k hk u hd hB.hn hB.ho hB.ht hB.hT
end
theorem end_fit {s : SS} {k : Nat} {ev : Int} (hk : k < s.n) (h : (s.st k = 1 ∧ (ev = 0 ∨ ev = 1 ∨ ev = 2 ∨ ev = 6)) ∨ (s.st k = 3 ∧ (ev = 0 ∨ ev = 3))) : endI s k ev = if ev = 0 then 0 else 1 := by
  unfold endI endB endO
  rw [if_pos (show 0 ≤ (k : Int) ∧ (k : Int) < s.n by omega), Int.toNat_natCast]
  unfold behindI
  rcases h with ⟨h, e | e | e | e⟩ | ⟨h, e | e⟩ <;> subst e <;> simp [h]
theorem rlk_ev (f : FL) (L : Lp) (k : Nat) (u x : Int) : (rlk f L k u x).dd.ev = 0 ∨ (rlk f L k u x).dd.ev = 1 ∨ (rlk f L k u x).dd.ev = 2 ∨ (rlk f L k u x).dd.ev = 6 := by
  unfold rlk Dd.no
  repeat' split
  all_goals simp
  all_goals
    split <;> simp
theorem rul_ev (f : FL) (L : Lp) (k : Nat) (u : Int) : (rul f L k u).dd.ev = 0 ∨ (rul f L k u).dd.ev = 3 := by
  unfold rul Dd.no
  repeat' split
  all_goals simp
theorem rul_dd (f : FL) (L : Lp) (k : Nat) (u : Int) : (rul f L k u).dd = ⟨(rul f L k u).dd.ev, false, false, false⟩ := by
  unfold rul Dd.no
  repeat' split
  all_goals rfl
/-- behind the inner call: how a step ends -/
def PreE (w X : World) (M : Mp) (bk : Nat) (dv : Value) (f : FL) (k : Nat) (r : RM) : Prop := Fm w X M bk dv f.s f.ea (vk (fv f) k r.a r.b r.c r.d) r.ps w.heap.size (w.heap.size + 1) r.dd
set_option maxHeartbeats 8000000 in
theorem ml_lock {w : World} {M : Mp} {bk : Nat} {so : Option Addr} {cap : Nat} {dv : Value} {f : FL} {L : Lp} (h : MsIn w M bk so cap dv f.s f.ea (fv f) f.ps) (hL1 : L.a1 = M.a) (hL2 : L.a2 = M.a + 1) (k : Nat) (hk : k < f.s.n) (u x : Int) (hB : RkIn f k u) (hp : 1 ≤ f.pc k ∧ f.pc k ≤ 8) (hs : f.s.st k = 1) (hdl : f.s.dl k = -1 ∨ 0 ≤ f.s.dl k) :
    Calls Tryz.prog 115 #[.pointer (some ⟨M.r, 0, none⟩), .pointer (some ⟨M.pr, 0, none⟩), .int .i64 (k : Int), .int .i64 u, .int .i64 x] w (RkPost w M bk dv (f.s.fin k (rlk f L k u x).dd.ev) f.ea (vk (fv f) k (if (rlk f L k u x).dd.ev = 0 then (rlk f L k u x).a else 1) (rlk f L k u x).b (rlk f L k u x).c (if (rlk f L k u x).dd.ev = 0 then (rlk f L k u x).d else 0)) (rlk f L k u x).ps (rlk f L k u x).dd.rval) := by
  obtain ⟨Z, hZ⟩ : ∃ Z, Z = (w.alloc (.cells #[.int .i64 0, .int .i64 0, .int .i64 0, .int .i64 0] 109)).alloc (.cells #[.int .i64 0, .int .i64 0, .int .i64 0, .int .i64 0] 109) := ⟨_, rfl⟩
  obtain ⟨hF0, hR, hWZ⟩ := h.start Z hZ
  have i0 : (0 : Int) ≤ (k : Int) := by omega
  have i1 : (k : Int) < f.s.n := by omega
  have bz : M.base ≤ Z.heap.size := Nat.le_trans h.hb hWZ.size
  have i2 : ¬ (k : Int) < 0 := by omega
  have i3 : ¬ (f.s.n : Int) ≤ (k : Int) := by omega
  have iN : decide (f.s.n ≤ k) = false := decide_eq_false (by omega)
  have n1 := h.n1
  have n2 := h.n2
  have hI : MsIn Z M bk so cap dv f.s f.ea (fv f) f.ps := h.after hWZ
  have cL := rl_lock hI hL1 hL2 k hk u x hB hp hs hdl
  have ee := end_fit hk (.inl ⟨hs, rlk_ev f L k u x⟩)
  obtain ⟨r, hr⟩ : ∃ r, r = rlk f L k u x := ⟨_, rfl⟩
  rw [← hr] at cL ee ⊢
  obtain ⟨A, hA⟩ : ∃ A : Int, A = if r.dd.ev = 0 then r.a else 1 := ⟨_, rfl⟩
  obtain ⟨D, hD⟩ : ∃ D : Int, D = if r.dd.ev = 0 then r.d else 0 := ⟨_, rfl⟩
  rw [← hA, ← hD]
  have HAD := Lib.hid (And.intro hA hD)
  clear hA hD
  have b3 := (h.raw.after ((Wrote.refl Nil w).alloc (.cells #[.int .i64 0, .int .i64 0, .int .i64 0, .int .i64 0] 109))).cell3
  obtain ⟨g, cg, hgv, hg⟩ := SrAt.stV hF0.raw.seat (show 0 < f.s.n by omega)
  have c0 := hF0.raw.cell0
  have cs : Z.cell? ⟨M.sr, 0, none⟩ = some (.slice (some ⟨g, 0, none⟩) f.s.n cg) := (SrAt.cell0 hF0.raw.seat).trans (by rw [hgv])
  have ct := (hg k _ (stL_at f.s hk)).1
  rw [hs] at ct
  have y0 := blk_frozen hF0.did 0
  have y1 := blk_frozen hF0.did 1
  have y2 := blk_frozen hF0.did 2
  have y3 := blk_frozen hF0.did 3
  obtain ⟨p0, p1, p2, p3⟩ := hF0.dcell
  have HE := Lib.hid (And.intro hF0 (And.intro hk ee))
  have HZ := Lib.hid hZ
  clear h hF0 hR hWZ bz hB hp hs hI hr hZ hgv hg ee hdl
  go_enter Tryz.func115, Tryz.ntmps115
  go_upto_region 4 with fail
  rw [← HZ.out]
  clear b3
  go_upto_region 9 with (first | (go_at_call 117; (with_reducible refine cL.mono ?_); intro e w2 hq; unfold RkPost at hq; obtain ⟨rfl, hP⟩ := hq; dsimp only [Dd.rval]; have hM := HE.out.1.keep (s' := f.s) (Y := w2) ⟨hP.raw, hP.ref, HE.out.1.fp.wr.trans hP.wr (fun _ _ e => e), HE.out.1.fp.old, HE.out.1.fp.bs, HE.out.1.fp.bw⟩ hP.wr (fun _ e => e); obtain ⟨p0, p1, p2, p3⟩ := hM.dcell; obtain ⟨y0, y1, y2, y3⟩ := hM.dfrz; have HM := Lib.hid (hM.setAll r.dd); clear hM hP))
  obtain ⟨V, hV⟩ : ∃ V, V = ((((w2.setCell ⟨w.heap.size + 1, 0, none⟩ (.int .i64 r.dd.ev)).setCell ⟨w.heap.size + 1, 1, none⟩ (.int .i64 (b2i r.dd.enq))).setCell ⟨w.heap.size + 1, 2, none⟩ (.int .i64 (b2i r.dd.arr))).setCell ⟨w.heap.size + 1, 3, none⟩ (.int .i64 (b2i r.dd.lead))) := ⟨_, rfl⟩
  rw [← hV]
  have gV := HM.out
  rw [← hV] at gV
  clear hV HM c0 cs ct p0 p1 p2 p3 y0 y1 y2 y3
  have n0 : V.drew.cell? ⟨M.r, 0, none⟩ = some (.pointer (some ⟨M.sr, 0, none⟩)) := gV.raw.cell0
  have e0 : V.drew.cell? ⟨w.heap.size + 1, 0, none⟩ = some (.int .i64 r.dd.ev) := gV.dcell.1
  have cE := rs_end gV.drew.raw.seat n1 n2 (k : Int) r.dd.ev
  rw [HE.out.2.2] at cE
  have HX := Lib.hid gV
  clear gV
  by_cases hev : r.dd.ev = 0
  · rw [if_pos hev] at cE
    have HA2 : RowKit.Hid (A = r.a ∧ D = r.d) := Lib.hid ⟨by rw [HAD.out.1, if_pos hev], by rw [HAD.out.2, if_pos hev]⟩
    clear hev
    go_region_held3 (fun w' => w'.cell? ⟨M.r, 0, none⟩ = some (.pointer (some ⟨M.sr, 0, none⟩)) ∧ w'.cell? ⟨w.heap.size + 1, 0, none⟩ = some (.int .i64 r.dd.ev)) (first | exact ⟨n0, e0⟩ | exact ⟨d0, q0⟩) (first | (go_at_call 119; (with_reducible refine cE.mono ?_); intro e w4 hq; have hF4 := HX.out.drew.ends (s' := f.s.fin (k : Int) r.dd.ev) (SS.fin_n _ _ _) hq; unfold RsPost at hq; obtain ⟨rfl, _, _⟩ := hq; obtain ⟨q0, q1, q2, q3⟩ := hF4.dcell; obtain ⟨v0, v1, v2, v3⟩ := hF4.rcell; obtain ⟨x0, x1, x2, x3⟩ := hF4.rfrz; have d0 := hF4.raw.cell0; have HT := Lib.hid hF4; clear hF4))
    go_wp2
    refine bodyPost_ret (v := Dd.rval r.dd) (results_cell_row rfl _ _ w.heap.size 109 _ (0, 0) _ rfl (set4 HT.out.res rfl _ _ _ _) Tryz.underlying109 rfl i_rid) rfl (by rw [HA2.out.1, HA2.out.2]; exact HT.out.told)
  · rw [if_neg hev] at cE
    have HA2 : RowKit.Hid (A = 1 ∧ D = 0) := Lib.hid ⟨by rw [HAD.out.1, if_neg hev], by rw [HAD.out.2, if_neg hev]⟩
    clear hev
    go_region_held3 (fun w' => w'.cell? ⟨M.r, 0, none⟩ = some (.pointer (some ⟨M.sr, 0, none⟩)) ∧ w'.cell? ⟨w.heap.size + 1, 0, none⟩ = some (.int .i64 r.dd.ev)) (first | exact ⟨n0, e0⟩ | exact ⟨d0, q0⟩) (first | (go_at_call 119; (with_reducible refine cE.mono ?_); intro e w4 hq; have hF4 := HX.out.drew.ends (s' := f.s.fin (k : Int) r.dd.ev) (SS.fin_n _ _ _) hq; unfold RsPost at hq; obtain ⟨rfl, _, _⟩ := hq; have q0 := hF4.dcell.1; have d0 := hF4.raw.cell0; have H4 := Lib.hid hF4; clear hF4))
    have gA := H4.out.drew
    have hkn : k < (f.s.fin (k : Int) r.dd.ev).n := by rw [SS.fin_n]; exact HE.out.2.1
    have hCC := gA.raw.cellsK hkn
    rw [SS.fin_n] at hCC
    have c3 := hCC.c3
    have c6 := hCC.c6
    have r0 := hCC.r0
    have r3 := hCC.r3
    have z0 := hCC.z0
    have z3 := hCC.z3
    have gB := (H4.out.s0 1).drew
    have hCB := gB.raw.cellsK hkn
    rw [SS.fin_n] at hCB
    have e3 := hCB.c3
    have e6 := hCB.c6
    have E3 := hCB.r3
    have F3 := hCB.z3
    have gC := ((H4.out.s0 1).s3 0).drew
    have hCD := gC.raw.cellsK hkn
    rw [SS.fin_n] at hCD
    have h3 := hCD.c3
    have h6 := hCD.c6
    have HT := Lib.hid gC
    clear gA gB gC hCC hCB hCD hkn d0 q0 n0 e0
    go_upto_region 10 with fail
    go_region_held3 (fun w' => w'.cell? ⟨M.r, 3, none⟩ = some (.slice (some ⟨M.rw 0, 0, none⟩) f.s.n M.cp) ∧ w'.cell? ⟨M.r, 6, none⟩ = some (.slice (some ⟨M.rw 3, 0, none⟩) f.s.n f.s.n)) (first | with_reducible exact ⟨e3, e6⟩ | with_reducible exact ⟨h3, h6⟩ | exact ⟨c3, c6⟩) (fail)
    obtain ⟨U, hU⟩ : ∃ U, U = ((w4.setCell ⟨M.rw 0, k, none⟩ (.int .i64 1)).setCell ⟨M.rw 3, k, none⟩ (.int .i64 0)).drew := ⟨_, rfl⟩
    rw [← hU]
    have gU := HT.out
    rw [← hU] at gU
    clear HT hU c3 c6 r0 r3 z0 z3 e3 e6 E3 F3 h3 h6
    obtain ⟨p0, p1, p2, p3⟩ := gU.dcell
    obtain ⟨v0, v1, v2, v3⟩ := gU.rcell
    obtain ⟨x0, x1, x2, x3⟩ := gU.rfrz
    have HT := Lib.hid gU
    clear gU
    go_wp2
    refine bodyPost_ret (v := Dd.rval r.dd) (results_cell_row rfl _ _ w.heap.size 109 _ (0, 0) _ rfl (set4 HT.out.res rfl _ _ _ _) Tryz.underlying109 rfl i_rid) rfl (by rw [HA2.out.1, HA2.out.2]; exact HT.out.told)
set_option maxHeartbeats 8000000 in
theorem ml_unlock {w : World} {M : Mp} {bk : Nat} {so : Option Addr} {cap : Nat} {dv : Value} {f : FL} {L : Lp} (h : MsIn w M bk so cap dv f.s f.ea (fv f) f.ps) (hL1 : L.a1 = M.a) (hL2 : L.a2 = M.a + 1) (k : Nat) (hk : k < f.s.n) (u x : Int) (hB : RkIn f k u) (hp : 1 ≤ f.pc k ∧ f.pc k ≤ 6) (hs : f.s.st k = 3) :
    Calls Tryz.prog 115 #[.pointer (some ⟨M.r, 0, none⟩), .pointer (some ⟨M.pr, 0, none⟩), .int .i64 (k : Int), .int .i64 u, .int .i64 x] w (RkPost w M bk dv (f.s.fin k (rul f L k u).dd.ev) f.ea (vk (fv f) k (if (rul f L k u).dd.ev = 0 then (rul f L k u).a else 1) (rul f L k u).b (rul f L k u).c (if (rul f L k u).dd.ev = 0 then (rul f L k u).d else 0)) (rul f L k u).ps (rul f L k u).dd.rval) := by
  obtain ⟨Z, hZ⟩ : ∃ Z, Z = (w.alloc (.cells #[.int .i64 0, .int .i64 0, .int .i64 0, .int .i64 0] 109)).alloc (.cells #[.int .i64 0, .int .i64 0, .int .i64 0, .int .i64 0] 109) := ⟨_, rfl⟩
  obtain ⟨hF0, hR, hWZ⟩ := h.start Z hZ
  have i0 : (0 : Int) ≤ (k : Int) := by omega
  have i1 : (k : Int) < f.s.n := by omega
  have bz : M.base ≤ Z.heap.size := Nat.le_trans h.hb hWZ.size
  have i2 : ¬ (k : Int) < 0 := by omega
  have i3 : ¬ (f.s.n : Int) ≤ (k : Int) := by omega
  have iN : decide (f.s.n ≤ k) = false := decide_eq_false (by omega)
  have n1 := h.n1
  have n2 := h.n2
  have hI : MsIn Z M bk so cap dv f.s f.ea (fv f) f.ps := h.after hWZ
  have cL := rl_unlock hI hL1 hL2 k hk u hB hp
  have ee := end_fit hk (.inr ⟨hs, rul_ev f L k u⟩)
  obtain ⟨r, hr⟩ : ∃ r, r = rul f L k u := ⟨_, rfl⟩
  rw [← hr] at cL ee ⊢
  have hdd : r.dd = ⟨r.dd.ev, false, false, false⟩ := by rw [hr]; exact rul_dd f L k u
  obtain ⟨A, hA⟩ : ∃ A : Int, A = if r.dd.ev = 0 then r.a else 1 := ⟨_, rfl⟩
  obtain ⟨D, hD⟩ : ∃ D : Int, D = if r.dd.ev = 0 then r.d else 0 := ⟨_, rfl⟩
  rw [← hA, ← hD]
  have HAD := Lib.hid (And.intro hA hD)
  clear hA hD
  have b3 := (h.raw.after ((Wrote.refl Nil w).alloc (.cells #[.int .i64 0, .int .i64 0, .int .i64 0, .int .i64 0] 109))).cell3
  obtain ⟨g, cg, hgv, hg⟩ := SrAt.stV hF0.raw.seat (show 0 < f.s.n by omega)
  have c0 := hF0.raw.cell0
  have cs : Z.cell? ⟨M.sr, 0, none⟩ = some (.slice (some ⟨g, 0, none⟩) f.s.n cg) := (SrAt.cell0 hF0.raw.seat).trans (by rw [hgv])
  have ct := (hg k _ (stL_at f.s hk)).1
  rw [hs] at ct
  have y0 := blk_frozen hF0.did 0
  have y1 := blk_frozen hF0.did 1
  have y2 := blk_frozen hF0.did 2
  have y3 := blk_frozen hF0.did 3
  obtain ⟨p0, p1, p2, p3⟩ := hF0.dcell
  have HE := Lib.hid (And.intro hF0 (And.intro hk ee))
  have HDD := Lib.hid hdd
  clear hdd
  have HZ := Lib.hid hZ
  clear h hF0 hR hWZ bz hB hp hs hI hr hZ hgv hg ee
  go_enter Tryz.func115, Tryz.ntmps115
  go_upto_region 4 with fail
  rw [← HZ.out]
  clear b3
  go_upto_region 9 with (first | (go_at_call 118; (with_reducible refine cL.mono ?_); intro e w2 hq; unfold RkPost at hq; obtain ⟨rfl, hP⟩ := hq; have hM := HE.out.1.keep (s' := f.s) (Y := w2) ⟨hP.raw, hP.ref, HE.out.1.fp.wr.trans hP.wr (fun _ _ e => e), HE.out.1.fp.old, HE.out.1.fp.bs, HE.out.1.fp.bw⟩ hP.wr (fun _ e => e); obtain ⟨p0, p1, p2, p3⟩ := hM.dcell; obtain ⟨y0, y1, y2, y3⟩ := hM.dfrz; have HM := Lib.hid (hM.setD 0 (.int .i64 r.dd.ev) r.dd (by rw [HDD.out]; rfl)); clear hM hP))
  obtain ⟨V, hV⟩ : ∃ V, V = w2.setCell ⟨w.heap.size + 1, 0, none⟩ (.int .i64 r.dd.ev) := ⟨_, rfl⟩
  rw [← hV]
  have gV := HM.out
  rw [← hV] at gV
  clear hV HM c0 cs ct p0 p1 p2 p3 y0 y1 y2 y3
  have n0 : V.drew.cell? ⟨M.r, 0, none⟩ = some (.pointer (some ⟨M.sr, 0, none⟩)) := gV.raw.cell0
  have e0 : V.drew.cell? ⟨w.heap.size + 1, 0, none⟩ = some (.int .i64 r.dd.ev) := gV.dcell.1
  have cE := rs_end gV.drew.raw.seat n1 n2 (k : Int) r.dd.ev
  rw [HE.out.2.2] at cE
  have HX := Lib.hid gV
  clear gV
  by_cases hev : r.dd.ev = 0
  · rw [if_pos hev] at cE
    have HA2 : RowKit.Hid (A = r.a ∧ D = r.d) := Lib.hid ⟨by rw [HAD.out.1, if_pos hev], by rw [HAD.out.2, if_pos hev]⟩
    clear hev
    go_region_held3 (fun w' => w'.cell? ⟨M.r, 0, none⟩ = some (.pointer (some ⟨M.sr, 0, none⟩)) ∧ w'.cell? ⟨w.heap.size + 1, 0, none⟩ = some (.int .i64 r.dd.ev)) (first | exact ⟨n0, e0⟩ | exact ⟨d0, q0⟩) (first | (go_at_call 119; (with_reducible refine cE.mono ?_); intro e w4 hq; have hF4 := HX.out.drew.ends (s' := f.s.fin (k : Int) r.dd.ev) (SS.fin_n _ _ _) hq; unfold RsPost at hq; obtain ⟨rfl, _, _⟩ := hq; obtain ⟨q0, q1, q2, q3⟩ := hF4.dcell; obtain ⟨v0, v1, v2, v3⟩ := hF4.rcell; obtain ⟨x0, x1, x2, x3⟩ := hF4.rfrz; have d0 := hF4.raw.cell0; have HT := Lib.hid hF4; clear hF4))
    go_wp2
    refine bodyPost_ret (v := Dd.rval r.dd) (results_cell_row rfl _ _ w.heap.size 109 _ (0, 0) _ rfl (set4 HT.out.res rfl _ _ _ _) Tryz.underlying109 rfl i_rid) rfl (by rw [HA2.out.1, HA2.out.2]; exact HT.out.told)
  · rw [if_neg hev] at cE
    have HA2 : RowKit.Hid (A = 1 ∧ D = 0) := Lib.hid ⟨by rw [HAD.out.1, if_neg hev], by rw [HAD.out.2, if_neg hev]⟩
    clear hev
    go_region_held3 (fun w' => w'.cell? ⟨M.r, 0, none⟩ = some (.pointer (some ⟨M.sr, 0, none⟩)) ∧ w'.cell? ⟨w.heap.size + 1, 0, none⟩ = some (.int .i64 r.dd.ev)) (first | exact ⟨n0, e0⟩ | exact ⟨d0, q0⟩) (first | (go_at_call 119; (with_reducible refine cE.mono ?_); intro e w4 hq; have hF4 := HX.out.drew.ends (s' := f.s.fin (k : Int) r.dd.ev) (SS.fin_n _ _ _) hq; unfold RsPost at hq; obtain ⟨rfl, _, _⟩ := hq; have q0 := hF4.dcell.1; have d0 := hF4.raw.cell0; have H4 := Lib.hid hF4; clear hF4))
    have gA := H4.out.drew
    have hkn : k < (f.s.fin (k : Int) r.dd.ev).n := by rw [SS.fin_n]; exact HE.out.2.1
    have hCC := gA.raw.cellsK hkn
    rw [SS.fin_n] at hCC
    have c3 := hCC.c3
    have c6 := hCC.c6
    have r0 := hCC.r0
    have r3 := hCC.r3
    have z0 := hCC.z0
    have z3 := hCC.z3
    have gB := (H4.out.s0 1).drew
    have hCB := gB.raw.cellsK hkn
    rw [SS.fin_n] at hCB
    have e3 := hCB.c3
    have e6 := hCB.c6
    have E3 := hCB.r3
    have F3 := hCB.z3
    have gC := ((H4.out.s0 1).s3 0).drew
    have hCD := gC.raw.cellsK hkn
    rw [SS.fin_n] at hCD
    have h3 := hCD.c3
    have h6 := hCD.c6
    have HT := Lib.hid gC
    clear gA gB gC hCC hCB hCD hkn d0 q0 n0 e0
    go_upto_region 10 with fail
    go_region_held3 (fun w' => w'.cell? ⟨M.r, 3, none⟩ = some (.slice (some ⟨M.rw 0, 0, none⟩) f.s.n M.cp) ∧ w'.cell? ⟨M.r, 6, none⟩ = some (.slice (some ⟨M.rw 3, 0, none⟩) f.s.n f.s.n)) (first | with_reducible exact ⟨e3, e6⟩ | with_reducible exact ⟨h3, h6⟩ | exact ⟨c3, c6⟩) (fail)
    obtain ⟨U, hU⟩ : ∃ U, U = ((w4.setCell ⟨M.rw 0, k, none⟩ (.int .i64 1)).setCell ⟨M.rw 3, k, none⟩ (.int .i64 0)).drew := ⟨_, rfl⟩
    rw [← hU]
    have gU := HT.out
    rw [← hU] at gU
    clear HT hU c3 c6 r0 r3 z0 z3 e3 e6 E3 F3 h3 h6
    obtain ⟨p0, p1, p2, p3⟩ := gU.dcell
    obtain ⟨v0, v1, v2, v3⟩ := gU.rcell
    obtain ⟨x0, x1, x2, x3⟩ := gU.rfrz
    have HT := Lib.hid gU
    clear gU
    go_wp2
    refine bodyPost_ret (v := Dd.rval r.dd) (results_cell_row rfl _ _ w.heap.size 109 _ (0, 0) _ rfl (set4 HT.out.res rfl _ _ _ _) Tryz.underlying109 rfl i_rid) rfl (by rw [HA2.out.1, HA2.out.2]; exact HT.out.told)
end Go.Proofs.YtdhpmcafekpfhaaGreat

/- A range over a function that keeps what it has left in a variable that it has captured: what such a function promises, and what a loop over it does; no program is named. -/
import Derived.Test.YtihlokhejopphaaDoorGrow
import Derived.RangeFuncNested
import Derived.RangeFuncBound
import Derived.RangeFuncCalls
import Derived.RangeFuncLeaves
import Derived.Shelf.Abstract
import Derived.Shelf.RegionOpen
import Derived.OwnWalkIn
import Derived.TacticsInMore
import Derived.LoopNIn
import Derived.LoopIn
namespace Go.Proofs.YtihlokhejopphaaDoor
open Go.RowKit
set_option linter.unusedVariables false

/-- what a round of the loop keeps for the function: what lay below B0, and the captured variable's block -/
structure Kept (B0 Bs : Nat) (X Y : World) : Prop where
  low : Below B0 X Y
  box : ∀ o, X.heap[Bs]? = some o → Y.heap[Bs]? = some o
theorem Kept.refl (B0 Bs : Nat) (X : World) : Kept B0 Bs X X := ⟨Below.refl _ _, fun _ h => h⟩
theorem Kept.trans {B0 Bs : Nat} {X Y Z : World} (h : Kept B0 Bs X Y) (k : Kept B0 Bs Y Z) : Kept B0 Bs X Z := ⟨h.low.trans k.low, fun o ho => k.box o (h.box o ho)⟩
theorem Kept.grown {B0 Bs r : Nat} {X Y : World} (hX : B0 ≤ X.heap.size) (hg : X.grownBy Y (some r)) (h1 : B0 ≤ r) (h2 : r ≠ Bs) : Kept B0 Bs X Y :=
  ⟨(Below.refl _ X).grown hg hX (fun k e => by cases e; exact h1), fun o ho => (hg.block Bs (blk_lt ho) (fun e => h2 (by cases e; rfl))).trans ho⟩

/-- what is said of a world's own blocks abides the function's stores into its variable -/
def Bears {α : Type} (Bs : Nat) (J : List α → World → Prop) : Prop := ∀ s X Y, J s X → X.grownBy Y (some Bs) → J s Y
/-- .. and the loop's own book-keeping too -/
def BearsAll {α : Type} (Bs L : Nat) (J : α → World → Prop) : Prop :=
  ∀ s X Y r, J s X → X.grownBy Y (some r) → (r = Bs ∨ (L ≤ r ∧ (∀ o : Obj, X.heap[r]? = some o → o.isCells = false))) → J s Y

/-- the function calls for the rounds in order: all of them, or up to one that says no -/
def SeqC {α : Type} (F : Fence) (n : Nat) (P : Program) (gf Bs B0 : Nat) (encs : α → Array Value) (S Sp : List α → Prop) (N : Nat) (w0 : World) : Prop :=
  ∀ (l : Nat) (J Jx : List α → World → Prop) (W : World), Below w0.heap.size w0 W → Bears Bs J → Bears Bs Jx →
    (∀ pre x W1, J pre W1 → pre.length < N → YieldAt F (n - 1) P l (encs x) W1 fun e W' =>
      (e = .returned (.bool true) ∧ J (pre ++ [x]) W' ∧ Kept B0 Bs W1 W') ∨ (e = .returned (.bool false) ∧ Jx (pre ++ [x]) W')) →
    J [] W →
    CallsIn F n P gf #[.func (.yield l) #[] #[], .pointer (some ⟨Bs, 0, none⟩)] W fun e W' => (∃ v, e = .returned v) ∧ ((∃ xs, S xs ∧ J xs W') ∨ (∃ pre, Sp pre ∧ Jx pre W'))

/-- how a round is left: it goes on, or it returns -/
def EndC {α : Type} (B0 Bs L : Nat) (I Ix : List α → World → Prop) (xs : List α) (W : World) : Exit → Act → World → Prop
  | .normal, _, W' => KeepsFrom L W W' ∧ Kept B0 Bs W W' ∧ I xs W'
  | .ret, _, W' => KeepsFrom L W W' ∧ Ix xs W'
  | _, _, _ => False

theorem bears_put {α : Type} {Bs L l : Nat} {J : α → World → Prop} (h : BearsAll Bs L J) {s : α} {W : World} {o : Obj} (o' : Obj) (hs : J s W) (hl : W.heap[l]? = some o) (hL : L ≤ l) (ho : o.isCells = false) : J s (W.putObj l o') :=
  h s W _ l hs (grownBy_putObj' W l o') (.inr ⟨hL, fun o1 h1 => by rw [hl] at h1; cases h1; exact ho⟩)
theorem bears_alloc {α : Type} {Bs L : Nat} {J : α → World → Prop} (h : BearsAll Bs L J) {s : α} {W : World} (o : Obj) (hs : J s W) : J s (W.alloc o) :=
  h s W _ Bs hs (World.grownBy_alloc W o _) (.inl rfl)

section
variable {F : Fence} {n : Nat} {P : Program}
theorem wpIn_rangeC {α : Type} {g : Operand} {ps : Array Tmp} {assign body : Code} {Q : Exit → Act → World → Prop} {a : Act} {w : World}
    (hro : F.round = none) (h1 : 1 ≤ n) {gf Bs B0 : Nat} (hg : a.eval g = .func (.func gf) #[] #[.pointer (some ⟨Bs, 0, none⟩)]) (hFg : F.fn gf) (eg : ∀ args w, (callFunc gf args).run P w = .ok (.enter gf args) w)
    {encs : α → Array Value} {S Sp : List α → Prop} {N : Nat} {w0 : World} (hseq : SeqC F (n - 1) P gf Bs B0 encs S Sp N w0)
    (hBs : Bs < w.heap.size) (hB0 : B0 ≤ w.heap.size) (hb0 : Below w0.heap.size w0 w) (hps : ∀ x, (encs x).size = ps.size)
    (I Ix : List α → World → Prop) (hI : BearsAll Bs w.heap.size I) (hIx : BearsAll Bs w.heap.size Ix) (h0 : I [] w)
    (Ax : α → Act → World → Prop) (hAx : ∀ x a', BearsAll Bs w.heap.size (fun (_ : Unit) W => Ax x a' W))
    (hassign : ∀ (l : Nat) (pre : List α) (x : α) (W : World) (K : Act → World → Prop), I pre W → (∀ a' W', KeepsFrom w.heap.size W W' → Kept B0 Bs W W' → I pre W' → Ax x a' W' → K a' W') →
      assign.wpIn (F.inRound l) (n - 1 - 1) P (Exit.then K (fun _ _ _ => False)) { tmps := (ps.zip (encs x)).foldl (fun t (p, v) => t.setIfInBounds p v) a.tmps, defers := [] } W)
    (hbody : ∀ (l : Nat) (pre : List α) (x : α) (a' : Act) (W : World), w.heap.size ≤ W.heap.size → I pre W → Ax x a' W → pre.length < N → body.wpIn (F.inRound l) (n - 1 - 1) P (EndC B0 Bs w.heap.size I Ix (pre ++ [x]) W) a' W)
    (hdone : ∀ (D : Nat) (xs : List α) (W : World), w.heap.size ≤ D → S xs → I xs W → W.heap[D]? = some (.deferred (some [])) → Q .normal { a with defers := { target := .collected D, args := #[] } :: a.defers } W)
    (hstop : ∀ (D : Nat) (pre : List α) (W : World), w.heap.size ≤ D → Sp pre → Ix pre W → W.heap[D]? = some (.deferred (some [])) → Code.ret.wpIn F n P Q { a with defers := { target := .collected D, args := #[] } :: a.defers } W) :
    (Code.rangeFunc g ps assign body).wpIn F n P Q a w := by
  refine wpIn_rangeFunc fun fn hfn => ?_
  rw [hro]
  let R : LoopState → Option Code → Obj := fun st pe => .loop { state := st, pending := pe, fn, tmps := a.tmps, params := ps, assign, body, defers := w.heap.size }
  obtain ⟨V, hV⟩ : ∃ V, V = (w.alloc (.deferred (some []))).alloc (R .ready none) := ⟨_, rfl⟩
  have hVs : V.heap.size = w.heap.size + 2 := by rw [hV]; simp
  have hVl : V.heap[w.heap.size + 1]? = some (R .ready none) := by
    have h := World.alloc_heap_new (w.alloc (.deferred (some []))) (R .ready none)
    rw [World.size_alloc] at h
    rw [hV]; exact h
  have hVd : V.heap[w.heap.size]? = some (.deferred (some [])) := by
    rw [hV]
    exact (Below.heap_alloc _ _ _ (by simp)).trans (World.alloc_heap_new w _)
  have hVI : I [] V := by rw [hV]; exact bears_alloc hI _ (bears_alloc hI _ h0)
  have hVb : Below w0.heap.size w0 V := by rw [hV]; exact hb0.trans ((((Below.refl _ w).alloc (Nat.le_refl _) _).alloc (by simp) _).mono hb0.size)
  have nocell : ∀ st pe, (R st pe).isCells = false := fun _ _ => rfl
  -- a store into the captured variable leaves the two blocks of book-keeping
  have leave : ∀ {X Y : World} {k : Nat} {o : Obj}, X.grownBy Y (some Bs) → w.heap.size ≤ k → X.heap[k]? = some o → Y.heap[k]? = some o := fun {X Y k o} hgr hk ho => (hgr.block k (blk_lt ho) (fun e => by cases e; omega)).trans ho
  refine ⟨w.heap.size + 1, [{ target := .collected w.heap.size, args := #[] }], V, { target := .fn (.func gf) #[.pointer (some ⟨Bs, 0, none⟩)], args := #[.func (.yield (w.heap.size + 1)) #[] #[]] }, V, gf,
    #[.func (.yield (w.heap.size + 1)) #[] #[], .pointer (some ⟨Bs, 0, none⟩)], V, ?_, ?_, fun f' hf' => ?_, ?_, fun _ => h1, ?_⟩
  · rw [hV]; exact run_enterLoop_outer _ _ _ _ _
  · simp only [resolve, hg]
    simp [go_sem]
  · simp only [Target.leads] at hf'
    obtain rfl : gf = f' := by simpa using hf'
    exact hFg
  · simp [invoke, go_sem, eg]
  have ready : ∀ (X : World) (st : LoopState) (pe : Option Code), X.heap[w.heap.size + 1]? = some (R st pe) → ∀ st' pe', (X.putObj (w.heap.size + 1) (R st' pe')).heap[w.heap.size + 1]? = some (R st' pe') ∧
      (∀ o, X.heap[w.heap.size]? = some o → (X.putObj (w.heap.size + 1) (R st' pe')).heap[w.heap.size]? = some o) ∧ (∀ s, I s X → I s (X.putObj (w.heap.size + 1) (R st' pe'))) ∧ (∀ s, Ix s X → Ix s (X.putObj (w.heap.size + 1) (R st' pe'))) ∧
      (B0 ≤ X.heap.size → Kept B0 Bs X (X.putObj (w.heap.size + 1) (R st' pe'))) := fun X st pe hX st' pe' =>
    ⟨World.putObj_heap_same (blk_lt hX), fun o ho => (World.putObj_heap_other (by omega)).trans ho, fun s hs => bears_put hI _ hs hX (by omega) rfl, fun s hs => bears_put hIx _ hs hX (by omega) rfl,
      fun hB => Kept.grown hB (grownBy_putObj' X _ _) (by omega) (by omega)⟩
  refine (hseq (w.heap.size + 1) (fun pre W => I pre W ∧ W.heap[w.heap.size + 1]? = some (R .ready none) ∧ W.heap[w.heap.size]? = some (.deferred (some [])))
    (fun pre W => Ix pre W ∧ W.heap[w.heap.size + 1]? = some (R .done (some .ret)) ∧ W.heap[w.heap.size]? = some (.deferred (some [])))
    V hVb (fun s X Y h hgr => ⟨hI s X Y Bs h.1 hgr (.inl rfl), leave hgr (by omega) h.2.1, leave hgr (Nat.le_refl _) h.2.2⟩)
    (fun s X Y h hgr => ⟨hIx s X Y Bs h.1 hgr (.inl rfl), leave hgr (by omega) h.2.1, leave hgr (Nat.le_refl _) h.2.2⟩) ?_ ⟨hVI, hVl, hVd⟩).mono ?_
  · rintro pre x W ⟨hi, hl, hd⟩ hlen
    have hy := run_yield (P := P) (args := encs x) hl (hps x)
    refine ⟨fn, _, assign, body, hy, roundIn_of_wpIn hfn (hassign _ pre x W _ hi fun a' Wa hkf hkp hia hax => ?_)⟩
    have hla := hkf.same _ _ (by omega) hl rfl
    have hda := hkf.same _ _ (Nat.le_refl _) hd rfl
    obtain ⟨r1, r2, r3, r4, r5⟩ := ready Wa _ _ hla .busy none
    have hda2 := r2 _ hda
    have hsz : w.heap.size + 1 < Wa.heap.size := blk_lt hla
    have hk5 := r5 (by omega)
    have hsb : w.heap.size ≤ (Wa.putObj (w.heap.size + 1) (R .busy none)).heap.size := by have := blk_lt r1; omega
    refine ⟨_, run_beginRound hla rfl, ?_⟩
    refine wpIn_mono (hbody _ pre x a' _ hsb (r3 _ hia) (bears_put (hAx x a') (s := ()) _ hax hla (by omega) rfl) hlen) ?_
    rintro e a3 W3 hp
    cases e with
    | normal =>
      obtain ⟨hk3, hkp3, hi3⟩ := hp
      have hl3 := hk3.same _ _ (by omega) r1 rfl
      have hd3 := hk3.same _ _ (Nat.le_refl _) hda2 rfl
      obtain ⟨s1, s2, s3, s4, s5⟩ := ready W3 _ _ hl3 .ready none
      exact ⟨_, _, run_endRound (P := P) none hl3, .inl ⟨rfl, ⟨s3 _ hi3, s1, s2 _ hd3⟩, hkp.trans ((hk5.trans hkp3).trans (s5 (by have := blk_lt hl3; omega)))⟩⟩
    | ret =>
      obtain ⟨hk3, hi3⟩ := hp
      have hl3 := hk3.same _ _ (by omega) r1 rfl
      have hd3 := hk3.same _ _ (Nat.le_refl _) hda2 rfl
      obtain ⟨s1, s2, s3, s4, s5⟩ := ready W3 _ _ hl3 .done (some .ret)
      exact ⟨_, _, run_endRound (P := P) (some .ret) hl3, .inr ⟨rfl, s4 _ hi3, s1, s2 _ hd3⟩⟩
    | exit id => exact hp.elim
    | goto t => exact hp.elim
    | panic ch => exact hp.elim
    | outgrown => exact hp.elim
  · rintro e W2 ⟨⟨v, rfl⟩, ⟨xs, hS, hi, hl, hd⟩ | ⟨pre, hSp, hi, hl, hd⟩⟩
    · obtain ⟨s1, s2, s3, s4, s5⟩ := ready W2 _ _ hl .exhausted none
      exact ⟨none, _, run_endLoop (P := P) hl (by simp), hdone _ xs _ (Nat.le_refl _) hS (s3 _ hi) (s2 _ hd)⟩
    · obtain ⟨s1, s2, s3, s4, s5⟩ := ready W2 _ _ hl .exhausted (some .ret)
      exact ⟨some .ret, _, run_endLoop (P := P) hl (by simp), hstop _ pre _ (Nat.le_refl _) hSp (s4 _ hi) (s2 _ hd)⟩
end
end Go.Proofs.YtihlokhejopphaaDoor

/- A lock of locks as a plain thing: its seats, each context's node, its context there, its phase and what it loaded, its inner locks, the state of its port; what a step does; no heap, no walk. -/
import Derived.Test.YtkmikkjjnbikdaaGreatCoFlat
import Derived.Test.YtkmikkjjnbikdaaGreatCoClh
import Derived.Test.YtkmikkjjnbikdaaGreatCoMcs
namespace Go.Proofs.YtkmikkjjnbikdaaGreat
set_option linter.unusedVariables false
set_option maxRecDepth 100000

/-! ### what a step may tell -/
namespace Kf
theorem did_at {f : FL} {L : Lp} {k u : Nat} (hk : k < f.s.n) :
    (f.s.st k = 1 → ((f.did L k u).ev = 0 ∨ (f.did L k u).ev = 1) ∧ (f.did L k u).arr = false ∧ (f.did L k u).lead = false) ∧
    (f.s.st k = 3 → ((f.did L k u).ev = 0 ∨ (f.did L k u).ev = 3) ∧ (f.did L k u).enq = false) ∧
    (f.s.st k = 4 → ((f.did L k u).ev = 4 ∨ (f.did L k u).ev = 5) ∧ (f.did L k u).enq = false) ∧
    (f.s.st k ≠ 1 → f.s.st k ≠ 3 → f.s.st k ≠ 4 → f.did L k u = Dd.no) := by
  have ht : (0 : Int) ≤ (k : Int) ∧ (k : Int) < f.s.n := by omega
  unfold FL.did
  rw [if_pos ht, Int.toNat_natCast]
  refine ⟨fun e => ?_, fun e => ?_, fun e => ?_, fun e1 e3 e4 => ?_⟩
  · rw [if_pos e]
    unfold FL.acqD Dd.no
    repeat' split
    all_goals simp
  · rw [if_neg (by omega), if_pos e]
    skip
    repeat' split
    all_goals simp
  · rw [if_neg (by omega), if_neg (by omega), if_pos e]
    unfold FL.askD
    repeat' split
    all_goals simp
  · rw [if_neg e1, if_neg e3, if_neg e4]
theorem step_s (f : FL) (L : Lp) (t u : Int) : (f.step L t u).s = f.s.fin t (f.did L t u).ev := rfl
/-- a lock's words' addresses alone -/
def lp (a : Int) : Lp := { lb := 0, p := 0, b := 0, tb := 0, a1 := a, a2 := a + 1, q := ⟨0, 0, 0, 0, 0, 0, 0, 0, 0, 0, 0, 0, .slice none 0 0⟩, hs := [] }
theorem step_lp {L : Lp} (h : L.a2 = L.a1 + 1) (f : FL) (t u : Int) : f.step L t u = f.step (lp L.a1) t u ∧ f.did L t u = f.did (lp L.a1) t u := by
  have e1 : (lp L.a1).a1 = L.a1 := rfl
  have e2 : (lp L.a1).a2 = L.a2 := h.symm
  have d : f.did L t u = f.did (lp L.a1) t u := by
    unfold FL.did FL.acqD FL.askD 
    rw [e1, e2]
  refine ⟨?_, d⟩
  unfold FL.step
  rw [d]
  have m : f.mid L t u = f.mid (lp L.a1) t u := by
    unfold FL.mid FL.acq FL.rel FL.ask 
    rw [e1, e2]
  rw [m]
end Kf
namespace Kc
theorem did_at {f : FL} {L : Lp} {k u : Nat} (hk : k < f.s.n) :
    (f.s.st k = 1 → ((f.did L k u).ev = 0 ∨ (f.did L k u).ev = 1) ∧ (f.did L k u).arr = false ∧ (f.did L k u).lead = false) ∧
    (f.s.st k = 3 → ((f.did L k u).ev = 0 ∨ (f.did L k u).ev = 3) ∧ (f.did L k u).enq = false) ∧
    (f.s.st k = 4 → ((f.did L k u).ev = 4 ∨ (f.did L k u).ev = 5) ∧ (f.did L k u).enq = false) ∧
    (f.s.st k ≠ 1 → f.s.st k ≠ 3 → f.s.st k ≠ 4 → f.did L k u = Dd.no) := by
  have ht : (0 : Int) ≤ (k : Int) ∧ (k : Int) < f.s.n := by omega
  unfold FL.did
  rw [if_pos ht, Int.toNat_natCast]
  refine ⟨fun e => ?_, fun e => ?_, fun e => ?_, fun e1 e3 e4 => ?_⟩
  · rw [if_pos e]
    unfold FL.acqD Dd.no
    repeat' split
    all_goals simp
  · rw [if_neg (by omega), if_pos e]
    skip
    repeat' split
    all_goals simp
  · rw [if_neg (by omega), if_neg (by omega), if_pos e]
    unfold FL.askD
    repeat' split
    all_goals simp
  · rw [if_neg e1, if_neg e3, if_neg e4]
theorem step_s (f : FL) (L : Lp) (t u : Int) : (f.step L t u).s = f.s.fin t (f.did L t u).ev := rfl
/-- a lock's words' addresses alone -/
def lp (a : Int) : Lp := { lb := 0, p := 0, b := 0, tb := 0, a1 := a, a2 := a + 1, q := ⟨0, 0, 0, 0, 0, 0, 0, 0, 0, 0, 0, 0, .slice none 0 0⟩, hs := [] }
theorem step_lp {L : Lp} (h : L.a2 = L.a1 + 1) (f : FL) (t u : Int) : f.step L t u = f.step (lp L.a1) t u ∧ f.did L t u = f.did (lp L.a1) t u := by
  have e1 : (lp L.a1).a1 = L.a1 := rfl
  have e2 : (lp L.a1).a2 = L.a2 := h.symm
  have d : f.did L t u = f.did (lp L.a1) t u := by
    unfold FL.did FL.acqD FL.askD 
    rw [e1, e2]
  refine ⟨?_, d⟩
  unfold FL.step
  rw [d]
  have m : f.mid L t u = f.mid (lp L.a1) t u := by
    unfold FL.mid FL.acq FL.rel FL.ask 
    rw [e1, e2]
  rw [m]
end Kc
namespace Km
theorem did_at {f : FL} {L : Lp} {k u : Nat} (hk : k < f.s.n) :
    (f.s.st k = 1 → ((f.did L k u).ev = 0 ∨ (f.did L k u).ev = 1) ∧ (f.did L k u).arr = false ∧ (f.did L k u).lead = false) ∧
    (f.s.st k = 3 → ((f.did L k u).ev = 0 ∨ (f.did L k u).ev = 3) ∧ (f.did L k u).enq = false) ∧
    (f.s.st k = 4 → ((f.did L k u).ev = 4 ∨ (f.did L k u).ev = 5) ∧ (f.did L k u).enq = false) ∧
    (f.s.st k ≠ 1 → f.s.st k ≠ 3 → f.s.st k ≠ 4 → f.did L k u = Dd.no) := by
  have ht : (0 : Int) ≤ (k : Int) ∧ (k : Int) < f.s.n := by omega
  unfold FL.did
  rw [if_pos ht, Int.toNat_natCast]
  refine ⟨fun e => ?_, fun e => ?_, fun e => ?_, fun e1 e3 e4 => ?_⟩
  · rw [if_pos e]
    unfold FL.acqD Dd.no
    repeat' split
    all_goals simp
  · rw [if_neg (by omega), if_pos e]
    unfold FL.relD Dd.no
    repeat' split
    all_goals simp
  · rw [if_neg (by omega), if_neg (by omega), if_pos e]
    unfold FL.askD
    repeat' split
    all_goals simp
  · rw [if_neg e1, if_neg e3, if_neg e4]
theorem step_s (f : FL) (L : Lp) (t u : Int) : (f.step L t u).s = f.s.fin t (f.did L t u).ev := rfl
/-- a lock's words' addresses alone -/
def lp (a : Int) : Lp := { lb := 0, p := 0, b := 0, tb := 0, a1 := a, a2 := a + 1, q := ⟨0, 0, 0, 0, 0, 0, 0, 0, 0, 0, 0, 0, .slice none 0 0⟩, hs := [] }
theorem step_lp {L : Lp} (h : L.a2 = L.a1 + 1) (f : FL) (t u : Int) : f.step L t u = f.step (lp L.a1) t u ∧ f.did L t u = f.did (lp L.a1) t u := by
  have e1 : (lp L.a1).a1 = L.a1 := rfl
  have e2 : (lp L.a1).a2 = L.a2 := h.symm
  have d : f.did L t u = f.did (lp L.a1) t u := by
    unfold FL.did FL.acqD FL.relD FL.askD Lp.nx Lp.lk
    rw [e1, e2]
  refine ⟨?_, d⟩
  unfold FL.step
  rw [d]
  have m : f.mid L t u = f.mid (lp L.a1) t u := by
    unfold FL.mid FL.acq FL.rel FL.ask Lp.nx Lp.lk
    rw [e1, e2]
  rw [m]
end Km
/-- what all of them tell of their queue -/
structure Qf (s : SS) (g : Option Nat) (W : List Nat) : Prop where
  n8 : s.n ≤ 8
  nodup : (g.toList ++ W).Nodup
  lt : ∀ k ∈ g.toList ++ W, k < s.n
  stg : ∀ k, g = some k → s.st k = 2 ∨ s.st k = 3 ∨ s.st k = 4
  stw : ∀ k ∈ W, s.st k = 1
  sto : ∀ k, k < s.n → k ∉ g.toList ++ W → s.st k = 0 ∨ s.st k = 1
theorem Qf.held {s : SS} {g : Option Nat} {W : List Nat} (h : Qf s g W) {k : Nat} (hk : k < s.n) (hs : s.st k = 2 ∨ s.st k = 3 ∨ s.st k = 4) : g = some k := by
  by_cases hm : k ∈ g.toList ++ W
  · rcases List.mem_append.1 hm with hm | hm
    · exact by simpa using hm
    · have := h.stw k hm; omega
  · have := h.sto k hk hm; omega
/-- a step: what comes of the queue -/
inductive StI (W : List Nat) (k : Nat) (d : Dd) (W' : List Nat) : Prop where
  | same (h0 : d.enq = false) (h1 : d.ev ≠ 1) (e : W' = W) : StI W k d W'
  | enq (hd : d = ⟨0, true, false, false⟩) (e : W' = W ++ [k]) : StI W k d W'
  | grant (hd : d = ⟨1, false, false, false⟩) (e : W = k :: W') : StI W k d W'
  | both (hd : d = ⟨1, true, false, false⟩) (e : W = []) (e' : W' = []) : StI W k d W'
theorem Kf.In.qf {f : Kf.FL} {o : Nat} {g : Option Nat} {W : List Nat} (h : Kf.In f o g W) : Qf f.s g W := by
  obtain ⟨_, nx, ow, h⟩ := h
  exact ⟨h.n8, h.nodup, h.lt, h.stg, h.stw, h.sto⟩
theorem Kc.In.qf {f : Kc.FL} {o : Nat} {g : Option Nat} {W : List Nat} (h : Kc.In f o g W) : Qf f.s g W := by
  obtain ⟨_, e, h⟩ := h
  exact ⟨h.n8, h.nodup, h.lt, h.stg, h.stw, h.sto⟩
theorem Km.In.qf {f : Km.FL} {o : Nat} {g : Option Nat} {W : List Nat} (h : Km.In f o g W) : Qf f.s g W := by
  obtain ⟨_, h⟩ := h
  exact ⟨h.n8, h.cor.nodup, h.cor.lt, h.cor.stg, h.cor.stw, h.cor.sto⟩
theorem Kf.sti {W W' : List Nat} {k : Nat} {d : Dd} (h : Kf.OrdJ.StepQ W k d W') : StI W k d W' := by
  cases h with
  | same h0 h1 h2 e => exact .same h0 h1 e
  | enq hd j ht e => obtain rfl : k = j := by omega
                     exact .enq hd e
  | grant hd j ht e hn => obtain rfl : k = j := by omega
                          exact .grant hd e
theorem Kc.sti {W W' : List Nat} {k : Nat} {d : Dd} (h : Kc.OrdJ.StepQ W k d W') : StI W k d W' := by
  cases h with
  | same h0 h1 h2 e => exact .same h0 h1 e
  | enq hd j ht e => obtain rfl : k = j := by omega
                     exact .enq hd e
  | grant hd j ht e hn => obtain rfl : k = j := by omega
                          exact .grant hd e
theorem Km.sti {W W' : List Nat} {k : Nat} {d : Dd} (h : Km.OrdJ.StepQ W k d W') : StI W k d W' := by
  cases h with
  | same h0 h1 h2 e => exact .same h0 h1 e
  | enq hd j ht e => obtain rfl : k = j := by omega
                     exact .enq hd e
  | grant hd j ht e hn => obtain rfl : k = j := by omega
                          exact .grant hd e
  | both hd j ht e e' => exact .both hd e e'

/-- where an inner lock lies: its struct, its seats' struct and contexts, its places; its first word's address; its type; its blocks lie from lo on below hi -/
structure Ip where
  lb : Nat
  p : Nat
  b : Nat
  tb : Nat
  a : Nat
  ty : Nat
  lo : Nat
  hi : Nat

/-! ### one of the three -/
inductive Inn where
  | tk (f : Kf.FL)
  | cl (f : Kc.FL)
  | mc (f : Km.FL)
namespace Inn
def s : Inn → SS
  | tk f => f.s
  | cl f => f.s
  | mc f => f.s
def ps : Inn → PSta
  | tk f => f.ps
  | cl f => f.ps
  | mc f => f.ps
/-- over these words -/
def on (q : PSta) : Inn → Inn
  | tk f => tk { f with ps := q }
  | cl f => cl { f with ps := q }
  | mc f => mc { f with ps := q }
def size : Inn → Nat
  | tk f => 2
  | cl f => f.s.n + 2
  | mc f => 2 * f.s.n + 1
def lock (t d : Int) : Inn → Inn
  | tk f => tk (f.lock t d)
  | cl f => cl (f.lock t d)
  | mc f => mc (f.lock t d)
def turn (t x : Int) : Inn → Inn
  | tk f => tk (f.turn t x)
  | cl f => cl (f.turn t x)
  | mc f => mc (f.turn t x)
def step (a t u : Int) : Inn → Inn
  | tk f => tk (f.step (Kf.lp a) t u)
  | cl f => cl (f.step (Kc.lp a) t u)
  | mc f => mc (f.step (Km.lp a) t u)
def did (a t u : Int) : Inn → Dd
  | tk f => f.did (Kf.lp a) t u
  | cl f => f.did (Kc.lp a) t u
  | mc f => f.did (Km.lp a) t u
def At : Inn → Nat → Option Nat → List Nat → Prop
  | tk f, o, g, W => Kf.In f o g W
  | cl f, o, g, W => Kc.In f o g W
  | mc f, o, g, W => Km.In f o g W
section
variable {x : Inn} {o : Nat} {g : Option Nat} {W : List Nat}
theorem on_s (q : PSta) : (x.on q).s = x.s := by cases x <;> rfl
theorem on_ps (q : PSta) : (x.on q).ps = q := by cases x <;> rfl
theorem on_size (q : PSta) : (x.on q).size = x.size := by cases x <;> rfl
theorem on_self : x.on x.ps = x := by cases x <;> rfl
theorem on_on (q r : PSta) : (x.on q).on r = x.on r := by cases x <;> rfl
theorem lock_s (t d : Int) : (x.lock t d).s = x.s.lock t d := by cases x <;> rfl
theorem lock_ps (t d : Int) : (x.lock t d).ps = x.ps := by cases x <;> rfl
theorem lock_on (t d : Int) (q : PSta) : (x.lock t d).on q = (x.on q).lock t d := by cases x <;> rfl
theorem turn_s (t y : Int) : (x.turn t y).s = x.s.turn t y := by cases x <;> rfl
theorem turn_ps (t y : Int) : (x.turn t y).ps = x.ps := by cases x <;> rfl
theorem turn_on (t y : Int) (q : PSta) : (x.turn t y).on q = (x.on q).turn t y := by cases x <;> rfl
theorem step_s (a t u : Int) : (x.step a t u).s = x.s.fin t (x.did a t u).ev := by cases x <;> rfl
theorem step_len (a t u : Int) : (x.step a t u).ps.ws.length = x.ps.ws.length ∧ (x.step a t u).ps.ac.length = x.ps.ac.length := by
  cases x
  · exact Kf.step_len _ _
  · exact Kc.step_len _ _
  · exact Km.step_len _ _
theorem At.qf (h : x.At o g W) : Qf x.s g W := by
  cases x
  · exact Kf.In.qf h
  · exact Kc.In.qf h
  · exact Km.In.qf h
theorem At.fits (h : x.At o g W) : o + x.size ≤ x.ps.ws.length := by
  cases x
  · exact h.1
  · exact h.1
  · exact h.1
theorem At.lock (h : x.At o g W) (t d : Int) : (x.lock t d).At o g W := by
  cases x
  · exact Kf.In.lock h t d
  · exact Kc.In.lock h t d
  · exact Km.In.lock h t d
theorem At.turn (h : x.At o g W) (t y : Int) (hy : y = 3 ∨ y = 4) : (x.turn t y).At o g W := by
  cases x
  · exact Kf.In.turn h t y hy
  · exact Kc.In.turn h t y hy
  · exact Km.In.turn h t y hy
theorem At.far (h : x.At o g W) {q : PSta} (hl : q.ws.length = x.ps.ws.length) (hw : sub q.ws o x.size = sub x.ps.ws o x.size) : (x.on q).At o g W := by
  cases x
  · exact Kf.In.far h hl hw
  · exact Kc.In.far h hl hw
  · exact Km.In.far h hl hw
theorem At.step (h : x.At o g W) {k u : Nat} (hk : k < x.s.n) (hu : u < x.ps.ac.length) :
    ∃ g' W', (x.step o k u).At o g' W' ∧ StI W k (x.did o k u) W' ∧ (∀ o' n', o + x.size ≤ o' ∨ o' + n' ≤ o → sub (x.step o k u).ps.ws o' n' = sub x.ps.ws o' n') := by
  cases x
  · obtain ⟨g', W', a, b, c⟩ := Kf.In.step (L := Kf.lp o) h rfl rfl hk hu
    exact ⟨g', W', a, Kf.sti b, c⟩
  · obtain ⟨g', W', a, b, c⟩ := Kc.In.step (L := Kc.lp o) h rfl rfl hk hu
    exact ⟨g', W', a, Kc.sti b, c⟩
  · obtain ⟨g', W', a, b, c⟩ := Km.In.step (L := Km.lp o) h rfl rfl hk hu
    exact ⟨g', W', a, Km.sti b, c⟩
theorem At.company (h : x.At o g W) {k u : Nat} (hk : k < x.s.n) (hu : u < x.ps.ac.length) (hs : x.s.st k = 4) (h5 : (x.did o k u).ev = 5) : W ≠ [] := by
  intro hW
  cases x
  · rcases Kf.In.company (L := Kf.lp o) h rfl rfl hk hu hs with ⟨a, _⟩ | ⟨_, b⟩
    · have h5 : (Kf.FL.did _ (Kf.lp o) k u).ev = 5 := h5
      omega
    · exact b hW
  · have := Kc.In.company (L := Kc.lp o) h rfl rfl hk hu hs hW
    have h5 : (Kc.FL.did _ (Kc.lp o) k u).ev = 5 := h5
    omega
  · have := Km.In.company (L := Km.lp o) h rfl rfl hk hu hs hW
    have h5 : (Km.FL.did _ (Km.lp o) k u).ev = 5 := h5
    omega
theorem did_at {k u : Nat} (a : Int) (hk : k < x.s.n) :
    (x.s.st k = 1 → ((x.did a k u).ev = 0 ∨ (x.did a k u).ev = 1) ∧ (x.did a k u).arr = false ∧ (x.did a k u).lead = false) ∧
    (x.s.st k = 3 → ((x.did a k u).ev = 0 ∨ (x.did a k u).ev = 3) ∧ (x.did a k u).enq = false) ∧
    (x.s.st k = 4 → ((x.did a k u).ev = 4 ∨ (x.did a k u).ev = 5) ∧ (x.did a k u).enq = false) ∧
    (x.s.st k ≠ 1 → x.s.st k ≠ 3 → x.s.st k ≠ 4 → x.did a k u = Dd.no) := by
  cases x
  · exact Kf.did_at hk
  · exact Kc.did_at hk
  · exact Km.did_at hk
end
end Inn
end Go.Proofs.YtkmikkjjnbikdaaGreat
namespace Go.Proofs.YtkmikkjjnbikdaaGreat
open Go.RowKit
set_option linter.unusedVariables false
set_option maxRecDepth 100000

/-- a lock with its port: its seats, the budget, each context's node, its context in that node's lock, its phase (as the reference counts), what it loaded; where the words of the lock of all lie, and of each node's lock; the lock of all, each node's lock (their own ports are of no account: the port is ps); the port -/
structure FL where
  s : SS
  bud : Int
  nd : Nat → Nat
  own : Nat → Nat
  ph : Nat → Int
  got : Nat → Int
  ga : Nat
  la : Nat → Nat
  G : Inn
  Lc : Nat → Inn
  ps : PSta
/-- where a lock lies: its struct, its seats' struct and contexts, its places; its words' addresses (the first pass, the second one); its port's place and homes; where its blocks begin; where its inner locks lie, and which nodes have one -/
structure Lp where
  lb : Nat
  p : Nat
  b : Nat
  tb : Nat
  a1 : Int
  a2 : Int
  q : Place
  hs : List Int
  lo : Nat
  gi : Ip
  li : Nat → Ip
  has : Nat → Bool
/-- where a node's pass lies -/
def Lp.pA (L : Lp) (c : Nat) : Int := L.a1 + c
/-- a node's lock over the port as it is, and the lock of all -/
def FL.lk (f : FL) (c : Nat) : Inn := (f.Lc c).on f.ps
def FL.gl (f : FL) : Inn := f.G.on f.ps
/-- a node's lock as a call for it finds it: it is asked for, if it isn't yet -/
def FL.ask (f : FL) (t : Nat) : Inn := if (f.Lc (f.nd t)).s.st (f.own t) = 0 then (f.lk (f.nd t)).lock (f.own t : Nat) (-1) else f.lk (f.nd t)

def FL.acq (f : FL) (L : Lp) (t : Nat) (u : Int) : FL :=
  if f.ph t = 0 then { f with Lc := upd f.Lc (f.nd t) ((f.ask t).step (f.la (f.nd t) : Nat) (f.own t : Nat) u), ph := upd f.ph t ((f.ask t).did (f.la (f.nd t) : Nat) (f.own t : Nat) u).ev, ps := ((f.ask t).step (f.la (f.nd t) : Nat) (f.own t : Nat) u).ps }
  else if f.ph t = 1 then (if tellS f.ps u 1 (L.pA (f.nd t)) = 0 then { f with ph := upd f.ph t 2, G := f.G.lock (f.nd t : Nat) (-1), ps := doS f.ps u 1 (L.pA (f.nd t)) 0 0 } else { f with ps := doS f.ps u 1 (L.pA (f.nd t)) 0 0 })
  else if f.ph t = 2 then { f with G := f.gl.step (f.ga : Nat) (f.nd t : Nat) u, ph := upd f.ph t (2 + (f.gl.did (f.ga : Nat) (f.nd t : Nat) u).ev), ps := (f.gl.step (f.ga : Nat) (f.nd t : Nat) u).ps }
  else { f with ps := doS f.ps u 2 (L.pA (f.nd t)) 0 1 }
def FL.acqD (f : FL) (L : Lp) (t : Nat) (u : Int) : Dd :=
  if f.ph t = 0 then ⟨0, ((f.ask t).did (f.la (f.nd t) : Nat) (f.own t : Nat) u).enq, false, false⟩
  else if f.ph t = 1 then (if tellS f.ps u 1 (L.pA (f.nd t)) = 0 then Dd.no else ⟨1, false, false, false⟩)
  else if f.ph t = 2 then ⟨0, false, (f.gl.did (f.ga : Nat) (f.nd t : Nat) u).enq, false⟩
  else ⟨1, false, false, true⟩
def FL.rel (f : FL) (L : Lp) (t : Nat) (u : Int) : FL :=
  if f.ph t = 0 then (if tellS f.ps u 1 (L.pA (f.nd t)) < f.bud then { f with got := upd f.got t (tellS f.ps u 1 (L.pA (f.nd t))), ph := upd f.ph t 1, Lc := upd f.Lc (f.nd t) ((f.Lc (f.nd t)).turn (f.own t : Nat) 4), ps := doS f.ps u 1 (L.pA (f.nd t)) 0 0 }
    else { f with got := upd f.got t (tellS f.ps u 1 (L.pA (f.nd t))), ph := upd f.ph t 3, ps := doS f.ps u 1 (L.pA (f.nd t)) 0 0 })
  else if f.ph t = 1 then { f with Lc := upd f.Lc (f.nd t) ((f.lk (f.nd t)).step (f.la (f.nd t) : Nat) (f.own t : Nat) u), ph := upd f.ph t (if ((f.lk (f.nd t)).did (f.la (f.nd t) : Nat) (f.own t : Nat) u).ev = 5 then 2 else 3), ps := ((f.lk (f.nd t)).step (f.la (f.nd t) : Nat) (f.own t : Nat) u).ps }
  else if f.ph t = 2 then { f with Lc := upd f.Lc (f.nd t) ((f.Lc (f.nd t)).turn (f.own t : Nat) 3), ph := upd f.ph t 5, ps := doS f.ps u 2 (L.pA (f.nd t)) 0 (f.got t + 1) }
  else if f.ph t = 3 then { f with G := f.G.turn (f.nd t : Nat) 3, ph := upd f.ph t 4, ps := doS f.ps u 2 (L.pA (f.nd t)) 0 0 }
  else if f.ph t = 4 then (if (f.gl.did (f.ga : Nat) (f.nd t : Nat) u).ev = 3 then { f with G := f.gl.step (f.ga : Nat) (f.nd t : Nat) u, ph := upd f.ph t 5, Lc := upd f.Lc (f.nd t) ((f.Lc (f.nd t)).turn (f.own t : Nat) 3), ps := (f.gl.step (f.ga : Nat) (f.nd t : Nat) u).ps }
    else { f with G := f.gl.step (f.ga : Nat) (f.nd t : Nat) u, ps := (f.gl.step (f.ga : Nat) (f.nd t : Nat) u).ps })
  else { f with Lc := upd f.Lc (f.nd t) ((f.lk (f.nd t)).step (f.la (f.nd t) : Nat) (f.own t : Nat) u), ps := ((f.lk (f.nd t)).step (f.la (f.nd t) : Nat) (f.own t : Nat) u).ps }
def FL.relD (f : FL) (L : Lp) (t : Nat) (u : Int) : Dd :=
  if f.ph t = 0 then Dd.no else if f.ph t = 1 then Dd.no else if f.ph t = 2 then Dd.no else if f.ph t = 3 then Dd.no else if f.ph t = 4 then Dd.no
  else ⟨((f.lk (f.nd t)).did (f.la (f.nd t) : Nat) (f.own t : Nat) u).ev, false, false, false⟩
/-- behind the access of a step, its event still to come -/
def FL.mid (f : FL) (L : Lp) (t u : Int) : FL := if 0 ≤ t ∧ t < f.s.n then (if f.s.st t.toNat = 1 then f.acq L t.toNat u else if f.s.st t.toNat = 3 then f.rel L t.toNat u else f) else f
def FL.did (f : FL) (L : Lp) (t u : Int) : Dd := if 0 ≤ t ∧ t < f.s.n then (if f.s.st t.toNat = 1 then f.acqD L t.toNat u else if f.s.st t.toNat = 3 then f.relD L t.toNat u else Dd.no) else Dd.no
/-- its event comes: a call that ends begins at its first phase again -/
def FL.step (f : FL) (L : Lp) (t u : Int) : FL := { f.mid L t u with s := f.s.fin t (f.did L t u).ev, ph := if endB f.s t (f.did L t u).ev = true then upd (f.mid L t u).ph t.toNat 0 else (f.mid L t u).ph }
def FL.lock (f : FL) (t d : Int) : FL := { f with s := f.s.lock t d }
def FL.turn (f : FL) (t x : Int) : FL := { f with s := f.s.turn t x }
def FL.probe (f : FL) (t : Int) : FL := { f with s := f.s.probe t }

theorem FL.acq_s (f : FL) (L : Lp) (t : Nat) (u : Int) : (f.acq L t u).s = f.s ∧ (f.acq L t u).nd = f.nd ∧ (f.acq L t u).own = f.own ∧ (f.acq L t u).bud = f.bud := by unfold FL.acq; repeat' split <;> try exact ⟨rfl, rfl, rfl, rfl⟩
theorem FL.rel_s (f : FL) (L : Lp) (t : Nat) (u : Int) : (f.rel L t u).s = f.s ∧ (f.rel L t u).nd = f.nd ∧ (f.rel L t u).own = f.own ∧ (f.rel L t u).bud = f.bud := by unfold FL.rel; repeat' split <;> try exact ⟨rfl, rfl, rfl, rfl⟩
theorem FL.mid_s (f : FL) (L : Lp) (t u : Int) : (f.mid L t u).s = f.s ∧ (f.mid L t u).nd = f.nd ∧ (f.mid L t u).own = f.own ∧ (f.mid L t u).bud = f.bud := by
  unfold FL.mid
  repeat' split
  · exact f.acq_s L _ u
  · exact f.rel_s L _ u
  all_goals exact ⟨rfl, rfl, rfl, rfl⟩
/-- how many words there are, and threads -/
theorem FL.ask_ps (f : FL) (t : Nat) : (f.ask t).ps = f.ps := by
  unfold FL.ask FL.lk
  split
  · rw [Inn.lock_ps, Inn.on_ps]
  · rw [Inn.on_ps]
theorem FL.step_len (f : FL) (L : Lp) (t u : Int) : (f.step L t u).ps.ws.length = f.ps.ws.length ∧ (f.step L t u).ps.ac.length = f.ps.ac.length := by
  have kd := fun a K old x => do_len' f.ps u a K old x
  have kl := fun c a j => by have := (f.lk c).step_len a j u; unfold FL.lk at this; rw [Inn.on_ps] at this; exact this
  have kg := fun a j => by have := f.gl.step_len a j u; unfold FL.gl at this; rw [Inn.on_ps] at this; exact this
  have ka := fun t a j => by have := (f.ask t).step_len a j u; rw [f.ask_ps] at this; exact this
  show (f.mid L t u).ps.ws.length = _ ∧ (f.mid L t u).ps.ac.length = _
  unfold FL.mid FL.acq FL.rel
  repeat' split
  all_goals first | exact ⟨rfl, rfl⟩ | exact kd _ _ _ _ | exact ka _ _ _ | exact kl _ _ _ | exact kg _ _
end Go.Proofs.YtkmikkjjnbikdaaGreat


import Derived.Test.YtmnephejhkfchaaGreatRows
import Derived.WalkLawsBesides
import Derived.BigQuiet
import Derived.Lib.Hide
import Derived.Handy
namespace Go.Proofs.YtmnephejhkfchaaGreat.Bw
end Go.Proofs.YtmnephejhkfchaaGreat.Bw
namespace Go.Proofs.YtmnephejhkfchaaGreat
open _root_.Go.Proofs.Tryz
open Go.RowKit
set_option linter.unusedVariables false
def sizeB (s:Int):Bool:=decide (s=1∨s=2∨s=4∨s=8∨s=16∨s=32∨s=64)
theorem ret_int {k:IntKind} {a b:Int} (h:a=b):Ending.returned (.int k a)= .returned (.int k b):=by rw [h]
theorem ret_bool {a b:Bool} (h:a=b):Ending.returned (.bool a)= .returned (.bool b):=by rw [h]
theorem size_all:∀ n:Nat,n<65→((bits .and .i64 (n:Int) ((n:Int)-1)==0)||n==0)=(sizeB (n:Int)||n==0):=by decide
theorem isSize_any (s:Int) (w:World):
  Calls prog 79 #[.int .i64 s] w λe w'=>e= .returned (.bool (sizeB s))∧w=w':=by
 by_cases k:1≤s
 ·by_cases k2:s≤64
  ·obtain ⟨n,rfl⟩:=Int.eq_ofNat_of_zero_le (show 0≤s by omega)
   have h:(bits .and .i64 (n:Int) ((n:Int)-1)==0)=sizeB (n:Int):=by
    have h:=size_all n (by omega)
    have e:(n==0)=false:=by simp;omega
    simpa [e] using h
   have H:=Lib.hid h
   clear h
   go_enter func79,ntmps79
   go_wp2
   go_ret
   exact ⟨ret_bool H.out,rfl⟩
  ·have H:=Lib.hid (show false=sizeB s by unfold sizeB;simp;omega)
   go_enter func79,ntmps79
   go_wp2
   go_ret
   exact ⟨ret_bool H.out,rfl⟩
 ·have H:=Lib.hid (show false=sizeB s by unfold sizeB;simp;omega)
  go_enter func79,ntmps79
  go_wp2
  go_ret
  exact ⟨ret_bool H.out,rfl⟩
theorem slot_yes (n s:Int) (h0:0≤n) (h1:n<4294967296) (hs:sizeB s=true) (w:World):
  Calls prog 72 #[.int .u32 n,.int .i64 s] w λe w'=>e= .returned (.int .i64 (n%s))∧w=w':=by
 have hb:1≤s∧s≤64:=by unfold sizeB at hs;simp at hs;omega
 obtain ⟨b1,b2⟩:=hb
 go_enter func72,ntmps72
 go_wp2_with (go_at_call 79;refine (isSize_any _ _).mono ?_;rintro e w' ⟨rfl,rfl⟩)
 go_ret
 exact ⟨ret_int (IntWalk.wrap64_in _ (by have:=Int.emod_nonneg n (show s≠0 by omega);have:=Int.emod_lt_of_pos n (show 0<s by omega);omega)),rfl⟩
theorem size_any (s:Int) (w:World):
  Calls prog 23 #[.int .i64 s] w λe w'=>e= .returned (.bool (sizeB s))∧w=w':=by
 go_enter func23,ntmps23
 go_wp2
 go_rounds 8
 all_goals
  go_ret
  exact ⟨ret_bool (by simp only [beq_iff_eq,beq_eq_false_iff_ne,ne_eq] at*;unfold sizeB;symm;simp;omega),rfl⟩
theorem u32_bd {n:Int} (h:(Lit.int .u32 n).wf=true):0≤n∧n<4294967296:=by
 have:=bounds_u32 h;omega
theorem slot_quiet (n s:Int) (h0:0≤n) (h1:n<4294967296) (hs:sizeB s=true) (w:World):
  Calls prog 72 #[.int .u32 n,.int .i64 s] w λe w'=>e= .returned (.int .i64 (n%s))∧w'=w:=
 (slot_yes n s h0 h1 hs w).mono λ_ _ h=>⟨h.1,h.2.symm⟩
end Go.Proofs.YtmnephejhkfchaaGreat

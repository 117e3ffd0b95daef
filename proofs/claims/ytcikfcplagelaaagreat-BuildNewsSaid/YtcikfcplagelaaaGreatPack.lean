
import Derived.Test.YtcikfcplagelaaaGreatRows
import Derived.WalkLawsBesides
import Derived.BigQuiet
import Derived.Lib.Hide
import Derived.Handy
namespace Go.Proofs.YtcikfcplagelaaaGreat.Bw
theorem split (x:Nat) (i:Nat):x=(x/2 ^ i)<<<i|||x%2 ^ i:=by
 rw [←Nat.shiftLeft_add_eq_or_of_lt (Nat.mod_lt _ (Nat.two_pow_pos i)),Nat.shiftLeft_eq]
 have:=Nat.div_add_mod x (2 ^ i)
 rw [Nat.mul_comm];exact this.symm
theorem nat_or1 (x:Nat):x|||1=x/2*2+1:=by
 have hs:=split x 1
 have e:x%2 ^ 1|||1=1:=by
  have:x%2 ^ 1=0∨x%2 ^ 1=1:=by omega
  rcases this with h|h<;>rw [h]<;>rfl
 have:x|||1=(x/2 ^ 1)<<<1|||1:=by
  conv=>lhs;rw [hs]
  rw [Nat.or_assoc,e]
 rw [this,←Nat.shiftLeft_add_eq_or_of_lt (by decide),Nat.shiftLeft_eq]
theorem nat_or2 (x:Nat):x|||2=x/4*4+2+x%2:=by
 have hs:=split x 2
 have e:x%2 ^ 2|||2=2+x%2:=by
  have:x%2 ^ 2=0∨x%2 ^ 2=1∨x%2 ^ 2=2∨x%2 ^ 2=3:=by omega
  rcases this with h|h|h|h<;>rw [h]<;>have:x%2=x%2 ^ 2%2:=by omega
  all_goals rw [this,h]<;>rfl
 have:x|||2=(x/2 ^ 2)<<<2|||(2+x%2):=by rw [←e,←Nat.or_assoc,←hs]
 rw [this,←Nat.shiftLeft_add_eq_or_of_lt (by omega),Nat.shiftLeft_eq]
 omega
theorem or1 (x:Int) (h0:0≤x) (h1:x<4294967296):bits .or .u32 x 1=x/2*2+1:=by
 rw [u32_or x 1 h0 h1 (by decide) (by decide)];show ((x.toNat|||1:Nat):Int)=_;rw [nat_or1];omega
theorem or2 (x:Int) (h0:0≤x) (h1:x<4294967296):bits .or .u32 x 2=x/4*4+2+x%2:=by
 rw [u32_or x 2 h0 h1 (by decide) (by decide)];show ((x.toNat|||2:Nat):Int)=_;rw [nat_or2];omega
end Go.Proofs.YtcikfcplagelaaaGreat.Bw
namespace Go.Proofs.YtcikfcplagelaaaGreat
open _root_.Go.Proofs.Tryz
open Go.RowKit
set_option linter.unusedVariables false
def oneI (b:Bool):Int:=if b then 1 else 0
def heldI (c:Int):Int:=if c<0 then 0 else if 1073741823<c then 1073741823 else c
def sizeB (s:Int):Bool:=decide (s=1∨s=2∨s=4∨s=8∨s=16∨s=32∨s=64)
def wordI (c:Int) (a b:Bool):Int:=heldI c*4+oneI a*2+oneI b
theorem ret_int {k:IntKind} {a b:Int} (h:a=b):Ending.returned (.int k a)= .returned (.int k b):=by rw [h]
theorem ret_bool {a b:Bool} (h:a=b):Ending.returned (.bool a)= .returned (.bool b):=by rw [h]
theorem pack_any (c:Int) (a b:Bool) (w:World):
  Calls prog 109 #[.int .i64 c,.bool a,.bool b] w λe w'=>e= .returned (.int .u32 (wordI c a b))∧w=w':=by
 have k0:c<0∨1073741823<c∨(0≤c∧c≤1073741823):=by omega
 rcases k0 with k|k|⟨k,k'⟩<;>cases a<;>cases b
 all_goals
  go_enter func109,ntmps109
  go_wp2
  all_goals go_ret
  all_goals
   refine ⟨ret_int ?_,rfl⟩
   unfold wordI heldI oneI
   simp (disch:=omega) [Bw.or2,Bw.or1,if_pos,if_neg]
   try omega
theorem size_all:∀ n:Nat,n<65→((bits .and .i64 (n:Int) ((n:Int)-1)==0)||n==0)=(sizeB (n:Int)||n==0):=by decide
theorem isSize_any (s:Int) (w:World):
  Calls prog 122 #[.int .i64 s] w λe w'=>e= .returned (.bool (sizeB s))∧w=w':=by
 by_cases k:1≤s
 ·by_cases k2:s≤64
  ·obtain ⟨n,rfl⟩:=Int.eq_ofNat_of_zero_le (show 0≤s by omega)
   have h:(bits .and .i64 (n:Int) ((n:Int)-1)==0)=sizeB (n:Int):=by
    have h:=size_all n (by omega)
    have e:(n==0)=false:=by simp;omega
    simpa [e] using h
   have H:=Lib.hid h
   clear h
   go_enter func122,ntmps122
   go_wp2
   go_ret
   exact ⟨ret_bool H.out,rfl⟩
  ·have H:=Lib.hid (show false=sizeB s by unfold sizeB;simp;omega)
   go_enter func122,ntmps122
   go_wp2
   go_ret
   exact ⟨ret_bool H.out,rfl⟩
 ·have H:=Lib.hid (show false=sizeB s by unfold sizeB;simp;omega)
  go_enter func122,ntmps122
  go_wp2
  go_ret
  exact ⟨ret_bool H.out,rfl⟩
theorem slot_yes (n s:Int) (h0:0≤n) (h1:n<4294967296) (hs:sizeB s=true) (w:World):
  Calls prog 107 #[.int .u32 n,.int .i64 s] w λe w'=>e= .returned (.int .i64 (n%s))∧w=w':=by
 have hb:1≤s∧s≤64:=by unfold sizeB at hs;simp at hs;omega
 obtain ⟨b1,b2⟩:=hb
 go_enter func107,ntmps107
 go_wp2_with (go_at_call 122;refine (isSize_any _ _).mono ?_;rintro e w' ⟨rfl,rfl⟩)
 go_ret
 exact ⟨ret_int (IntWalk.wrap64_in _ (by have:=Int.emod_nonneg n (show s≠0 by omega);have:=Int.emod_lt_of_pos n (show 0<s by omega);omega)),rfl⟩
def refI (c a b:Int):Int:=heldI c*4+a*2+b
theorem word_any (c a b:Int) (h0:0≤a) (h1:a≤1) (h2:0≤b) (h3:b≤1) (w:World):
  Calls prog 66 #[.int .i64 c,.int .i64 a,.int .i64 b] w λe w'=>e= .returned (.int .u32 (refI c a b))∧w=w':=by
 have k0:c<0∨1073741823<c∨(0≤c∧c≤1073741823):=by omega
 rcases k0 with k|k|⟨k,k'⟩
 ·have H:Hid (heldI c=0):=Lib.hid (if_pos k)
  go_enter func66,ntmps66
  go_wp2
  go_ret
  exact ⟨ret_int (by unfold refI;rw [H.out];omega),rfl⟩
 ·have H:Hid (heldI c=1073741823):=Lib.hid (by unfold heldI;rw [if_neg (by omega),if_pos k])
  go_enter func66,ntmps66
  go_wp2
  go_ret
  exact ⟨ret_int (by unfold refI;rw [H.out];omega),rfl⟩
 ·have H:Hid (heldI c=c):=Lib.hid (by unfold heldI;rw [if_neg (by omega),if_neg (by omega)])
  go_enter func66,ntmps66
  go_wp2
  go_ret
  exact ⟨ret_int (by unfold refI;rw [H.out]),rfl⟩
theorem size_any (s:Int) (w:World):
  Calls prog 35 #[.int .i64 s] w λe w'=>e= .returned (.bool (sizeB s))∧w=w':=by
 go_enter func35,ntmps35
 go_wp2
 go_rounds 8
 all_goals
  go_ret
  exact ⟨ret_bool (by simp only [beq_iff_eq,beq_eq_false_iff_ne,ne_eq] at*;unfold sizeB;symm;simp;omega),rfl⟩
theorem held_in (c:Int) (h0:0≤c) (h1:c≤1073741823):heldI c=c:=by unfold heldI;rw [if_neg (by omega),if_neg (by omega)]
theorem u32_bd {n:Int} (h:(Lit.int .u32 n).wf=true):0≤n∧n<4294967296:=by
 have:=bounds_u32 h;omega
end Go.Proofs.YtcikfcplagelaaaGreat


import Derived.Test.YtcikfcplagelaaaGreatRows
import Derived.WalkLawsBesides
import Derived.BigQuiet
import Derived.Lib.Hide
import Derived.Handy
namespace Go.Proofs.YtcikfcplagelaaaGreat.Bw
theorem nat_and1 (x:Nat):x&&& 1=x%2:=Nat.and_one_is_mod x
theorem split (x:Nat) (i:Nat):x=(x/2 ^ i)<<<i|||x%2 ^ i:=by
 rw [←Nat.shiftLeft_add_eq_or_of_lt (Nat.mod_lt _ (Nat.two_pow_pos i)),Nat.shiftLeft_eq]
 have:=Nat.div_add_mod x (2 ^ i)
 rw [Nat.mul_comm];exact this.symm
theorem nat_and2 (x:Nat):x&&& 2=x/2%2*2:=by
 have hs:=split x 2
 have e:x%2 ^ 2&&& 2=x/2%2*2:=by
  have:x%2 ^ 2=0∨x%2 ^ 2=1∨x%2 ^ 2=2∨x%2 ^ 2=3:=by omega
  have e2:x/2%2=x%2 ^ 2/2:=by omega
  rw [e2]
  rcases this with h|h|h|h<;>rw [h]<;>decide
 have e3:(x/2 ^ 2)<<<2&&& 2=0:=by
  have h2:(x/2 ^ 2)<<<2=((x/2 ^ 2)<<<1)<<<1:=by simp only [Nat.shiftLeft_eq];omega
  rw [h2,show (2:Nat)=1<<<1 from rfl,←Nat.shiftLeft_and_distrib,Nat.and_one_is_mod]
  simp only [Nat.shiftLeft_eq];omega
 conv=>lhs;rw [hs]
 rw [Nat.and_or_distrib_right,e3,e,Nat.zero_or]
theorem nat_or1 (x:Nat):x|||1=x/2*2+1:=by
 have hs:=split x 1
 have e:x%2 ^ 1|||1=1:=by
  have:x%2 ^ 1=0∨x%2 ^ 1=1:=by omega
  rcases this with h|h<;>rw [h]<;>rfl
 have:x|||1=(x/2 ^ 1)<<<1|||1:=by
  conv=>lhs;rw [hs]
  rw [Nat.or_assoc,e]
 rw [this,←Nat.shiftLeft_add_eq_or_of_lt (by decide),Nat.shiftLeft_eq]
theorem nat_or2 (x:Nat):x|||2=x/4*4+2+x%2:=by
 have hs:=split x 2
 have e:x%2 ^ 2|||2=2+x%2:=by
  have:x%2 ^ 2=0∨x%2 ^ 2=1∨x%2 ^ 2=2∨x%2 ^ 2=3:=by omega
  rcases this with h|h|h|h<;>rw [h]<;>have:x%2=x%2 ^ 2%2:=by omega
  all_goals rw [this,h]<;>rfl
 have:x|||2=(x/2 ^ 2)<<<2|||(2+x%2):=by rw [←e,←Nat.or_assoc,←hs]
 rw [this,←Nat.shiftLeft_add_eq_or_of_lt (by omega),Nat.shiftLeft_eq]
 omega
theorem nat_andn2 (x:Nat) (hx:x<4294967296):x&&& 4294967293=x/4*4+x%2:=by
 have hs:=split x 2
 have e:x%2 ^ 2&&& 4294967293=x%2:=by
  have:x%2 ^ 2=0∨x%2 ^ 2=1∨x%2 ^ 2=2∨x%2 ^ 2=3:=by omega
  have e2:x%2=x%2 ^ 2%2:=by omega
  rw [e2]
  rcases this with h|h|h|h<;>rw [h]<;>decide
 have e3:(x/2 ^ 2)<<<2&&& 4294967293=(x/2 ^ 2)<<<2:=by
  have hM:(4294967293:Nat)=(1073741823<<<2)|||1:=by decide
  rw [hM,Nat.and_or_distrib_left,←Nat.shiftLeft_and_distrib]
  have h1:x/2 ^ 2&&& 1073741823=x/2 ^ 2:=by
   have:=Nat.and_two_pow_sub_one_eq_mod (x/2 ^ 2) 30
   simp only [Nat.reducePow,Nat.reduceSub] at this ⊢
   rw [this];omega
  have h2:(x/2 ^ 2)<<<2&&& 1=0:=by rw [Nat.and_one_is_mod,Nat.shiftLeft_eq];omega
  rw [h1,h2,Nat.or_zero]
 have:x&&& 4294967293=(x/2 ^ 2)<<<2|||x%2:=by
  rw [←e]
  conv=>lhs;rw [hs]
  rw [Nat.and_or_distrib_right,e3]
 rw [this,←Nat.shiftLeft_add_eq_or_of_lt (by omega),Nat.shiftLeft_eq]
theorem and1 (x:Int) (h0:0≤x) (h1:x<4294967296):bits .and .u32 x 1=x%2:=by
 rw [u32_and x 1 h0 h1 (by decide) (by decide)];show ((x.toNat&&& 1:Nat):Int)=_;rw [nat_and1];omega
theorem and2 (x:Int) (h0:0≤x) (h1:x<4294967296):bits .and .u32 x 2=x/2%2*2:=by
 rw [u32_and x 2 h0 h1 (by decide) (by decide)];show ((x.toNat&&& 2:Nat):Int)=_;rw [nat_and2];omega
theorem or1 (x:Int) (h0:0≤x) (h1:x<4294967296):bits .or .u32 x 1=x/2*2+1:=by
 rw [u32_or x 1 h0 h1 (by decide) (by decide)];show ((x.toNat|||1:Nat):Int)=_;rw [nat_or1];omega
theorem or2 (x:Int) (h0:0≤x) (h1:x<4294967296):bits .or .u32 x 2=x/4*4+2+x%2:=by
 rw [u32_or x 2 h0 h1 (by decide) (by decide)];show ((x.toNat|||2:Nat):Int)=_;rw [nat_or2];omega
theorem andn2 (x:Int) (h0:0≤x) (h1:x<4294967296):bits .andNot .u32 x 2=x/4*4+x%2:=by
 rw [u32_andNot x 2 h0 h1 (by decide) (by decide)];show ((x.toNat&&& (4294967295-2):Nat):Int)=_
 rw [show 4294967295-2=4294967293 from rfl,nat_andn2 _ (by omega)];omega
end Go.Proofs.YtcikfcplagelaaaGreat.Bw
namespace Go.Proofs.YtcikfcplagelaaaGreat
open _root_.Go.Proofs.Tryz
open Go.RowKit
set_option linter.unusedVariables false
def waitsB (w:Int):Bool:=decide (w/2%2=1)
def splicedB (w:Int):Bool:=decide (w%2=1)
def oneI (b:Bool):Int:=if b then 1 else 0
def heldI (c:Int):Int:=if c<0 then 0 else if 1073741823<c then 1073741823 else c
def sizeB (s:Int):Bool:=decide (s=1∨s=2∨s=4∨s=8∨s=16∨s=32∨s=64)
def freeI (a:Int):Int:=a/4*4+a%2
def spliceI (a:Int):Int:=a/2*2+1
def wordI (c:Int) (a b:Bool):Int:=heldI c*4+oneI a*2+oneI b
theorem ret_int {k:IntKind} {a b:Int} (h:a=b):Ending.returned (.int k a)= .returned (.int k b):=by rw [h]
theorem ret_bool {a b:Bool} (h:a=b):Ending.returned (.bool a)= .returned (.bool b):=by rw [h]
theorem cluster_any (a:Int) (h0:0≤a) (h1:a<4294967296) (w:World):
  Calls prog 267 #[.int .u32 a] w λe w'=>e= .returned (.int .i64 (a/4))∧w=w':=by
 go_enter func267,ntmps267
 go_wp2
 go_ret
 exact ⟨rfl,rfl⟩
theorem waits_any (a:Int) (h0:0≤a) (h1:a<4294967296) (w:World):
  Calls prog 263 #[.int .u32 a] w λe w'=>e= .returned (.bool (waitsB a))∧w=w':=by
 go_enter func263,ntmps263
 go_wp2
 go_ret
 exact ⟨ret_bool (by rw [Bw.and2 a h0 h1,waitsB,Bool.eq_iff_iff];simp;omega),rfl⟩
theorem spliced_any (a:Int) (h0:0≤a) (h1:a<4294967296) (w:World):
  Calls prog 268 #[.int .u32 a] w λe w'=>e= .returned (.bool (splicedB a))∧w=w':=by
 go_enter func268,ntmps268
 go_wp2
 go_ret
 exact ⟨ret_bool (by rw [Bw.and1 a h0 h1,splicedB,Bool.eq_iff_iff];simp;omega),rfl⟩
theorem free_any (a:Int) (h0:0≤a) (h1:a<4294967296) (w:World):
  Calls prog 266 #[.int .u32 a] w λe w'=>e= .returned (.int .u32 (freeI a))∧w=w':=by
 go_enter func266,ntmps266
 go_wp2
 go_ret
 exact ⟨ret_int (by unfold freeI;exact Bw.andn2 a h0 h1),rfl⟩
theorem splice_any (a:Int) (h0:0≤a) (h1:a<4294967296) (w:World):
  Calls prog 269 #[.int .u32 a] w λe w'=>e= .returned (.int .u32 (spliceI a))∧w=w':=by
 go_enter func269,ntmps269
 go_wp2
 go_ret
 exact ⟨ret_int (by unfold spliceI;exact Bw.or1 a h0 h1),rfl⟩
theorem pack_any (c:Int) (a b:Bool) (w:World):
  Calls prog 109 #[.int .i64 c,.bool a,.bool b] w λe w'=>e= .returned (.int .u32 (wordI c a b))∧w=w':=by
 have k0:c<0∨1073741823<c∨(0≤c∧c≤1073741823):=by omega
 rcases k0 with k|k|⟨k,k'⟩<;>cases a<;>cases b
 all_goals
  go_enter func109,ntmps109
  go_wp2
  all_goals go_ret
  all_goals
   refine ⟨ret_int ?_,rfl⟩
   unfold wordI heldI oneI
   simp (disch:=omega) [Bw.or2,Bw.or1,if_pos,if_neg]
   try omega
theorem size_all:∀ n:Nat,n<65→((bits .and .i64 (n:Int) ((n:Int)-1)==0)||n==0)=(sizeB (n:Int)||n==0):=by decide
theorem isSize_any (s:Int) (w:World):
  Calls prog 122 #[.int .i64 s] w λe w'=>e= .returned (.bool (sizeB s))∧w=w':=by
 by_cases k:1≤s
 ·by_cases k2:s≤64
  ·obtain ⟨n,rfl⟩:=Int.eq_ofNat_of_zero_le (show 0≤s by omega)
   have h:(bits .and .i64 (n:Int) ((n:Int)-1)==0)=sizeB (n:Int):=by
    have h:=size_all n (by omega)
    have e:(n==0)=false:=by simp;omega
    simpa [e] using h
   have H:=Lib.hid h
   clear h
   go_enter func122,ntmps122
   go_wp2
   go_ret
   exact ⟨ret_bool H.out,rfl⟩
  ·have H:=Lib.hid (show false=sizeB s by unfold sizeB;simp;omega)
   go_enter func122,ntmps122
   go_wp2
   go_ret
   exact ⟨ret_bool H.out,rfl⟩
 ·have H:=Lib.hid (show false=sizeB s by unfold sizeB;simp;omega)
  go_enter func122,ntmps122
  go_wp2
  go_ret
  exact ⟨ret_bool H.out,rfl⟩
theorem slot_yes (n s:Int) (h0:0≤n) (h1:n<4294967296) (hs:sizeB s=true) (w:World):
  Calls prog 107 #[.int .u32 n,.int .i64 s] w λe w'=>e= .returned (.int .i64 (n%s))∧w=w':=by
 have hb:1≤s∧s≤64:=by unfold sizeB at hs;simp at hs;omega
 obtain ⟨b1,b2⟩:=hb
 go_enter func107,ntmps107
 go_wp2_with (go_at_call 122;refine (isSize_any _ _).mono ?_;rintro e w' ⟨rfl,rfl⟩)
 go_ret
 exact ⟨ret_int (IntWalk.wrap64_in _ (by have:=Int.emod_nonneg n (show s≠0 by omega);have:=Int.emod_lt_of_pos n (show 0<s by omega);omega)),rfl⟩
theorem size_any (s:Int) (w:World):
  Calls prog 35 #[.int .i64 s] w λe w'=>e= .returned (.bool (sizeB s))∧w=w':=by
 go_enter func35,ntmps35
 go_wp2
 go_rounds 8
 all_goals
  go_ret
  exact ⟨ret_bool (by simp only [beq_iff_eq,beq_eq_false_iff_ne,ne_eq] at*;unfold sizeB;symm;simp;omega),rfl⟩
theorem held_in (c:Int) (h0:0≤c) (h1:c≤1073741823):heldI c=c:=by unfold heldI;rw [if_neg (by omega),if_neg (by omega)]
theorem u32_bd {n:Int} (h:(Lit.int .u32 n).wf=true):0≤n∧n<4294967296:=by
 have:=bounds_u32 h;omega
theorem slot_quiet (n s:Int) (h0:0≤n) (h1:n<4294967296) (hs:sizeB s=true) (w:World):
  Calls prog 107 #[.int .u32 n,.int .i64 s] w λe w'=>e= .returned (.int .i64 (n%s))∧w'=w:=
 (slot_yes n s h0 h1 hs w).mono λ_ _ h=>⟨h.1,h.2.symm⟩
end Go.Proofs.YtcikfcplagelaaaGreat

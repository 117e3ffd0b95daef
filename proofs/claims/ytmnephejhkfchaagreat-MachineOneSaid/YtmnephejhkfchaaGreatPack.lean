
import Derived.Test.YtmnephejhkfchaaGreatZz
import Derived.Test.YtmnephejhkfchaaGreatRows
namespace Go.Proofs.YtmnephejhkfchaaGreat.Bw
theorem TP (x:Nat):x&&& 1=x%2:=Nat.and_one_is_mod x
theorem split (x:Nat) (i:Nat):x=(x/2 ^ i)<<<i|||x%2 ^ i:=by
 rw [<-Nat.shiftLeft_add_eq_or_of_lt (Nat.mod_lt _ (Nat.two_pow_pos i)),Nat.shiftLeft_eq];have:=Nat.div_add_mod x (2 ^ i);rw [Nat.mul_comm];exact this.symm
theorem TQ (x:Nat):x&&& 2=x/2%2*2:=by
 have hs:=split x 2;have e:x%2 ^ 2&&& 2=x/2%2*2:=by
  have:x%2 ^ 2=0\/x%2 ^ 2=1\/x%2 ^ 2=2\/x%2 ^ 2=3:=by omega
  have e2:x/2%2=x%2 ^ 2/2:=by omega
  rw [e2];rcases this with h|h|h|h<;>rw [h]<;>decide
 have e3:(x/2 ^ 2)<<<2&&& 2=0:=by
  have h2:(x/2 ^ 2)<<<2=((x/2 ^ 2)<<<1)<<<1:=by simp only [Nat.shiftLeft_eq];omega
  rw [h2,show (2:Nat)=1<<<1 from rfl,<-Nat.shiftLeft_and_distrib,Nat.and_one_is_mod];simp only [Nat.shiftLeft_eq];omega
 conv=>lhs;rw [hs]
 rw [Nat.and_or_distrib_right,e3,e,Nat.zero_or]
theorem Vw (x:Nat):x|||1=x/2*2+1:=by
 have hs:=split x 1;have e:x%2 ^ 1|||1=1:=by
  have:x%2 ^ 1=0\/x%2 ^ 1=1:=by omega
  rcases this with h|h<;>rw [h]<;>rfl
 have:x|||1=(x/2 ^ 1)<<<1|||1:=by
  conv=>lhs;rw [hs]
  rw [Nat.or_assoc,e]
 rw [this,<-Nat.shiftLeft_add_eq_or_of_lt (by decide),Nat.shiftLeft_eq]
theorem Vx (x:Nat):x|||2=x/4*4+2+x%2:=by
 have hs:=split x 2;have e:x%2 ^ 2|||2=2+x%2:=by
  have:x%2 ^ 2=0\/x%2 ^ 2=1\/x%2 ^ 2=2\/x%2 ^ 2=3:=by omega
  rcases this with h|h|h|h<;>rw [h]<;>have:x%2=x%2 ^ 2%2:=by omega
  all_goals rw [this,h]<;>rfl
 have:x|||2=(x/2 ^ 2)<<<2|||(2+x%2):=by rw [<-e,<-Nat.or_assoc,<-hs]
 rw [this,<-Nat.shiftLeft_add_eq_or_of_lt (by omega),Nat.shiftLeft_eq];omega
theorem QY (x:Nat) (hx:x<4294967296):x&&& 4294967293=x/4*4+x%2:=by
 have hs:=split x 2;have e:x%2 ^ 2&&& 4294967293=x%2:=by
  have:x%2 ^ 2=0\/x%2 ^ 2=1\/x%2 ^ 2=2\/x%2 ^ 2=3:=by omega
  have e2:x%2=x%2 ^ 2%2:=by omega
  rw [e2];rcases this with h|h|h|h<;>rw [h]<;>decide
 have e3:(x/2 ^ 2)<<<2&&& 4294967293=(x/2 ^ 2)<<<2:=by
  have hM:(4294967293:Nat)=(1073741823<<<2)|||1:=by decide
  rw [hM,Nat.and_or_distrib_left,<-Nat.shiftLeft_and_distrib];have h1:x/2 ^ 2&&& 1073741823=x/2 ^ 2:=by
   have:=Nat.and_two_pow_sub_one_eq_mod (x/2 ^ 2) 30;simp only [Nat.reducePow,Nat.reduceSub] at this ⊢;rw [this];omega
  have h2:(x/2 ^ 2)<<<2&&& 1=0:=by rw [Nat.and_one_is_mod,Nat.shiftLeft_eq];omega
  rw [h1,h2,Nat.or_zero]
 have:x&&& 4294967293=(x/2 ^ 2)<<<2|||x%2:=by
  rw [<-e]
  conv=>lhs;rw [hs]
  rw [Nat.and_or_distrib_right,e3]
 rw [this,<-Nat.shiftLeft_add_eq_or_of_lt (by omega),Nat.shiftLeft_eq]
theorem fD (x:Int) (h0:0<=x) (h1:x<4294967296):bits .and .u32 x 1=x%2:=by
 rw [u32_and x 1 h0 h1 (by decide) (by decide)];show ((x.toNat&&& 1:Nat):Int)=_;rw [TP];omega
theorem fE (x:Int) (h0:0<=x) (h1:x<4294967296):bits .and .u32 x 2=x/2%2*2:=by
 rw [u32_and x 2 h0 h1 (by decide) (by decide)];show ((x.toNat&&& 2:Nat):Int)=_;rw [TQ];omega
theorem kZ (x:Int) (h0:0<=x) (h1:x<4294967296):bits .or .u32 x 1=x/2*2+1:=by
 rw [u32_or x 1 h0 h1 (by decide) (by decide)];show ((x.toNat|||1:Nat):Int)=_;rw [Vw];omega
theorem mh (x:Int) (h0:0<=x) (h1:x<4294967296):bits .or .u32 x 2=x/4*4+2+x%2:=by
 rw [u32_or x 2 h0 h1 (by decide) (by decide)];show ((x.toNat|||2:Nat):Int)=_;rw [Vx];omega
theorem ZN (x:Int) (h0:0<=x) (h1:x<4294967296):bits .andNot .u32 x 2=x/4*4+x%2:=by
 rw [u32_andNot x 2 h0 h1 (by decide) (by decide)];show ((x.toNat&&& (4294967295-2):Nat):Int)=_;rw [show 4294967295-2=4294967293 from rfl,QY _ (by omega)];omega
end Go.Proofs.YtmnephejhkfchaaGreat.Bw
namespace Go.Proofs.YtmnephejhkfchaaGreat
open _root_.Go.Proofs.Tryz
open Go.RowKit
set_option linter.unusedVariables false
def UG (w:Int):Bool:=decide (w/2%2=1)
def Ms (w:Int):Bool:=decide (w%2=1)
def WD (b:Bool):Int:=if b then 1 else 0
def Ov (c:Int):Int:=if c<0 then 0 else if 1073741823<c then 1073741823 else c
def Bj (s:Int):Bool:=decide (s=1\/s=2\/s=4\/s=8\/s=16\/s=32\/s=64)
def Om (a:Int):Int:=a/4*4+a%2
def Iw (a:Int):Int:=a/2*2+1
def N6 (c:Int) (a b:Bool):Int:=Ov c*4+WD a*2+WD b
theorem Db {k:IntKind} {a b:Int} (h:a=b):Ending.returned (.int k a)= .returned (.int k b):=by rw [h]
theorem Bm {a b:Bool} (h:a=b):Ending.returned (.bool a)= .returned (.bool b):=by rw [h]
theorem M9 (a:Int) (h0:0<=a) (h1:a<4294967296) (w:World):
  Calls prog 205 #[.int .u32 a] w λe w'=>e= .returned (.int .i64 (a/4))/\w=w':=zzo
theorem RN (a:Int) (h0:0<=a) (h1:a<4294967296) (w:World):
  Calls prog 201 #[.int .u32 a] w λe w'=>e= .returned (.bool (UG a))/\w=w':=by
 go_in
 go_wp2;go_ret;exact ⟨Bm (by rw [Bw.fE a h0 h1,UG,Bool.eq_iff_iff];simp;omega),rfl⟩
theorem Mt (a:Int) (h0:0<=a) (h1:a<4294967296) (w:World):
  Calls prog 206 #[.int .u32 a] w λe w'=>e= .returned (.bool (Ms a))/\w=w':=by
 go_in
 go_wp2;go_ret;exact ⟨Bm (by rw [Bw.fD a h0 h1,Ms,Bool.eq_iff_iff];simp;omega),rfl⟩
theorem Si (a:Int) (h0:0<=a) (h1:a<4294967296) (w:World):
  Calls prog 204 #[.int .u32 a] w λe w'=>e= .returned (.int .u32 (Om a))/\w=w':=by
 go_in
 go_wp2;go_ret;exact ⟨Db (by unfold Om;exact Bw.ZN a h0 h1),rfl⟩
theorem OB (a:Int) (h0:0<=a) (h1:a<4294967296) (w:World):
  Calls prog 207 #[.int .u32 a] w λe w'=>e= .returned (.int .u32 (Iw a))/\w=w':=by
 go_in
 go_wp2;go_ret;exact ⟨Db (by unfold Iw;exact Bw.kZ a h0 h1),rfl⟩
theorem Mg (c:Int) (a b:Bool) (w:World):
  Calls prog 74 #[.int .i64 c,.bool a,.bool b] w λe w'=>e= .returned (.int .u32 (N6 c a b))/\w=w':=by
 have k0:c<0\/1073741823<c\/(0<=c/\c<=1073741823):=by omega
 rcases k0 with k|k|⟨k,k'⟩<;>cases a<;>cases b
 all_goals
  go_in
  go_wp2
  all_goals go_ret
  all_goals
   refine ⟨Db ?_,rfl⟩;unfold N6 Ov WD;simp (disch:=omega) [Bw.mh,Bw.kZ,if_pos,if_neg]
   try omega
theorem Tu:∀ n:Nat,n<65->((bits .and .i64 (n:Int) ((n:Int)-1)==0)||n==0)=(Bj (n:Int)||n==0):=by decide
theorem Ng (s:Int) (w:World):
  Calls prog 79 #[.int .i64 s] w λe w'=>e= .returned (.bool (Bj s))/\w=w':=by
 by_cases k:1<=s
 ·by_cases k2:s<=64
  ·obtain ⟨n,rfl⟩:=Int.eq_ofNat_of_zero_le (show 0<=s by omega)
   have h:(bits .and .i64 (n:Int) ((n:Int)-1)==0)=Bj (n:Int):=by
    have h:=Tu n (by omega);have e:(n==0)=false:=by simp;omega
    simpa [e] using h
   have H:=Lib.hid h;clear h
   go_in
   go_wp2;go_ret;exact ⟨Bm H.out,rfl⟩
  ·exact zz5k
 ·exact zz5k
theorem Jc (n s:Int) (h0:0<=n) (h1:n<4294967296) (hs:Bj s=true) (w:World):
  Calls prog 72 #[.int .u32 n,.int .i64 s] w λe w'=>e= .returned (.int .i64 (n%s))/\w=w':=by
 have hb:1<=s/\s<=64:=by unfold Bj at hs;simp at hs;omega
 obtain ⟨b1,b2⟩:=hb
 go_in
 go_wp2_with (go_at_call 79;refine (Ng _ _).mono ?_;rintro e w' ⟨rfl,rfl⟩)
 go_ret;exact ⟨Db (IntWalk.wrap64_in _ (by have:=Int.emod_nonneg n (show s≠0 by omega);have:=Int.emod_lt_of_pos n (show 0<s by omega);omega)),rfl⟩
theorem Jb (s:Int) (w:World):
  Calls prog 23 #[.int .i64 s] w λe w'=>e= .returned (.bool (Bj s))/\w=w':=by
 go_in
 go_wp2
 go_rounds 8
 all_goals
  go_ret;exact ⟨Bm (by simp only [beq_iff_eq,beq_eq_false_iff_ne,ne_eq] at*;unfold Bj;symm;simp;omega),rfl⟩
theorem VV (c:Int) (h0:0<=c) (h1:c<=1073741823):Ov c=c:=by unfold Ov;rw [if_neg (by omega),if_neg (by omega)]
theorem UA {n:Int} (h:(Lit.int .u32 n).wf=true):0<=n/\n<4294967296:=by
 have:=bounds_u32 h;omega
theorem O_ (n s:Int) (h0:0<=n) (h1:n<4294967296) (hs:Bj s=true) (w:World):
  Calls prog 72 #[.int .u32 n,.int .i64 s] w λe w'=>e= .returned (.int .i64 (n%s))/\w'=w:=
 (Jc n s h0 h1 hs w).mono λ_ _ h=>⟨h.1,h.2.symm⟩
end Go.Proofs.YtmnephejhkfchaaGreat

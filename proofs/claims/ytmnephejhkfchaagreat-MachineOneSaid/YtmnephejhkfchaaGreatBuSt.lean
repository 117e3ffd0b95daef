
import Derived.Test.YtmnephejhkfchaaGreatBuAw
namespace Go.Proofs.YtmnephejhkfchaaGreat
set_option maxHeartbeats 8000000
open _root_.Go.Proofs.Tryz
open Go.RowKit Go.BigFrame
set_option linter.unusedVariables false
set_option maxRecDepth 100000
section
variable {w:World} {n cap:Nat} {sa:Option Addr} {zs:List Int} {kd v sz pl B G D:Int}
theorem O0 (kd:Int) (sa:Option Addr) (n cap:Nat) (v sz pl B G D:Int) (w:World):Calls prog 16 #[.agg #[.int .i64 kd,.slice sa n cap,.int .u32 v,.int .i64 sz,.int .i64 pl,.int .i64 B,.int .i64 G,.int .i64 D]] w λe w'=>e= .returned (.agg #[.int .i64 kd,.slice sa n cap,.int .u32 v,.int .i64 sz,.int .i64 pl,.int .i64 B,.int .i64 G,.int .i64 D])/\Wr Nil w w':=by
 have HW:=Qw (show Wr Nil w ((w.alloc (.cells #[.int .i64 kd,.slice sa n cap,.int .u32 v,.int .i64 sz,.int .i64 pl,.int .i64 B,.int .i64 G,.int .i64 D] 25)).alloc (.cells #[.int .i64 kd,.slice sa n cap,.int .u32 v,.int .i64 sz,.int .i64 pl,.int .i64 B,.int .i64 G,.int .i64 D] 45)) from ((Wr.refl _ _).alloc _).alloc _)
 go_in
 go_wp2;refine bodyPost_ret (results_cell_row results16 _ _ (w.heap.size+1) 45 #[.int .i64 kd,.slice sa n cap,.int .u32 v,.int .i64 sz,.int .i64 pl,.int .i64 B,.int .i64 G,.int .i64 D] (0,0) _ rfl ?hg underlying45 rfl (by kernel_rfl)) rfl ?_
 case hg=>
  have h:=Go.Deep.blk_alloc_new (w.alloc (.cells #[.int .i64 kd,.slice sa n cap,.int .u32 v,.int .i64 sz,.int .i64 pl,.int .i64 B,.int .i64 G,.int .i64 D] 25)) (.cells #[.int .i64 kd,.slice sa n cap,.int .u32 v,.int .i64 sz,.int .i64 pl,.int .i64 B,.int .i64 G,.int .i64 D] 45);rw [Go.Deep.nblk_alloc] at h;exact h
 exact ⟨rfl,HW.out⟩
theorem Ru (h:kd<1\/7<kd):Ky kd n zs sz pl B G D=7:=by unfold Ky;rw [Qj h]
theorem Hp (h1:1<=kd) (h7:kd<=7) (h:A8 zs=false\/n<1\/64<n):Ky kd n zs sz pl B G D=1:=by unfold Ky;rw [Qq (by omega),Qj h]
theorem GU (h1:1<=kd) (h7:kd<=7) (ho:A8 zs=true) (n1:1<=n) (n2:n<=64):Ky kd n zs sz pl B G D=if kd=2/\(Bj sz=false\/sz<n) then 7 else if kd=5/\(pl<1\/8<pl) then 7 else if kd=7/\CK G D B=false then 7 else 0:=by
 unfold Ky;rw [Qq (by omega),Qq (by rw [ho];simp;omega)]
theorem Rs (ho:A8 zs=true) (n1:1<=n) (n2:n<=64):Ky 2 n zs sz pl B G D=if Bj sz=false\/sz<n then 7 else 0:=by rw [GU (by decide) (by decide) ho n1 n2];simp
theorem Rt (ho:A8 zs=true) (n1:1<=n) (n2:n<=64):Ky 5 n zs sz pl B G D=if pl<1\/8<pl then 7 else 0:=by rw [GU (by decide) (by decide) ho n1 n2];simp
theorem M8 (ho:A8 zs=true) (n1:1<=n) (n2:n<=64):Ky 7 n zs sz pl B G D=if CK G D B=false then 7 else 0:=by rw [GU (by decide) (by decide) ho n1 n2];simp
theorem ZT (ho:A8 zs=true) (n1:1<=n) (n2:n<=64) (h:kd=1\/kd=3\/kd=4\/kd=6):Ky kd n zs sz pl B G D=0:=by
 rw [GU (by omega) (by omega) ho n1 n2,Qq (by omega),Qq (by omega),Qq (by omega)]
theorem Gz (h:(G≠1/\G≠4)\/(D≠1/\D≠3/\D≠4)\/B<1\/1000<B):CK G D B=false:=by
 unfold CK;simp only [List.mem_cons,List.not_mem_nil,or_false,Bool.and_eq_false_iff,decide_eq_false_iff_not];omega
theorem R5 (h1:G=1\/G=4) (h2:D=1\/D=3\/D=4) (h3:1<=B) (h4:B<=1000):CK G D B=true:=by
 unfold CK;simp only [List.mem_cons,List.not_mem_nil,or_false,Bool.and_eq_true,decide_eq_true_eq];omega
def C8 (w:World) (x:Int) (e:Ending) (w':World):Prop:=e= .returned (.int .i64 x)/\Wr Nil w w'
theorem XY (hr:Ad .i64 w sa n zs) (hn:n<=9223372036854775807):
  Calls prog 15 #[.agg #[.int .i64 kd,.slice sa n cap,.int .u32 v,.int .i64 sz,.int .i64 pl,.int .i64 B,.int .i64 G,.int .i64 D]] w (C8 w (Ky kd n zs sz pl B G D)):=by
 have cH:=λW (k:Wr Nil w W)=>QQ (cap:=cap) (hr.after k) hn;have HW:=Qw (show Wr Nil w (w.alloc (.cells #[.int .i64 kd,.slice sa n cap,.int .u32 v,.int .i64 sz,.int .i64 pl,.int .i64 B,.int .i64 G,.int .i64 D] 45)) from (Wr.refl _ _).alloc _);clear hr;by_cases k1:kd<1
 ·rw [Ru (.inl k1)]
  exact zz2
 by_cases k7:7<kd
 ·rw [Ru (.inr k7)]
  exact zz2
 have iB:1<=kd:=by omega
 have iC:kd<=7:=by omega
 by_cases n1:n<1
 ·have kR:(n:Int)<1:=by omega
  rw [Hp iB iC (.inr (.inl n1))];exact zz2
 by_cases n6:64<n
 ·have kR:¬ (n:Int)<1:=by omega
  have mY:(64:Int)<n:=by omega
  rw [Hp iB iC (.inr (.inr n6))];exact zz2
 have kR:¬ (n:Int)<1:=by omega
 have mY:¬ (64:Int)<n:=by omega
 have RU:1<=n:=by omega
 have RV:n<=64:=by omega
 cases ho:A8 zs
 ·rw [Hp iB iC (.inl ho)]
  unfold C8;rw [ho] at cH;have HH:=Qw cH;clear cH hn ho
  go_in
  go_wp2_with (first
   |((with_reducible refine (HH.out _ ((Wr.refl _ _).alloc _)).mono ?_);rintro e w1 ⟨rfl,rfl⟩)
   |((with_reducible refine (cS _).mono ?_);rintro e w1 ⟨rfl,rfl⟩))
  go_ret;exact ⟨rfl,HW.out⟩
 rw [ho] at cH;by_cases e2:kd=2
 ·subst e2
  cases hs:Bj sz
  ·have cS:=Jb sz;rw [hs] at cS
   rw [Rs ho RU RV,Qj (.inl hs)];exact zz2
  by_cases q:sz<n
  ·have cS:=Jb sz;rw [hs] at cS
   rw [Rs ho RU RV,Qj (.inr q)];exact zz2
  have cS:=Jb sz;rw [hs] at cS;rw [Rs ho RU RV,Qq (by rw [hs];simp;omega)];exact zz2
 by_cases e5:kd=5
 ·subst e5
  by_cases p1:pl<1
  ·rw [Rt ho RU RV,Qj (.inl p1)]
   exact zz2
  by_cases p8:8<pl
  ·rw [Rt ho RU RV,Qj (.inr p8)]
   exact zz2
  rw [Rt ho RU RV,Qq (by omega)];exact zz2
 by_cases e7:kd=7
 ·subst e7
  by_cases g1:G=1\/G=4
  ·have g1':=g1
   rcases g1' with rfl|rfl
   all_goals
    by_cases d1:D=1\/D=3\/D=4
    ·have lS:=d1
     rcases lS with rfl|rfl|rfl
     all_goals
      by_cases b1:B<1
      ·rw [M8 ho RU RV,Qj (Gz (.inr (.inr (.inl b1))))]
       exact zz2
      by_cases b2:1000<B
      ·rw [M8 ho RU RV,Qj (Gz (.inr (.inr (.inr b2))))]
       exact zz2
      rw [M8 ho RU RV,Qq (by rw [R5 g1 d1 (by omega) (by omega)];simp)];unfold C8;have HH:=Qw cH;clear cH hn
      go_in
      go_wp2_with (first
       |((with_reducible refine (HH.out _ ((Wr.refl _ _).alloc _)).mono ?_);rintro e w1 ⟨rfl,rfl⟩)
       |((with_reducible refine (cS _).mono ?_);rintro e w1 ⟨rfl,rfl⟩))
      go_ret;exact ⟨rfl,HW.out⟩
    have q3:(D != 1)=true:=by simp;omega
    have q4:(D != 3)=true:=by simp;omega
    have q5:(D != 4)=true:=by simp;omega
    rw [M8 ho RU RV,Qj (Gz (.inr (.inl (by omega))))];clear d1;unfold C8;have HH:=Qw cH;clear cH hn
    go_in
    go_wp2_with (first
     |((with_reducible refine (HH.out _ ((Wr.refl _ _).alloc _)).mono ?_);rintro e w1 ⟨rfl,rfl⟩)
     |((with_reducible refine (cS _).mono ?_);rintro e w1 ⟨rfl,rfl⟩))
    go_ret;exact ⟨rfl,HW.out⟩
  have q1:(G != 1)=true:=by simp;omega
  have q2:(G != 4)=true:=by simp;omega
  rw [M8 ho RU RV,Qj (Gz (.inl (by omega)))];clear g1;exact zz2
 rw [ZT ho RU RV (by omega)];exact zz2
end
def Any.Same (a a':Any):Prop:=a'.ty=a.ty/\a'.lb=a.lb/\a'.p=a.p/\a'.q=a.q/\a'.DK=a.DK
theorem Any.KN (a:Any) (t d:Int):a.Same (a.lock t d):=by cases a<;>exact ⟨rfl,rfl,rfl,rfl,rfl⟩
theorem Any.KP (a:Any) (t x:Int):a.Same (a.turn t x):=by cases a<;>exact ⟨rfl,rfl,rfl,rfl,rfl⟩
theorem Any.KO (a:Any) (t x:Int):a.Same (a.step t x):=by cases a<;>exact ⟨rfl,rfl,rfl,rfl,rfl⟩
theorem Any.Same.trans {a b c:Any} (h:a.Same b) (k:b.Same c):a.Same c:=by
 obtain ⟨h1,h2,h3,h4,h5⟩:=h;obtain ⟨k1,k2,k3,k4,k5⟩:=k;exact ⟨k1.trans h1,k2.trans h2,k3.trans h3,k4.trans h4,k5.trans h5⟩
end Go.Proofs.YtmnephejhkfchaaGreat

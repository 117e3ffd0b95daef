
import Derived.Test.YtmnephejhkfchaaGreatBuNew
namespace Go.Proofs.YtmnephejhkfchaaGreat
set_option maxHeartbeats 8000000
open _root_.Go.Proofs.Tryz
open Go.RowKit Go.BigFrame
set_option linter.unusedVariables false
set_option maxRecDepth 100000
section
variable {w:World} {n cap:Nat} {sa:Option Addr} {zs:List Int} {kd v sz pl B G D:Int}
theorem rf_any (kd:Int) (sa:Option Addr) (n cap:Nat) (v sz pl B G D:Int) (w:World):Calls prog 16 #[.agg #[.int .i64 kd,.slice sa n cap,.int .u32 v,.int .i64 sz,.int .i64 pl,.int .i64 B,.int .i64 G,.int .i64 D]] w λe w'=>e= .returned (.agg #[.int .i64 kd,.slice sa n cap,.int .u32 v,.int .i64 sz,.int .i64 pl,.int .i64 B,.int .i64 G,.int .i64 D])∧Wr Nil w w':=by
 have HW:=Lib.hid (show Wr Nil w ((w.alloc (.cells #[.int .i64 kd,.slice sa n cap,.int .u32 v,.int .i64 sz,.int .i64 pl,.int .i64 B,.int .i64 G,.int .i64 D] 25)).alloc (.cells #[.int .i64 kd,.slice sa n cap,.int .u32 v,.int .i64 sz,.int .i64 pl,.int .i64 B,.int .i64 G,.int .i64 D] 45)) from ((Wr.refl _ _).alloc _).alloc _)
 go_enter func16,ntmps16
 go_wp2
 refine bodyPost_ret (results_cell_row results16 _ _ (w.heap.size+1) 45 #[.int .i64 kd,.slice sa n cap,.int .u32 v,.int .i64 sz,.int .i64 pl,.int .i64 B,.int .i64 G,.int .i64 D] (0,0) _ rfl ?hg underlying45 rfl (by kernel_rfl)) rfl ?_
 case hg=>
  have h:=Go.Deep.blk_alloc_new (w.alloc (.cells #[.int .i64 kd,.slice sa n cap,.int .u32 v,.int .i64 sz,.int .i64 pl,.int .i64 B,.int .i64 G,.int .i64 D] 25)) (.cells #[.int .i64 kd,.slice sa n cap,.int .u32 v,.int .i64 sz,.int .i64 pl,.int .i64 B,.int .i64 G,.int .i64 D] 45)
  rw [Go.Deep.nblk_alloc] at h
  exact h
 exact ⟨rfl,HW.out⟩
theorem chk_kd (h:kd<1∨7<kd):chk kd n zs sz pl B G D=7:=by unfold chk;rw [if_pos h]
theorem chk_homes (h1:1≤kd) (h7:kd≤7) (h:homesOK zs=false∨n<1∨64<n):chk kd n zs sz pl B G D=1:=by unfold chk;rw [if_neg (by omega),if_pos h]
theorem chk_past (h1:1≤kd) (h7:kd≤7) (ho:homesOK zs=true) (n1:1≤n) (n2:n≤64):chk kd n zs sz pl B G D=if kd=2∧(sizeB sz=false∨sz<n) then 7 else if kd=5∧(pl<1∨8<pl) then 7 else if kd=7∧rightB G D B=false then 7 else 0:=by
 unfold chk
 rw [if_neg (by omega),if_neg (by rw [ho];simp;omega)]
theorem chk_2 (ho:homesOK zs=true) (n1:1≤n) (n2:n≤64):chk 2 n zs sz pl B G D=if sizeB sz=false∨sz<n then 7 else 0:=by rw [chk_past (by decide) (by decide) ho n1 n2];simp
theorem chk_5 (ho:homesOK zs=true) (n1:1≤n) (n2:n≤64):chk 5 n zs sz pl B G D=if pl<1∨8<pl then 7 else 0:=by rw [chk_past (by decide) (by decide) ho n1 n2];simp
theorem chk_7 (ho:homesOK zs=true) (n1:1≤n) (n2:n≤64):chk 7 n zs sz pl B G D=if rightB G D B=false then 7 else 0:=by rw [chk_past (by decide) (by decide) ho n1 n2];simp
theorem chk_o (ho:homesOK zs=true) (n1:1≤n) (n2:n≤64) (h:kd=1∨kd=3∨kd=4∨kd=6):chk kd n zs sz pl B G D=0:=by
 rw [chk_past (by omega) (by omega) ho n1 n2,if_neg (by omega),if_neg (by omega),if_neg (by omega)]
theorem right_no (h:(G≠1∧G≠4)∨(D≠1∧D≠3∧D≠4)∨B<1∨1000<B):rightB G D B=false:=by
 unfold rightB
 simp only [List.mem_cons,List.not_mem_nil,or_false,Bool.and_eq_false_iff,decide_eq_false_iff_not]
 omega
theorem right_yes (h1:G=1∨G=4) (h2:D=1∨D=3∨D=4) (h3:1≤B) (h4:B≤1000):rightB G D B=true:=by
 unfold rightB
 simp only [List.mem_cons,List.not_mem_nil,or_false,Bool.and_eq_true,decide_eq_true_eq]
 omega
def CkPost (w:World) (x:Int) (e:Ending) (w':World):Prop:=e= .returned (.int .i64 x)∧Wr Nil w w'
theorem ck_any (hr:RowAt .i64 w sa n zs) (hn:n≤9223372036854775807):
  Calls prog 15 #[.agg #[.int .i64 kd,.slice sa n cap,.int .u32 v,.int .i64 sz,.int .i64 pl,.int .i64 B,.int .i64 G,.int .i64 D]] w (CkPost w (chk kd n zs sz pl B G D)):=by
 have cH:=λW (k:Wr Nil w W)=>homes_any (cap:=cap) (hr.after k) hn
 have HW:=Lib.hid (show Wr Nil w (w.alloc (.cells #[.int .i64 kd,.slice sa n cap,.int .u32 v,.int .i64 sz,.int .i64 pl,.int .i64 B,.int .i64 G,.int .i64 D] 45)) from (Wr.refl _ _).alloc _)
 clear hr
 by_cases k1:kd<1
 ·rw [chk_kd (.inl k1)]
  unfold CkPost
  have HH:=Lib.hid cH
  clear cH hn
  go_enter func15,ntmps15
  go_wp2_with (first
   |(go_at_call 22;(with_reducible refine (HH.out _ ((Wr.refl _ _).alloc _)).mono ?_);rintro e w1 ⟨rfl,rfl⟩)
   |(go_at_call 23;(with_reducible refine (cS _).mono ?_);rintro e w1 ⟨rfl,rfl⟩))
  go_ret
  exact ⟨rfl,HW.out⟩
 by_cases k7:7<kd
 ·rw [chk_kd (.inr k7)]
  unfold CkPost
  have HH:=Lib.hid cH
  clear cH hn
  go_enter func15,ntmps15
  go_wp2_with (first
   |(go_at_call 22;(with_reducible refine (HH.out _ ((Wr.refl _ _).alloc _)).mono ?_);rintro e w1 ⟨rfl,rfl⟩)
   |(go_at_call 23;(with_reducible refine (cS _).mono ?_);rintro e w1 ⟨rfl,rfl⟩))
  go_ret
  exact ⟨rfl,HW.out⟩
 have k1':1≤kd:=by omega
 have k7':kd≤7:=by omega
 by_cases n1:n<1
 ·have n1i:(n:Int)<1:=by omega
  rw [chk_homes k1' k7' (.inr (.inl n1))]
  unfold CkPost
  have HH:=Lib.hid cH
  clear cH hn
  go_enter func15,ntmps15
  go_wp2_with (first
   |(go_at_call 22;(with_reducible refine (HH.out _ ((Wr.refl _ _).alloc _)).mono ?_);rintro e w1 ⟨rfl,rfl⟩)
   |(go_at_call 23;(with_reducible refine (cS _).mono ?_);rintro e w1 ⟨rfl,rfl⟩))
  go_ret
  exact ⟨rfl,HW.out⟩
 by_cases n6:64<n
 ·have n1i:¬ (n:Int)<1:=by omega
  have n6i:(64:Int)<n:=by omega
  rw [chk_homes k1' k7' (.inr (.inr n6))]
  unfold CkPost
  have HH:=Lib.hid cH
  clear cH hn
  go_enter func15,ntmps15
  go_wp2_with (first
   |(go_at_call 22;(with_reducible refine (HH.out _ ((Wr.refl _ _).alloc _)).mono ?_);rintro e w1 ⟨rfl,rfl⟩)
   |(go_at_call 23;(with_reducible refine (cS _).mono ?_);rintro e w1 ⟨rfl,rfl⟩))
  go_ret
  exact ⟨rfl,HW.out⟩
 have n1i:¬ (n:Int)<1:=by omega
 have n6i:¬ (64:Int)<n:=by omega
 have n1':1≤n:=by omega
 have n2':n≤64:=by omega
 cases ho:homesOK zs
 ·rw [chk_homes k1' k7' (.inl ho)]
  unfold CkPost
  rw [ho] at cH
  have HH:=Lib.hid cH
  clear cH hn ho
  go_enter func15,ntmps15
  go_wp2_with (first
   |(go_at_call 22;(with_reducible refine (HH.out _ ((Wr.refl _ _).alloc _)).mono ?_);rintro e w1 ⟨rfl,rfl⟩)
   |(go_at_call 23;(with_reducible refine (cS _).mono ?_);rintro e w1 ⟨rfl,rfl⟩))
  go_ret
  exact ⟨rfl,HW.out⟩
 rw [ho] at cH
 by_cases e2:kd=2
 ·subst e2
  cases hs:sizeB sz
  ·have cS:=size_any sz;rw [hs] at cS
   rw [chk_2 ho n1' n2',if_pos (.inl hs)]
   unfold CkPost
   have HH:=Lib.hid cH
   clear cH hn
   go_enter func15,ntmps15
   go_wp2_with (first
    |(go_at_call 22;(with_reducible refine (HH.out _ ((Wr.refl _ _).alloc _)).mono ?_);rintro e w1 ⟨rfl,rfl⟩)
    |(go_at_call 23;(with_reducible refine (cS _).mono ?_);rintro e w1 ⟨rfl,rfl⟩))
   go_ret
   exact ⟨rfl,HW.out⟩
  by_cases q:sz<n
  ·have cS:=size_any sz;rw [hs] at cS
   rw [chk_2 ho n1' n2',if_pos (.inr q)]
   unfold CkPost
   have HH:=Lib.hid cH
   clear cH hn
   go_enter func15,ntmps15
   go_wp2_with (first
    |(go_at_call 22;(with_reducible refine (HH.out _ ((Wr.refl _ _).alloc _)).mono ?_);rintro e w1 ⟨rfl,rfl⟩)
    |(go_at_call 23;(with_reducible refine (cS _).mono ?_);rintro e w1 ⟨rfl,rfl⟩))
   go_ret
   exact ⟨rfl,HW.out⟩
  have cS:=size_any sz;rw [hs] at cS
  rw [chk_2 ho n1' n2',if_neg (by rw [hs];simp;omega)]
  unfold CkPost
  have HH:=Lib.hid cH
  clear cH hn
  go_enter func15,ntmps15
  go_wp2_with (first
   |(go_at_call 22;(with_reducible refine (HH.out _ ((Wr.refl _ _).alloc _)).mono ?_);rintro e w1 ⟨rfl,rfl⟩)
   |(go_at_call 23;(with_reducible refine (cS _).mono ?_);rintro e w1 ⟨rfl,rfl⟩))
  go_ret
  exact ⟨rfl,HW.out⟩
 by_cases e5:kd=5
 ·subst e5
  by_cases p1:pl<1
  ·rw [chk_5 ho n1' n2',if_pos (.inl p1)]
   unfold CkPost
   have HH:=Lib.hid cH
   clear cH hn
   go_enter func15,ntmps15
   go_wp2_with (first
    |(go_at_call 22;(with_reducible refine (HH.out _ ((Wr.refl _ _).alloc _)).mono ?_);rintro e w1 ⟨rfl,rfl⟩)
    |(go_at_call 23;(with_reducible refine (cS _).mono ?_);rintro e w1 ⟨rfl,rfl⟩))
   go_ret
   exact ⟨rfl,HW.out⟩
  by_cases p8:8<pl
  ·rw [chk_5 ho n1' n2',if_pos (.inr p8)]
   unfold CkPost
   have HH:=Lib.hid cH
   clear cH hn
   go_enter func15,ntmps15
   go_wp2_with (first
    |(go_at_call 22;(with_reducible refine (HH.out _ ((Wr.refl _ _).alloc _)).mono ?_);rintro e w1 ⟨rfl,rfl⟩)
    |(go_at_call 23;(with_reducible refine (cS _).mono ?_);rintro e w1 ⟨rfl,rfl⟩))
   go_ret
   exact ⟨rfl,HW.out⟩
  rw [chk_5 ho n1' n2',if_neg (by omega)]
  unfold CkPost
  have HH:=Lib.hid cH
  clear cH hn
  go_enter func15,ntmps15
  go_wp2_with (first
   |(go_at_call 22;(with_reducible refine (HH.out _ ((Wr.refl _ _).alloc _)).mono ?_);rintro e w1 ⟨rfl,rfl⟩)
   |(go_at_call 23;(with_reducible refine (cS _).mono ?_);rintro e w1 ⟨rfl,rfl⟩))
  go_ret
  exact ⟨rfl,HW.out⟩
 by_cases e7:kd=7
 ·subst e7
  by_cases g1:G=1∨G=4
  ·have g1':=g1
   rcases g1' with rfl|rfl
   all_goals
    by_cases d1:D=1∨D=3∨D=4
    ·have d1':=d1
     rcases d1' with rfl|rfl|rfl
     all_goals
      by_cases b1:B<1
      ·rw [chk_7 ho n1' n2',if_pos (right_no (.inr (.inr (.inl b1))))]
       unfold CkPost
       have HH:=Lib.hid cH
       clear cH hn
       go_enter func15,ntmps15
       go_wp2_with (first
        |(go_at_call 22;(with_reducible refine (HH.out _ ((Wr.refl _ _).alloc _)).mono ?_);rintro e w1 ⟨rfl,rfl⟩)
        |(go_at_call 23;(with_reducible refine (cS _).mono ?_);rintro e w1 ⟨rfl,rfl⟩))
       go_ret
       exact ⟨rfl,HW.out⟩
      by_cases b2:1000<B
      ·rw [chk_7 ho n1' n2',if_pos (right_no (.inr (.inr (.inr b2))))]
       unfold CkPost
       have HH:=Lib.hid cH
       clear cH hn
       go_enter func15,ntmps15
       go_wp2_with (first
        |(go_at_call 22;(with_reducible refine (HH.out _ ((Wr.refl _ _).alloc _)).mono ?_);rintro e w1 ⟨rfl,rfl⟩)
        |(go_at_call 23;(with_reducible refine (cS _).mono ?_);rintro e w1 ⟨rfl,rfl⟩))
       go_ret
       exact ⟨rfl,HW.out⟩
      rw [chk_7 ho n1' n2',if_neg (by rw [right_yes g1 d1 (by omega) (by omega)];simp)]
      unfold CkPost
      have HH:=Lib.hid cH
      clear cH hn
      go_enter func15,ntmps15
      go_wp2_with (first
       |(go_at_call 22;(with_reducible refine (HH.out _ ((Wr.refl _ _).alloc _)).mono ?_);rintro e w1 ⟨rfl,rfl⟩)
       |(go_at_call 23;(with_reducible refine (cS _).mono ?_);rintro e w1 ⟨rfl,rfl⟩))
      go_ret
      exact ⟨rfl,HW.out⟩
    have q3:(D != 1)=true:=by simp;omega
    have q4:(D != 3)=true:=by simp;omega
    have q5:(D != 4)=true:=by simp;omega
    rw [chk_7 ho n1' n2',if_pos (right_no (.inr (.inl (by omega))))]
    clear d1
    unfold CkPost
    have HH:=Lib.hid cH
    clear cH hn
    go_enter func15,ntmps15
    go_wp2_with (first
     |(go_at_call 22;(with_reducible refine (HH.out _ ((Wr.refl _ _).alloc _)).mono ?_);rintro e w1 ⟨rfl,rfl⟩)
     |(go_at_call 23;(with_reducible refine (cS _).mono ?_);rintro e w1 ⟨rfl,rfl⟩))
    go_ret
    exact ⟨rfl,HW.out⟩
  have q1:(G != 1)=true:=by simp;omega
  have q2:(G != 4)=true:=by simp;omega
  rw [chk_7 ho n1' n2',if_pos (right_no (.inl (by omega)))]
  clear g1
  unfold CkPost
  have HH:=Lib.hid cH
  clear cH hn
  go_enter func15,ntmps15
  go_wp2_with (first
   |(go_at_call 22;(with_reducible refine (HH.out _ ((Wr.refl _ _).alloc _)).mono ?_);rintro e w1 ⟨rfl,rfl⟩)
   |(go_at_call 23;(with_reducible refine (cS _).mono ?_);rintro e w1 ⟨rfl,rfl⟩))
  go_ret
  exact ⟨rfl,HW.out⟩
 rw [chk_o ho n1' n2' (by omega)]
 unfold CkPost
 have HH:=Lib.hid cH
 clear cH hn
 go_enter func15,ntmps15
 go_wp2_with (first
  |(go_at_call 22;(with_reducible refine (HH.out _ ((Wr.refl _ _).alloc _)).mono ?_);rintro e w1 ⟨rfl,rfl⟩)
  |(go_at_call 23;(with_reducible refine (cS _).mono ?_);rintro e w1 ⟨rfl,rfl⟩))
 go_ret
 exact ⟨rfl,HW.out⟩
end
def Any.Same (a a':Any):Prop:=a'.ty=a.ty∧a'.lb=a.lb∧a'.p=a.p∧a'.q=a.q∧a'.stepF=a.stepF
theorem Any.same_lock (a:Any) (t d:Int):a.Same (a.lock t d):=by cases a<;>exact ⟨rfl,rfl,rfl,rfl,rfl⟩
theorem Any.same_turn (a:Any) (t x:Int):a.Same (a.turn t x):=by cases a<;>exact ⟨rfl,rfl,rfl,rfl,rfl⟩
theorem Any.same_step (a:Any) (t x:Int):a.Same (a.step t x):=by cases a<;>exact ⟨rfl,rfl,rfl,rfl,rfl⟩
theorem Any.Same.trans {a b c:Any} (h:a.Same b) (k:b.Same c):a.Same c:=by
 obtain ⟨h1,h2,h3,h4,h5⟩:=h
 obtain ⟨k1,k2,k3,k4,k5⟩:=k
 exact ⟨k1.trans h1,k2.trans h2,k3.trans h3,k4.trans h4,k5.trans h5⟩
end Go.Proofs.YtmnephejhkfchaaGreat

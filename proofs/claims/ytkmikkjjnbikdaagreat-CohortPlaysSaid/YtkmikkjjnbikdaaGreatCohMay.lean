import Derived.Test.YtkmikkjjnbikdaaGreatCohRight
namespace Go.Proofs.YtkmikkjjnbikdaaGreat
set_option maxHeartbeats 8000000
open _root_.Go.Proofs.Tryz
open Go.RowKit Go.BigFrame
set_option linter.unusedVariables false
set_option maxRecDepth 100000
theorem right_of {G K B:Int} {a b c d:Bool} (ha:decide (G∈[(1:Int),4])=a) (hb:decide (K∈[(1:Int),3,4])=b) (hc:decide (1≤B)=c) (hd:decide (B≤1000)=d):rightB G K B=(a&&b&&c&&d):=by unfold rightB;rw [ha,hb,hc,hd]
theorem fl_may (G K B:Int) (w:World):Calls prog 9 #[.agg #[.int .i64 G,.int .i64 K,.int .i64 B]] w λe w'=>e= .returned (.bool (rightB G K B))∧Wr Nil w w':=by
 obtain ⟨X,hX⟩:∃ X,X=w.alloc (.cells #[.int .i64 G,.int .i64 K,.int .i64 B] 24):=⟨_,rfl⟩
 have hW:Wr Nil w X:=by rw [hX];exact (Wr.refl _ w).alloc _
 have HW:=Lib.hid hW
 rw [hX] at HW
 clear hW hX X
 obtain ⟨r,hr⟩:∃ r,r=rightB G K B:=⟨_,rfl⟩
 rw [←hr]
 by_cases g1:G=1
 ·subst g1
  by_cases k1:K=1
  ·subst k1
   rw [right_of (a:=true) (b:=true) (by decide) (by decide) rfl rfl] at hr
   by_cases b1:1≤B
   ·rw [decide_eq_true b1] at hr
    have HR:=Lib.hid hr
    clear hr
    go_enter func9,ntmps9
    go_wp2
    go_ret
    exact ⟨by rw [HR.out];rfl,HW.out⟩
   ·rw [decide_eq_false b1] at hr
    have HR:=Lib.hid hr
    clear hr
    go_enter func9,ntmps9
    go_wp2
    go_ret
    exact ⟨by rw [HR.out];rfl,HW.out⟩
  by_cases k3:K=3
  ·subst k3
   rw [right_of (a:=true) (b:=true) (by decide) (by decide) rfl rfl] at hr
   by_cases b1:1≤B
   ·rw [decide_eq_true b1] at hr
    have HR:=Lib.hid hr
    clear hr
    go_enter func9,ntmps9
    go_wp2
    go_ret
    exact ⟨by rw [HR.out];rfl,HW.out⟩
   ·rw [decide_eq_false b1] at hr
    have HR:=Lib.hid hr
    clear hr
    go_enter func9,ntmps9
    go_wp2
    go_ret
    exact ⟨by rw [HR.out];rfl,HW.out⟩
  by_cases k4:K=4
  ·subst k4
   rw [right_of (a:=true) (b:=true) (by decide) (by decide) rfl rfl] at hr
   by_cases b1:1≤B
   ·rw [decide_eq_true b1] at hr
    have HR:=Lib.hid hr
    clear hr
    go_enter func9,ntmps9
    go_wp2
    go_ret
    exact ⟨by rw [HR.out];rfl,HW.out⟩
   ·rw [decide_eq_false b1] at hr
    have HR:=Lib.hid hr
    clear hr
    go_enter func9,ntmps9
    go_wp2
    go_ret
    exact ⟨by rw [HR.out];rfl,HW.out⟩
  rw [right_of (a:=true) (b:=false) (by decide) (decide_eq_false (by simp [k1,k3,k4])) rfl rfl] at hr
  have q3:(K==1)=false:=beq_false_of_ne k1
  have q4:(K==3)=false:=beq_false_of_ne k3
  have q5:(K==4)=false:=beq_false_of_ne k4
  have HR:=Lib.hid hr
  clear hr k1 k3 k4
  go_enter func9,ntmps9
  go_wp2
  go_ret
  exact ⟨by rw [HR.out];rfl,HW.out⟩
 by_cases g4:G=4
 ·subst g4
  by_cases k1:K=1
  ·subst k1
   rw [right_of (a:=true) (b:=true) (by decide) (by decide) rfl rfl] at hr
   by_cases b1:1≤B
   ·rw [decide_eq_true b1] at hr
    have HR:=Lib.hid hr
    clear hr
    go_enter func9,ntmps9
    go_wp2
    go_ret
    exact ⟨by rw [HR.out];rfl,HW.out⟩
   ·rw [decide_eq_false b1] at hr
    have HR:=Lib.hid hr
    clear hr
    go_enter func9,ntmps9
    go_wp2
    go_ret
    exact ⟨by rw [HR.out];rfl,HW.out⟩
  by_cases k3:K=3
  ·subst k3
   rw [right_of (a:=true) (b:=true) (by decide) (by decide) rfl rfl] at hr
   by_cases b1:1≤B
   ·rw [decide_eq_true b1] at hr
    have HR:=Lib.hid hr
    clear hr
    go_enter func9,ntmps9
    go_wp2
    go_ret
    exact ⟨by rw [HR.out];rfl,HW.out⟩
   ·rw [decide_eq_false b1] at hr
    have HR:=Lib.hid hr
    clear hr
    go_enter func9,ntmps9
    go_wp2
    go_ret
    exact ⟨by rw [HR.out];rfl,HW.out⟩
  by_cases k4:K=4
  ·subst k4
   rw [right_of (a:=true) (b:=true) (by decide) (by decide) rfl rfl] at hr
   by_cases b1:1≤B
   ·rw [decide_eq_true b1] at hr
    have HR:=Lib.hid hr
    clear hr
    go_enter func9,ntmps9
    go_wp2
    go_ret
    exact ⟨by rw [HR.out];rfl,HW.out⟩
   ·rw [decide_eq_false b1] at hr
    have HR:=Lib.hid hr
    clear hr
    go_enter func9,ntmps9
    go_wp2
    go_ret
    exact ⟨by rw [HR.out];rfl,HW.out⟩
  rw [right_of (a:=true) (b:=false) (by decide) (decide_eq_false (by simp [k1,k3,k4])) rfl rfl] at hr
  have q3:(K==1)=false:=beq_false_of_ne k1
  have q4:(K==3)=false:=beq_false_of_ne k3
  have q5:(K==4)=false:=beq_false_of_ne k4
  have HR:=Lib.hid hr
  clear hr k1 k3 k4
  go_enter func9,ntmps9
  go_wp2
  go_ret
  exact ⟨by rw [HR.out];rfl,HW.out⟩
 rw [right_of (a:=false) (decide_eq_false (by simp [g1,g4])) rfl rfl rfl] at hr
 have q1:(G==1)=false:=beq_false_of_ne g1
 have q2:(G==4)=false:=beq_false_of_ne g4
 have HR:=Lib.hid hr
 clear hr g1 g4
 go_enter func9,ntmps9
 go_wp2
 go_ret
 exact ⟨by rw [HR.out];rfl,HW.out⟩
end Go.Proofs.YtkmikkjjnbikdaaGreat

import Derived.Test.YtmnephejhkfchaaGreatMaNew
namespace Go.Proofs.YtmnephejhkfchaaGreat
set_option maxHeartbeats 8000000
open _root_.Go.Proofs.Tryz
open Go.RowKit Go.BigFrame
set_option linter.unusedVariables false
set_option maxRecDepth 100000
def FnPost (w:World) (b:Bool) (e:Ending) (w':World):Prop:=e= .returned (.bool b)∧Wr Nil w w'
theorem fn_any {w:World} {n cap:Nat} {sa:Option Addr} {zs:List Int} {kd v sz pl B G D:Int} (hr:RowAt .i64 w sa n zs) (hn:n≤9223372036854775807) (s1:Option Addr) (len1 cap1:Nat) (h1:len1≤9223372036854775807) (most:Int):
  Calls prog 5 #[.agg #[.int .i64 kd,.slice sa n cap,.int .u32 v,.int .i64 sz,.int .i64 pl,.int .i64 B,.int .i64 G,.int .i64 D],.slice s1 len1 cap1,.int .i64 most] w (FnPost w (decide (n≤8∧chk kd n zs sz pl B G D=0∧(len1:Int)≤most))):=by
 obtain ⟨X,hX⟩:∃ X,X=w.alloc (.cells #[.int .i64 kd,.slice sa n cap,.int .u32 v,.int .i64 sz,.int .i64 pl,.int .i64 B,.int .i64 G,.int .i64 D] 25):=⟨_,rfl⟩
 have hWX:Wr Nil w X:=by rw [hX];exact (Wr.refl _ w).alloc _
 have hblk:X.heap[w.heap.size]? =some (.cells #[.int .i64 kd,.slice sa n cap,.int .u32 v,.int .i64 sz,.int .i64 pl,.int .i64 B,.int .i64 G,.int .i64 D] 25 (0,0)):=by rw [hX];exact Go.Deep.blk_alloc_new _ _
 have x0:X.cell? ⟨w.heap.size,0,none⟩=some (.int .i64 kd):=(blk_cell hblk 0).trans rfl
 have x1:X.cell? ⟨w.heap.size,1,none⟩=some (.slice sa n cap):=(blk_cell hblk 1).trans rfl
 have x2:X.cell? ⟨w.heap.size,2,none⟩=some (.int .u32 v):=(blk_cell hblk 2).trans rfl
 have x3:X.cell? ⟨w.heap.size,3,none⟩=some (.int .i64 sz):=(blk_cell hblk 3).trans rfl
 have x4:X.cell? ⟨w.heap.size,4,none⟩=some (.int .i64 pl):=(blk_cell hblk 4).trans rfl
 have x5:X.cell? ⟨w.heap.size,5,none⟩=some (.int .i64 B):=(blk_cell hblk 5).trans rfl
 have x6:X.cell? ⟨w.heap.size,6,none⟩=some (.int .i64 G):=(blk_cell hblk 6).trans rfl
 have x7:X.cell? ⟨w.heap.size,7,none⟩=some (.int .i64 D):=(blk_cell hblk 7).trans rfl
 have rX:=hr.after hWX
 have cK:=λW (k:Wr Nil X W)=>ck_any (cap:=cap) (kd:=kd) (v:=v) (sz:=sz) (pl:=pl) (B:=B) (G:=G) (D:=D) (rX.after k) hn
 obtain ⟨x,hx⟩:∃ x,x=chk kd n zs sz pl B G D:=⟨_,rfl⟩
 rw [←hx] at cK ⊢
 have HW:=Lib.hid hWX
 have HX:=Lib.hid hX
 have HK:=Lib.hid cK
 clear hX hblk rX hr cK hx hWX
 by_cases n8:n≤8
 ·have n8I:(n:Int)≤8:=by omega
  by_cases x0':x=0
  ·by_cases hm:(len1:Int)≤most
   ·rw [decide_eq_true ⟨n8,x0',hm⟩]
    subst x0'
    go_enter func5,ntmps5
    go_upto_region 1 with fail
    rw [←HX.out]
    go_wp2_with (first
     |(go_at_call 16;(with_reducible refine (rf_any _ _ _ _ _ _ _ _ _ _ _).mono ?_);rintro e w3 ⟨rfl,hR3⟩;have HR:=Lib.hid hR3;clear hR3)
     |(go_at_call 15;(with_reducible refine (HK.out _ HR.out).mono ?_);intro e w4 hq;unfold CkPost at hq;obtain ⟨rfl,hR4⟩:=hq;have H4:=Lib.hid (HR.out.nil hR4);clear hR4))
    go_ret
    exact ⟨rfl,HW.out.nil H4.out⟩
   ·rw [decide_eq_false λh=>hm h.2.2]
    subst x0'
    have hm':decide ((len1:Int)≤most)=false:=decide_eq_false hm
    go_enter func5,ntmps5
    go_upto_region 1 with fail
    rw [←HX.out]
    go_wp2_with (first
     |(go_at_call 16;(with_reducible refine (rf_any _ _ _ _ _ _ _ _ _ _ _).mono ?_);rintro e w3 ⟨rfl,hR3⟩;have HR:=Lib.hid hR3;clear hR3)
     |(go_at_call 15;(with_reducible refine (HK.out _ HR.out).mono ?_);intro e w4 hq;unfold CkPost at hq;obtain ⟨rfl,hR4⟩:=hq;have H4:=Lib.hid (HR.out.nil hR4);clear hR4))
    go_ret
    exact ⟨rfl,HW.out.nil H4.out⟩
  ·rw [decide_eq_false λh=>x0' h.2.1]
   have hne:(x==0)=false:=by simp [x0']
   have hnd:decide (x=0)=false:=decide_eq_false x0'
   go_enter func5,ntmps5
   go_upto_region 1 with fail
   rw [←HX.out]
   go_wp2_with (first
    |(go_at_call 16;(with_reducible refine (rf_any _ _ _ _ _ _ _ _ _ _ _).mono ?_);rintro e w3 ⟨rfl,hR3⟩;have HR:=Lib.hid hR3;clear hR3)
    |(go_at_call 15;(with_reducible refine (HK.out _ HR.out).mono ?_);intro e w4 hq;unfold CkPost at hq;obtain ⟨rfl,hR4⟩:=hq;have H4:=Lib.hid (HR.out.nil hR4);clear hR4))
   go_ret
   exact ⟨rfl,HW.out.nil H4.out⟩
 ·rw [decide_eq_false λh=>n8 h.1]
  have n8I:¬ (n:Int)≤8:=by omega
  clear x0 x2 x3 x4 x5 x6 x7 HK
  go_enter func5,ntmps5
  go_upto_region 1 with fail
  rw [←HX.out]
  go_wp2
  go_ret
  exact ⟨rfl,HW.out⟩
theorem fn_yes {n:Nat} {x m most:Int} (h:decide (n≤8∧x=0∧m≤most)=true):n≤8∧x=0∧m≤most:=of_decide_eq_true h
end Go.Proofs.YtmnephejhkfchaaGreat

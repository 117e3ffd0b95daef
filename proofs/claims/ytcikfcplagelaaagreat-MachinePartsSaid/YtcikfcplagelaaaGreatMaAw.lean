import Derived.Test.YtcikfcplagelaaaGreatMaNew
namespace Go.Proofs.YtcikfcplagelaaaGreat
set_option maxHeartbeats 8000000
open _root_.Go.Proofs.Tryz Go.Deep
open Go.RowKit Go.BigFrame
set_option linter.unusedVariables false
set_option maxRecDepth 100000
def zE (i j:Nat):Int:=([[3,0,-1],[1,0,0],[1,0,0]].getD i []).getD j 0
theorem aw_val {a:Any} (hk:a.kd=1) (hN:NewA 1 [0] 0 0 0 0 0 0 a):
  (newM a).cnt zE 3=3∧((newM a).runs zE 3).a.s.stI 0=2∧∃ e0 e1 e2:Ent,((newM a).runs zE 3).tr=[e0,e1,e2]∧e0.k=1∧e1.k=2∧e2.k=4:=by
 cases a with
 |tk L f=>
  obtain ⟨rfl,h1,h2,_⟩:=hN
  cases L
  dsimp only at h1 h2
  subst h1 h2
  exact ⟨by rfl,by rfl,_,_,_,by rfl,by rfl,by rfl,by rfl⟩
 |_=>cases hk
theorem aw_D {a:Any} (hN:NewA 1 [0] 0 0 0 0 0 0 a):a.ps.D=[]:=hN.zero.2.2
theorem ma_awake (w:World):Calls prog 18 #[] w (AwkPost w):=by
 have cN:=nw_good (kd:=1) (sa:=some ⟨w.heap.size,0,none⟩) (n:=1) (cap:=1) (v:=0) (sz:=0) (pl:=0) (B:=0) (G:=0) (D:=0) λX k=>bn_any (zs:=[0]) (by rfl) (by decide) ((row_1z w).after k) (Nat.lt_of_lt_of_le (by rw [nblk_alloc];exact Nat.lt_succ_self _) k.size) ⟨Int.le_refl 0,by decide⟩
 go_enter func18,ntmps18
 go_upto_region 4 with (go_at_call 19;(with_reducible refine cN.mono ?_);intro e w2 hq;unfold MnPost at hq;obtain ⟨a,m,sb,rfl,⟨hk,hN⟩,hM⟩:=hq;have H2:=Lib.hid (And.intro hk (And.intro hN hM));clear hk hN hM cN)
 obtain ⟨w3,hw3⟩:∃ w3,w3=w2.alloc (.cells #[.int .i64 3,.int .i64 0,.int .i64 (-1),.int .i64 1,.int .i64 0,.int .i64 0,.int .i64 1,.int .i64 0,.int .i64 0] 67):=⟨_,rfl⟩
 obtain ⟨hk,hN,hM⟩:=H2.out
 have hW:Wr Nil w2 w3:=by rw [hw3];exact (Wr.refl _ _).alloc _
 have hB:w3.heap[w2.heap.size]? =some (.cells #[.int .i64 3,.int .i64 0,.int .i64 (-1),.int .i64 1,.int .i64 0,.int .i64 0,.int .i64 1,.int .i64 0,.int .i64 0] 67 (0,0)):=by rw [hw3];exact blk_alloc_new _ _
 have hM3:=hM.after hW
 have hlow:a.q.k3≤m∧a.q.k3≤sb∧m≠sb∧m<w2.heap.size∧sb<w2.heap.size:=hM.low
 have htop:=hM.lk.top
 have hE:∀ W tv' s',McAt (w.alloc (.cells #[.int .i64 0] 3)) w2.heap.size W m sb s' tv'→Went a.q m sb w3 (.slice none 0 0) W tv'→EvAt W (some ⟨w2.heap.size,0,none⟩) 3 zE:=λW tv' _ _ h=> .inr ⟨w2.heap.size,0,rfl,λi hi j hj=>by
  have hk:=(h.wr.block _ (blk_lt hB) λe=>by
   rcases e with e|e|e|e
   ·omega
   ·omega
   ·omega
   ·cases e).trans hB
  rw [blk_cell hk]
  match i,hi,j,hj with
  |0,_,0,_=>rfl
  |0,_,1,_=>rfl
  |0,_,2,_=>rfl
  |1,_,0,_=>rfl
  |1,_,1,_=>rfl
  |1,_,2,_=>rfl
  |2,_,0,_=>rfl
  |2,_,1,_=>rfl
  |2,_,2,_=>rfl⟩
 have cR:=mc_run (cap:=3) hM3 (newM_few a (aw_D hN)) (n:=3) (by decide) hE
 obtain ⟨v1,v2,e0,e1,e2,v3,v4,v5,v6⟩:=aw_val hk hN
 rw [v1] at cR
 have hF:=(newM_few a (aw_D hN)).runs zE 3
 have hWw:=hM.lk.wr.nil hW
 have H3:=Lib.hid hw3
 have HV:=Lib.hid (And.intro v2 (And.intro v3 (And.intro v4 (And.intro v5 (And.intro v6 (And.intro hF hM.lk.wr))))))
 clear hw3 hk hN hM hW hB hM3 hlow htop hE v1 v2 v3 v4 v5 v6 hF H2 hWw
 go_upto_region 6 with (first
  |(go_at_call 30;rw [←H3.out];(with_reducible refine cR.mono ?_);intro e w4 hq;unfold MPost at hq;obtain ⟨rfl,tv',hM,hWe⟩:=hq;have cT:=mc_trace hM (by have:=HV.out.2.2.2.2.2.1.tr;omega);have H4:=Lib.hid hM;clear hM hWe cR)
  |(go_at_call 26;(with_reducible refine cT.mono ?_);intro e w5 hq;unfold CtPost at hq;obtain ⟨sa,c,rfl,hr,hc1,hc2,hsa,hW5⟩:=hq;have H5:=Lib.hid (And.intro hr (And.intro hW5 (H4.out.after hW5)));clear hr hc1 hc2 hsa hW5 cT))
 obtain ⟨v2,v3,v4,v5,v6,_,hWw⟩:=HV.out
 obtain ⟨hr,hW5,hM5⟩:=H5.out
 rw [v3] at hr
 rw [v3]
 rcases hr.at (λx=>by simp [Ent.cells]) with h0|⟨gb,go,rfl,hcell⟩
 ·cases h0
 have y0:w5.cell? ⟨gb,go,none⟩=some (.int .i64 1):=by have h:=hcell 0 e0 rfl 0 (.int .i64 e0.k) rfl;rw [v4] at h;exact h
 have y1:w5.cell? ⟨gb,go+4,none⟩=some (.int .i64 2):=by have h:=hcell 1 e1 rfl 0 (.int .i64 e1.k) rfl;rw [v5] at h;exact h
 have y2:w5.cell? ⟨gb,go+8,none⟩=some (.int .i64 4):=by have h:=hcell 2 e2 rfl 0 (.int .i64 e2.k) rfl;rw [v6] at h;exact h
 have cS:=mc_state hM5 0
 rw [v2] at cS
 have HZ:=Lib.hid hM5.lk.wr
 have HW1:=Lib.hid ((Wr.refl Nil w).alloc (.cells #[.int .i64 0] 3))
 clear v2 v3 v4 v5 v6 hWw hr hW5 hM5 hcell HV H5 H4 H3
 go_wp2_with (go_at_call 24;(with_reducible refine cS.mono ?_);rintro e w6 ⟨rfl,rfl⟩)
 go_ret
 exact ⟨rfl,HW1.out.nil HZ.out⟩
def FnPost (w:World) (b:Bool) (e:Ending) (w':World):Prop:=e= .returned (.bool b)∧Wr Nil w w'
theorem fn_any {w:World} {n cap:Nat} {sa:Option Addr} {zs:List Int} {kd v sz pl B G D:Int} (hr:RowAt .i64 w sa n zs) (hn:n≤9223372036854775807) (s1:Option Addr) (len1 cap1:Nat) (h1:len1≤9223372036854775807) (most:Int):
  Calls prog 17 #[.agg #[.int .i64 kd,.slice sa n cap,.int .u32 v,.int .i64 sz,.int .i64 pl,.int .i64 B,.int .i64 G,.int .i64 D],.slice s1 len1 cap1,.int .i64 most] w (FnPost w (decide (n≤8∧chk kd n zs sz pl B G D=0∧(len1:Int)≤most))):=by
 obtain ⟨X,hX⟩:∃ X,X=w.alloc (.cells #[.int .i64 kd,.slice sa n cap,.int .u32 v,.int .i64 sz,.int .i64 pl,.int .i64 B,.int .i64 G,.int .i64 D] 25):=⟨_,rfl⟩
 have hWX:Wr Nil w X:=by rw [hX];exact (Wr.refl _ w).alloc _
 have hblk:X.heap[w.heap.size]? =some (.cells #[.int .i64 kd,.slice sa n cap,.int .u32 v,.int .i64 sz,.int .i64 pl,.int .i64 B,.int .i64 G,.int .i64 D] 25 (0,0)):=by rw [hX];exact blk_alloc_new _ _
 have x0:X.cell? ⟨w.heap.size,0,none⟩=some (.int .i64 kd):=(blk_cell hblk 0).trans rfl
 have x1:X.cell? ⟨w.heap.size,1,none⟩=some (.slice sa n cap):=(blk_cell hblk 1).trans rfl
 have x2:X.cell? ⟨w.heap.size,2,none⟩=some (.int .u32 v):=(blk_cell hblk 2).trans rfl
 have x3:X.cell? ⟨w.heap.size,3,none⟩=some (.int .i64 sz):=(blk_cell hblk 3).trans rfl
 have x4:X.cell? ⟨w.heap.size,4,none⟩=some (.int .i64 pl):=(blk_cell hblk 4).trans rfl
 have x5:X.cell? ⟨w.heap.size,5,none⟩=some (.int .i64 B):=(blk_cell hblk 5).trans rfl
 have x6:X.cell? ⟨w.heap.size,6,none⟩=some (.int .i64 G):=(blk_cell hblk 6).trans rfl
 have x7:X.cell? ⟨w.heap.size,7,none⟩=some (.int .i64 D):=(blk_cell hblk 7).trans rfl
 have rX:=hr.after hWX
 have cK:=λW (k:Wr Nil X W)=>ck_any (cap:=cap) (kd:=kd) (v:=v) (sz:=sz) (pl:=pl) (B:=B) (G:=G) (D:=D) (rX.after k) hn
 obtain ⟨x,hx⟩:∃ x,x=chk kd n zs sz pl B G D:=⟨_,rfl⟩
 rw [←hx] at cK ⊢
 have HW:=Lib.hid hWX
 have HX:=Lib.hid hX
 have HK:=Lib.hid cK
 clear hX hblk rX hr cK hx hWX
 by_cases n8:n≤8
 ·have n8I:(n:Int)≤8:=by omega
  by_cases x0':x=0
  ·by_cases hm:(len1:Int)≤most
   ·rw [decide_eq_true ⟨n8,x0',hm⟩]
    subst x0'
    go_enter func17,ntmps17
    go_upto_region 1 with fail
    rw [←HX.out]
    go_wp2_with (first
     |(go_at_call 13;(with_reducible refine (rf_any _ _ _ _ _ _ _ _ _ _ _).mono ?_);rintro e w3 ⟨rfl,hR3⟩;have HR:=Lib.hid hR3;clear hR3)
     |(go_at_call 12;(with_reducible refine (HK.out _ HR.out).mono ?_);intro e w4 hq;unfold CkPost at hq;obtain ⟨rfl,hR4⟩:=hq;have H4:=Lib.hid (HR.out.nil hR4);clear hR4))
    go_ret
    exact ⟨rfl,HW.out.nil H4.out⟩
   ·rw [decide_eq_false λh=>hm h.2.2]
    subst x0'
    have hm':decide ((len1:Int)≤most)=false:=decide_eq_false hm
    go_enter func17,ntmps17
    go_upto_region 1 with fail
    rw [←HX.out]
    go_wp2_with (first
     |(go_at_call 13;(with_reducible refine (rf_any _ _ _ _ _ _ _ _ _ _ _).mono ?_);rintro e w3 ⟨rfl,hR3⟩;have HR:=Lib.hid hR3;clear hR3)
     |(go_at_call 12;(with_reducible refine (HK.out _ HR.out).mono ?_);intro e w4 hq;unfold CkPost at hq;obtain ⟨rfl,hR4⟩:=hq;have H4:=Lib.hid (HR.out.nil hR4);clear hR4))
    go_ret
    exact ⟨rfl,HW.out.nil H4.out⟩
  ·rw [decide_eq_false λh=>x0' h.2.1]
   have hne:(x==0)=false:=by simp [x0']
   have hnd:decide (x=0)=false:=decide_eq_false x0'
   go_enter func17,ntmps17
   go_upto_region 1 with fail
   rw [←HX.out]
   go_wp2_with (first
    |(go_at_call 13;(with_reducible refine (rf_any _ _ _ _ _ _ _ _ _ _ _).mono ?_);rintro e w3 ⟨rfl,hR3⟩;have HR:=Lib.hid hR3;clear hR3)
    |(go_at_call 12;(with_reducible refine (HK.out _ HR.out).mono ?_);intro e w4 hq;unfold CkPost at hq;obtain ⟨rfl,hR4⟩:=hq;have H4:=Lib.hid (HR.out.nil hR4);clear hR4))
   go_ret
   exact ⟨rfl,HW.out.nil H4.out⟩
 ·rw [decide_eq_false λh=>n8 h.1]
  have n8I:¬ (n:Int)≤8:=by omega
  clear x0 x2 x3 x4 x5 x6 x7 HK
  go_enter func17,ntmps17
  go_upto_region 1 with fail
  rw [←HX.out]
  go_wp2
  go_ret
  exact ⟨rfl,HW.out⟩
theorem fn_yes {n:Nat} {x m most:Int} (h:decide (n≤8∧x=0∧m≤most)=true):n≤8∧x=0∧m≤most:=of_decide_eq_true h
end Go.Proofs.YtcikfcplagelaaaGreat

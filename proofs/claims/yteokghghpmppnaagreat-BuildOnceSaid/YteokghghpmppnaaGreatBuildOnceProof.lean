import Derived.Test.YteokghghpmppnaaGreatBuOn
namespace Go.Proofs.YteokghghpmppnaaGreat.buildOnce
set_option maxHeartbeats 8000000
open _root_.Go.Proofs.Tryz Go.Deep
open Go.ChangeShapes Go.WideShapes Go.ChangeAt Go.RowKit
set_option linter.unusedVariables false
theorem own:ownKnob prog.godebug=none:=by kernel_rfl
theorem laidOut:laidOutB prog=true:=by kernel_rfl
set_option maxRecDepth 100000 in
theorem walk (a0_0:Int) (s0_1:Option Addr) (len0_1 cap0_1:Nat) (z0_1:List Int) (a0_2:Int) (a0_3:Int) (a0_4:Int) (a0_5:Int) (a0_6:Int) (a0_7:Int) (w:World) (w0_0:(Lit.int .i64 a0_0).wf=true) (l0_1:len0_1≤cap0_1∧cap0_1≤maxLen∧(s0_1=none→cap0_1=0)) (r0_1:RowAt .i64 w s0_1 len0_1 z0_1) (w0_1:∀ z∈z0_1,(Lit.int .i64 z).wf=true) (w0_2:(Lit.int .u32 a0_2).wf=true) (w0_3:(Lit.int .i64 a0_3).wf=true) (w0_4:(Lit.int .i64 a0_4).wf=true) (w0_5:(Lit.int .i64 a0_5).wf=true) (w0_6:(Lit.int .i64 a0_6).wf=true) (w0_7:(Lit.int .i64 a0_7).wf=true):
  Calls prog 5 #[.agg #[.int .i64 a0_0,.slice s0_1 len0_1 cap0_1,.int .u32 a0_2,.int .i64 a0_3,.int .i64 a0_4,.int .i64 a0_5,.int .i64 a0_6,.int .i64 a0_7]] w λe w'=>e= .returned (.bool true)∧Below w.heap.size w w':=by
 have hm0:len0_1≤9223372036854775807:=by have:=l0_1.1;have:=l0_1.2.1;unfold maxLen at this;omega
 obtain ⟨v0,v1⟩:=u32_bd w0_2
 obtain ⟨X,hX⟩:∃ X,X=w.alloc (.cells #[.int .i64 a0_0,.slice s0_1 len0_1 cap0_1,.int .u32 a0_2,.int .i64 a0_3,.int .i64 a0_4,.int .i64 a0_5,.int .i64 a0_6,.int .i64 a0_7] 25):=⟨_,rfl⟩
 have hWX:Wr Nil w X:=by rw [hX];exact (Wr.refl _ w).alloc _
 have hblk:X.heap[w.heap.size]? =some (.cells #[.int .i64 a0_0,.slice s0_1 len0_1 cap0_1,.int .u32 a0_2,.int .i64 a0_3,.int .i64 a0_4,.int .i64 a0_5,.int .i64 a0_6,.int .i64 a0_7] 25 (0,0)):=by rw [hX];exact blk_alloc_new _ _
 have x0:X.cell? ⟨w.heap.size,0,none⟩=some (.int .i64 a0_0):=(blk_cell hblk 0).trans rfl
 have x1:X.cell? ⟨w.heap.size,1,none⟩=some (.slice s0_1 len0_1 cap0_1):=(blk_cell hblk 1).trans rfl
 have x2:X.cell? ⟨w.heap.size,2,none⟩=some (.int .u32 a0_2):=(blk_cell hblk 2).trans rfl
 have x3:X.cell? ⟨w.heap.size,3,none⟩=some (.int .i64 a0_3):=(blk_cell hblk 3).trans rfl
 have x4:X.cell? ⟨w.heap.size,4,none⟩=some (.int .i64 a0_4):=(blk_cell hblk 4).trans rfl
 have x5:X.cell? ⟨w.heap.size,5,none⟩=some (.int .i64 a0_5):=(blk_cell hblk 5).trans rfl
 have x6:X.cell? ⟨w.heap.size,6,none⟩=some (.int .i64 a0_6):=(blk_cell hblk 6).trans rfl
 have x7:X.cell? ⟨w.heap.size,7,none⟩=some (.int .i64 a0_7):=(blk_cell hblk 7).trans rfl
 have HX:=Lib.hid hX
 have rX:=r0_1.after hWX
 have HW:=Lib.hid hWX
 have Hblk:=Lib.hid hblk
 clear hX hblk
 have cK:=λW (k:Wr Nil X W)=>ck_any (cap:=cap0_1) (kd:=a0_0) (v:=a0_2) (sz:=a0_3) (pl:=a0_4) (B:=a0_5) (G:=a0_6) (D:=a0_7) (rX.after k) hm0
 clear w0_0 w0_1 w0_2 w0_3 w0_4 w0_5 w0_6 w0_7 hWX
 by_cases hbig:80<len0_1
 ·have hb1:(80:Int)<(len0_1:Nat):=by omega
  clear cK r0_1 rX
  go_enter func5,ntmps5
  go_upto_region 1 with fail
  rw [←HX.out]
  go_wp2_with (first|(go_at_call 10;(with_reducible refine (fl_awake _).mono ?_);intro e w9 hq;unfold AwkPost at hq;obtain ⟨rfl,hW9⟩:=hq))
  go_ret
  exact ⟨rfl,(HW.out.nil hW9).law⟩
 have hlen:len0_1≤80:=by omega
 have hb1:¬ (80:Int)<(len0_1:Nat):=by omega
 clear hbig
 obtain ⟨x,hx⟩:∃ x,x=chk a0_0 len0_1 z0_1 a0_3 a0_4 a0_5 a0_6 a0_7:=⟨_,rfl⟩
 rw [←hx] at cK
 have HK:=Lib.hid cK
 clear cK
 have HR0:=Lib.hid rX
 have Hx:=Lib.hid hx
 have Hv:=Lib.hid (And.intro v0 v1)
 have Hn:=Lib.hid hlen
 clear rX r0_1 hx v0 v1 hlen l0_1 hm0
 rcases s0_1 with _|ad
 ·have hl0:len0_1=0:=HR0.out.empty rfl
  have hz0:z0_1=[]:=List.eq_nil_of_length_eq_zero (HR0.out.len.trans hl0)
  subst hl0 hz0
  have h0:x≠0:=by rw [Hx.out];exact chk_0
  go_enter func5,ntmps5
  go_upto_region 1 with fail
  rw [←HX.out]
  go_upto_region 5 with (first
    |(go_at_call 9;(with_reducible refine (rf_any _ _ _ _ _ _ _ _ _ _ _).mono ?_);rintro e w3 ⟨rfl,hR3⟩;have HR:=Lib.hid hR3;clear hR3)
    |(go_at_call 8;(with_reducible refine (HK.out _ HR.out).mono ?_);intro e w4 hq;unfold CkPost at hq;obtain ⟨rfl,hR4⟩:=hq;have H4:=Lib.hid (HR.out.nil hR4);clear hR4 HR;have ya0:=H4.out.old x0;have ya1:=H4.out.old x1;have ya2:=H4.out.old x2;have ya3:=H4.out.old x3;have ya4:=H4.out.old x4;have ya5:=H4.out.old x5;have ya6:=H4.out.old x6;have ya7:=H4.out.old x7))
  obtain ⟨O,hO⟩:∃ O,O=w4.heap.size:=⟨_,rfl⟩
  obtain ⟨w5,hw5⟩:∃ w5,w5=w4.alloc (.cells #[.int .i64 a0_0,.slice none 0 cap0_1,.int .u32 a0_2,.int .i64 a0_3,.int .i64 a0_4,.int .i64 a0_5,.int .i64 a0_6,.int .i64 a0_7] 25):=⟨_,rfl⟩
  have hk5:w5.heap[O]? =some (.cells #[.int .i64 a0_0,.slice none 0 cap0_1,.int .u32 a0_2,.int .i64 a0_3,.int .i64 a0_4,.int .i64 a0_5,.int .i64 a0_6,.int .i64 a0_7] 25 (0,0)):=by rw [hw5,hO];exact blk_alloc_new _ _
  have hW5:Wr Nil w4 w5:=by rw [hw5];exact (Wr.refl _ w4).alloc _
  have hs5:w5.heap.size=O+1:=by rw [hw5,hO];exact nblk_alloc _ _
  rw [←hw5,←hO]
  have yb0:w5.cell? ⟨w.heap.size,1,none⟩=some (.slice none 0 cap0_1):=hW5.old ya1
  have yb1:(w5.alloc (.cells #[] 3)).cell? ⟨w.heap.size,1,none⟩=some (.slice none 0 cap0_1):=((Wr.refl Nil w5).alloc _).old yb0
  have H5:=Lib.hid (And.intro hk5 (And.intro hW5 (And.intro hs5 hO)))
  clear hw5 hk5 hW5 hs5 hO ya0 ya1 ya2 ya3 ya4 ya5 ya6 ya7 x0 x1 x2 x3 x4 x5 x6 x7
  obtain ⟨i0,hi,hz0,hz1,hz2⟩:=info_parts i_int9
  have eapp:∀ ty c,Sem.run prog (Builtin.append_ #[22,22] ty #[Value.slice (some ⟨w5.heap.size,0,none⟩) 0 c,Value.slice none 0 cap0_1]) (w5.alloc (.cells #[] 3))= .ok (.slice (some ⟨w5.heap.size,0,none⟩) 0 c) (w5.alloc (.cells #[] 3)):=λty c=>run_append_room_src (P:=prog) _ 22 22 ty 3 i0 underlying22 hi _ _ _ _ _ _ _ (Src.ofNil _ underlying22 _) (by omega) (λj hj=>absurd hj (Nat.not_lt_zero j)) (λj hj=>absurd hj (Nat.not_lt_zero j))
  have hkO0:(w5.alloc (.cells #[] 3)).heap[O]? =some (.cells #[.int .i64 a0_0,.slice none 0 cap0_1,.int .u32 a0_2,.int .i64 a0_3,.int .i64 a0_4,.int .i64 a0_5,.int .i64 a0_6,.int .i64 a0_7] 25 (0,0)):=(((Wr.refl Nil w5).alloc _).block _ (blk_lt H5.out.1) id).trans H5.out.1
  have z1:(w5.alloc (.cells #[] 3)).cell? ⟨O,1,none⟩=some (.slice none 0 cap0_1):=(blk_cell hkO0 1).trans rfl
  have zf:(w5.alloc (.cells #[] 3)).frozen? ⟨O,1,none⟩=false:=blk_frozen hkO0 1
  clear hkO0
  go_upto_region 6 with fail
  obtain ⟨g,w6,eg,ew,hr6,hg1,hg2,hk6,hW6⟩:=on_app0 (w5:=w5)
  clear eapp hi hz0 hz1 hz2 yb1 z1 zf
  rw [←ew,←eg]
  clear ew eg
  obtain ⟨hk5,hW5,hs5,hO⟩:=H5.out
  have hkO:=(hW6.block _ (blk_lt hk5) id).trans hk5
  have z0:=(blk_cell hkO 0).trans rfl
  have z1:=(blk_cell hkO 1).trans rfl
  have z2:=(blk_cell hkO 2).trans rfl
  have z3:=(blk_cell hkO 3).trans rfl
  have z4:=(blk_cell hkO 4).trans rfl
  have z5:=(blk_cell hkO 5).trans rfl
  have z6:=(blk_cell hkO 6).trans rfl
  have z7:=(blk_cell hkO 7).trans rfl
  have zf:=blk_frozen hkO 1
  have yc0:=hW6.old yb0
  have HA:=Lib.hid (And.intro hr6 (And.intro hg1 (And.intro hg2 (And.intro hk6 (And.intro hW6 (And.intro hkO (And.intro hW5 (And.intro hs5 hO))))))))
  clear hr6 hg1 hg2 hk6 hW6 hk5 hW5 hs5 hO hkO H5 yb0
  obtain ⟨w7,hw7⟩:∃ w7,w7=w6.setCell ⟨O,1,none⟩ (.slice (some ⟨g,0,none⟩) 0 0):=⟨_,rfl⟩
  have hS7:Wr (One O) w6 w7:=by rw [hw7];exact (Wr.refl _ w6).setCell _ _ λ_=>rfl
  have t0:w7.cell? ⟨O,0,none⟩=some (.int .i64 a0_0):=by rw [hw7];go_simp
  have t1:w7.cell? ⟨O,1,none⟩=some (.slice (some ⟨g,0,none⟩) 0 0):=by rw [hw7];go_simp
  have t2:w7.cell? ⟨O,2,none⟩=some (.int .u32 a0_2):=by rw [hw7];go_simp
  have t3:w7.cell? ⟨O,3,none⟩=some (.int .i64 a0_3):=by rw [hw7];go_simp
  have t4:w7.cell? ⟨O,4,none⟩=some (.int .i64 a0_4):=by rw [hw7];go_simp
  have t5:w7.cell? ⟨O,5,none⟩=some (.int .i64 a0_5):=by rw [hw7];go_simp
  have t6:w7.cell? ⟨O,6,none⟩=some (.int .i64 a0_6):=by rw [hw7];go_simp
  have t7:w7.cell? ⟨O,7,none⟩=some (.int .i64 a0_7):=by rw [hw7];go_simp
  rw [←hw7]
  obtain ⟨hr6,hg1,hg2,hk6,hW6,hkO,hW5,hs5,hO⟩:=HA.out
  have hOg:O<g:=by omega
  have hgs:w4.heap.size≤g:=by have:=hW5.size;omega
  have hr7:=hr6.wrote hS7 λb' e' h=>by cases e';unfold One at h;dsimp only at h;omega
  have hk7:∃ cs,w7.heap[g]? =some (.cells cs 3 (0,0)):=by obtain ⟨cs,h⟩:=hk6;exact ⟨cs,(hS7.block _ (blk_lt h) λh=>by unfold One at h;omega).trans h⟩
  have hW7:Wr Nil w4 w7:=(hW5.nil hW6).trans hS7 λj hj e=>by unfold One at e;unfold Nil;omega
  have cL:=later_any (c:=0) (kd:=a0_0) (v:=a0_2) (sz:=a0_3) (pl:=a0_4) (B:=a0_5) (G:=a0_6) (D:=a0_7) hr7 (by have:=Hn.out;omega)
  have H7:=Lib.hid (And.intro hr7 (And.intro hk7 (And.intro t1 (And.intro hOg (And.intro hgs hW7)))))
  clear hw7 hS7 hr6 hg1 hg2 hk6 hW6 hkO hW5 hs5 hO hOg hgs hr7 hk7 hW7 HA z0 z1 z2 z3 z4 z5 z6 z7 zf yc0
  go_upto_region 9 with (first
   |(go_at_call 16;(with_reducible refine cL.mono ?_);intro e w8 hq;unfold LtPost at hq;obtain ⟨b,sa,c1,rfl,hM,hr8,hb8,hs8,hW8⟩:=hq;have cM:=md_any hM;have t8:=hW8.old t1;have H8:=Lib.hid (OnS.mk0 hM hr8 H7.out.1 H7.out.2.1 hb8 hs8 H7.out.2.2.1 H7.out.2.2.2.1 H7.out.2.2.2.2.1 H7.out.2.2.2.2.2 hW8);have Hb:=Lib.hid (And.intro hb8 (And.intro hs8 (H7.out.2.2.2.2.2.size)));clear hM hr8 hb8 hs8 hW8 cL)
   |(go_at_call 17;(with_reducible refine cM.mono ?_);rintro e w9 ⟨rfl,rfl⟩))
  clear t0 t1 t2 t3 t4 t5 t6 t7 cM H7
  go_wp2
  clear t8
  go_loopw [39] (λi wr=>∃ k:Nat,k≤0∧i= .int .i64 k∧OnS w4 b O g 0 0 sa [] (cfOf a0_0 (.slice sa 0 c1) a0_2 a0_3 a0_4 a0_5 a0_6 a0_7) wr) (λi _=>0-(intOf i).toNat)
  case atStart=>exact ⟨0,Nat.zero_le _,rfl,H8.out⟩
  case round=>
   clear H8
   obtain ⟨k,hk,rfl,hst⟩:=hrel
   by_cases hlt:k<0
   ·exact absurd hlt (Nat.not_lt_zero k)
   have hkE:k=0:=by omega
   subst hkE
   have HD:=Lib.hid hst
   have cB:=on_bad1 hst.mkr hst.row (λy hy=>(Hb.out.2.1 y hy).2) Hx.out.symm h0 (by have:=Hn.out;omega)
   have hne:(x != 0)=true:=by simp [h0]
   have hwb:w4.heap.size≤b:=Nat.le_trans Hb.out.2.2 Hb.out.1
   have HE:=Lib.hid (And.intro hwb h0)
   clear hst hwb h0
   go_wp2_with (first
    |(go_at_call 18;(with_reducible refine cB.mono ?_);intro e w10 hq;unfold On0 at hq;obtain ⟨rfl,hM,hW⟩:=hq;have cB2:=lk_N2 hM;have cM:=λW (k:Wr Nil w10 W)=>md_any (hM.after k);have H10:=Lib.hid hW;clear hM hW cB)
    |(go_at_call 18;(with_reducible refine cB2.mono ?_);rintro e w11 ⟨rfl,hW⟩;have cM2:=cM _ hW;have H11:=Lib.hid hW;clear hW cB2 cM)
    |(go_at_call 17;(with_reducible refine cM2.mono ?_);rintro e w12 ⟨rfl,rfl⟩)
    |(go_at_call 10;(with_reducible refine (fl_awake _).mono ?_);intro e w9 hq;unfold AwkPost at hq;obtain ⟨rfl,hW9⟩:=hq))
   go_ret
   exact ⟨rfl,(HW.out.nil (H4.out.nil (((HD.out.wrt.trans H10.out λj hj e=>by have:=HE.out.1;unfold One at e;unfold Nil;omega).nil H11.out).nil hW9))).law⟩
 ·go_enter func5,ntmps5
  go_upto_region 1 with fail
  rw [←HX.out]
  go_upto_region 5 with (first
    |(go_at_call 9;(with_reducible refine (rf_any _ _ _ _ _ _ _ _ _ _ _).mono ?_);rintro e w3 ⟨rfl,hR3⟩;have HR:=Lib.hid hR3;clear hR3)
    |(go_at_call 8;(with_reducible refine (HK.out _ HR.out).mono ?_);intro e w4 hq;unfold CkPost at hq;obtain ⟨rfl,hR4⟩:=hq;have H4:=Lib.hid (HR.out.nil hR4);clear hR4 HR;have ya0:=H4.out.old x0;have ya1:=H4.out.old x1;have ya2:=H4.out.old x2;have ya3:=H4.out.old x3;have ya4:=H4.out.old x4;have ya5:=H4.out.old x5;have ya6:=H4.out.old x6;have ya7:=H4.out.old x7))
  obtain ⟨O,hO⟩:∃ O,O=w4.heap.size:=⟨_,rfl⟩
  obtain ⟨w5,hw5⟩:∃ w5,w5=w4.alloc (.cells #[.int .i64 a0_0,.slice (some ad) len0_1 cap0_1,.int .u32 a0_2,.int .i64 a0_3,.int .i64 a0_4,.int .i64 a0_5,.int .i64 a0_6,.int .i64 a0_7] 25):=⟨_,rfl⟩
  have hk5:w5.heap[O]? =some (.cells #[.int .i64 a0_0,.slice (some ad) len0_1 cap0_1,.int .u32 a0_2,.int .i64 a0_3,.int .i64 a0_4,.int .i64 a0_5,.int .i64 a0_6,.int .i64 a0_7] 25 (0,0)):=by rw [hw5,hO];exact blk_alloc_new _ _
  have hW5:Wr Nil w4 w5:=by rw [hw5];exact (Wr.refl _ w4).alloc _
  have hs5:w5.heap.size=O+1:=by rw [hw5,hO];exact nblk_alloc _ _
  rw [←hw5,←hO]
  have yb0:w5.cell? ⟨w.heap.size,1,none⟩=some (.slice (some ad) len0_1 cap0_1):=hW5.old ya1
  have yb1:(w5.alloc (.cells #[] 3)).cell? ⟨w.heap.size,1,none⟩=some (.slice (some ad) len0_1 cap0_1):=((Wr.refl Nil w5).alloc _).old yb0
  have H5:=Lib.hid (And.intro hk5 (And.intro hW5 (And.intro hs5 hO)))
  clear hw5 hk5 hW5 hs5 hO ya0 ya1 ya2 ya3 ya4 ya5 ya6 ya7 x0 x1 x2 x3 x4 x5 x6 x7
  obtain ⟨i0,hi,hz0,hz1,hz2⟩:=info_parts i_int9
  go_wp2_with (at_builtin;refine wpList_append_own _ rfl _ _ 22 rfl w5.heap.size 3 i0 (.int .i64 0) 1 8 underlying22 hi hz0 hz1 hz2 rfl (by decide) _ _ _ rfl (World.ownsRow_made w5 #[] 0 (Nat.le_refl _) (Nat.zero_le _) rfl) ad len0_1 cap0_1 (z0_1.map (Value.int .i64)) rfl ?qc1 ?qc2 ?qc3 ?qc4 ?qc5 ?qc6 ?_)
  case qc1=>rw [List.length_map,HR0.out.len,Nat.mul_one]
  case qc2=>intro j u hj;exact (((H4.out.nil H5.out.2.1).nil ((Wr.refl Nil w5).alloc _))).old (HR0.out.news _ rfl j u hj)
  case qc3=>intro u hu;obtain ⟨y,_,rfl⟩:=List.mem_map.1 hu;rfl
  case qc4=>have:=Hn.out;unfold maxLen;omega
  case qc5=>have:=Hn.out;omega
  case qc6=>exact ((Wr.refl Nil w5).alloc _).size
  intro v' w6 hown hgrow hnil
  have hA:OnA w4 w5 len0_1 z0_1 v' w6:=on_app (by simpa using hown) hgrow (by intro j hj;simp [Value.ownBlock] at hj;omega) hnil
  clear hown hgrow hnil hi hz0 hz1 hz2
  obtain ⟨g,c,rfl,hr6,hg1,hg2,hk6,hW6⟩:=hA
  obtain ⟨hk5,hW5,hs5,hO⟩:=H5.out
  have hkO:=(hW6.block _ (blk_lt hk5) id).trans hk5
  have z0:=(blk_cell hkO 0).trans rfl
  have z1:=(blk_cell hkO 1).trans rfl
  have z2:=(blk_cell hkO 2).trans rfl
  have z3:=(blk_cell hkO 3).trans rfl
  have z4:=(blk_cell hkO 4).trans rfl
  have z5:=(blk_cell hkO 5).trans rfl
  have z6:=(blk_cell hkO 6).trans rfl
  have z7:=(blk_cell hkO 7).trans rfl
  have zf:=blk_frozen hkO 1
  have yc0:=hW6.old yb0
  have HA:=Lib.hid (And.intro hr6 (And.intro hg1 (And.intro hg2 (And.intro hk6 (And.intro hW6 (And.intro hkO (And.intro hW5 (And.intro hs5 hO))))))))
  clear hr6 hg1 hg2 hk6 hW6 hk5 hW5 hs5 hO hkO H5 yb0
  go_upto_region 6 with fail
  by_cases h0:x=0
  ·obtain ⟨ho,n1,n2⟩:=chk_ok (Hx.out.symm.trans h0)
   rcases HR0.out.at with e0|⟨ab,ao,had,_⟩
   ·omega
   obtain rfl:ad=⟨ab,ao,none⟩:=by injection had
   clear had
   obtain ⟨w7,hw7⟩:∃ w7,w7=w6.setCell ⟨O,1,none⟩ (.slice (some ⟨g,0,none⟩) len0_1 c):=⟨_,rfl⟩
   have hS7:Wr (One O) w6 w7:=by rw [hw7];exact (Wr.refl _ w6).setCell _ _ λ_=>rfl
   have t0:w7.cell? ⟨O,0,none⟩=some (.int .i64 a0_0):=by rw [hw7];go_simp
   have t1:w7.cell? ⟨O,1,none⟩=some (.slice (some ⟨g,0,none⟩) len0_1 c):=by rw [hw7];go_simp
   have t2:w7.cell? ⟨O,2,none⟩=some (.int .u32 a0_2):=by rw [hw7];go_simp
   have t3:w7.cell? ⟨O,3,none⟩=some (.int .i64 a0_3):=by rw [hw7];go_simp
   have t4:w7.cell? ⟨O,4,none⟩=some (.int .i64 a0_4):=by rw [hw7];go_simp
   have t5:w7.cell? ⟨O,5,none⟩=some (.int .i64 a0_5):=by rw [hw7];go_simp
   have t6:w7.cell? ⟨O,6,none⟩=some (.int .i64 a0_6):=by rw [hw7];go_simp
   have t7:w7.cell? ⟨O,7,none⟩=some (.int .i64 a0_7):=by rw [hw7];go_simp
   rw [←hw7]
   obtain ⟨hr6,hg1,hg2,hk6,hW6,hkO,hW5,hs5,hO⟩:=HA.out
   have hOg:O<g:=by omega
   have hgs:w4.heap.size≤g:=by have:=hW5.size;omega
   have hr7:=hr6.wrote hS7 λb' e' h=>by cases e';unfold One at h;dsimp only at h;omega
   have hk7:∃ cs,w7.heap[g]? =some (.cells cs 3 (0,0)):=by obtain ⟨cs,h⟩:=hk6;exact ⟨cs,(hS7.block _ (blk_lt h) λh=>by unfold One at h;omega).trans h⟩
   have hW7:Wr Nil w4 w7:=(hW5.nil hW6).trans hS7 λj hj e=>by unfold One at e;unfold Nil;omega
   have cL:=later_any (c:=c) (kd:=a0_0) (v:=a0_2) (sz:=a0_3) (pl:=a0_4) (B:=a0_5) (G:=a0_6) (D:=a0_7) hr7 (by have:=Hn.out;omega)
   have H7:=Lib.hid (And.intro hr7 (And.intro hk7 (And.intro t1 (And.intro hOg (And.intro hgs hW7)))))
   clear hw7 hS7 hr6 hg1 hg2 hk6 hW6 hkO hW5 hs5 hO hOg hgs hr7 hk7 hW7 HA z0 z1 z2 z3 z4 z5 z6 z7 zf yc0
   go_upto_region 9 with (first
    |(go_at_call 16;(with_reducible refine cL.mono ?_);intro e w8 hq;unfold LtPost at hq;obtain ⟨b,sa,c1,rfl,hM,hr8,hb8,hs8,hW8⟩:=hq;have cM:=md_any hM;have t8:=hW8.old t1;have H8:=Lib.hid (OnS.mk0 hM hr8 H7.out.1 H7.out.2.1 hb8 hs8 H7.out.2.2.1 H7.out.2.2.2.1 H7.out.2.2.2.2.1 H7.out.2.2.2.2.2 hW8);have Hb:=Lib.hid (And.intro hb8 (And.intro hs8 (H7.out.2.2.2.2.2.size)));clear hM hr8 hb8 hs8 hW8 cL)
    |(go_at_call 17;(with_reducible refine cM.mono ?_);rintro e w9 ⟨rfl,rfl⟩))
   clear t0 t1 t2 t3 t4 t5 t6 t7 cM H7
   go_wp2
   clear t8
   go_loopw [39] (λi wr=>∃ k:Nat,k≤len0_1∧i= .int .i64 k∧OnS w4 b O g len0_1 c sa z0_1 (cfOf a0_0 (.slice sa len0_1 c1) a0_2 a0_3 a0_4 a0_5 a0_6 a0_7) wr) (λi _=>len0_1-(intOf i).toNat)
   case atStart=>exact ⟨0,Nat.zero_le _,rfl,H8.out⟩
   case round=>
    clear H8
    obtain ⟨k,hk,rfl,hst⟩:=hrel
    by_cases hlt:k<len0_1
    ·have hkI:(k:Int)<len0_1:=by omega
     have q1:=hst.box
     obtain ⟨z,q2⟩:=hst.own k hlt
     have q3:=hst.fz k
     have HD:=Lib.hid hst
     clear hst
     go_wp2
     go_roundw
     case rel=>exact ⟨k+1,by omega,by go_num,HD.out.set hlt _⟩
     case measure=>simp [intOf];omega
    have hkE:k=len0_1:=by omega
    subst hkE
    have HD:=Lib.hid hst
    rcases hst.row.at with e0|⟨s,so,rfl,hc⟩
    ·omega
    have hs:s<wr.heap.size:=World.block_lt_of_cell? wr _ (hc 0 (by omega))
    have hwb:w4.heap.size≤b:=Nat.le_trans Hb.out.2.2 Hb.out.1
    have cB:=on_lk1 (X:=w4) hst.mkr hst.row hs (Hb.out.2.1 _ rfl).2 (Hx.out.symm.trans h0) (by have:=Hn.out;omega) Hv.out hst.wrt hwb
    subst h0
    clear hst hwb hc hs
    go_upto_region 20 with (first
     |(go_at_call 18;(with_reducible refine cB.mono ?_);intro e w10 hq;unfold On1 at hq;obtain ⟨a,rfl,hNA,hA,hM,hW⟩:=hq;have cB2:=lk_G2 (ty:=a.ty) (l:= .pointer (some ⟨a.lb,0,none⟩)) (p:=some ⟨a.q.p,0,none⟩) hM;have cM:=λW (k:Wr Nil w10 W)=>md_any (hM.after k);have H10:=Lib.hid (And.intro hNA hA);clear hNA hA hM hW cB;unfold Any.val)
     |(go_at_call 18;(with_reducible refine cB2.mono ?_);rintro e w11 ⟨rfl,hW⟩;have cM2:=cM _ hW;have H11:=Lib.hid (And.intro H10.out.1 (H10.out.2.after hW));clear hW cB2 cM H10)
     |(go_at_call 17;(with_reducible refine cM2.mono ?_);rintro e w12 ⟨rfl,rfl⟩))
    clear cM2
    obtain ⟨hh,ehh⟩:∃ hh:Int,hh=if a0_0=7 then 0 else z0_1.getD 0 0:=⟨_,rfl⟩
    have cH:∀ W,Wr Nil w11 W→Calls prog 19 #[.pointer (some ⟨a.q.m,0,none⟩),.int .i64 0] W λe w'=>e= .returned (.int .i64 hh)∧W=w':=λW k=>by
     have h:=home_any (H11.out.2.after k).port.mem 0
     rw [load_0,H11.out.1.2.home,H11.out.1.1,←ehh] at h
     exact h
    have cG:∀ W,Wr Nil w11 W→Calls prog 20 #[.agg #[.int .i64 a0_0,.slice (some ⟨ab,ao,none⟩) k cap0_1,.int .u32 a0_2,.int .i64 a0_3,.int .i64 a0_4,.int .i64 a0_5,.int .i64 a0_6,.int .i64 a0_7]] W λe w'=>e= .returned (.int .i64 hh)∧Wr Nil W w':=λW k=>by
     rw [ehh]
     exact on_home (HR0.out.after ((H4.out.nil H11.out.2.wr).nil k)) (by omega)
    have P0:w11.drew.cell? ⟨a.q.p,0,none⟩=some (.pointer (some ⟨a.q.m,0,none⟩)):=H11.out.2.port.cell0
    have hkX:=((H4.out.nil H11.out.2.wr).block _ (blk_lt Hblk.out) id).trans Hblk.out
    have P1:w11.drew.cell? ⟨w.heap.size,0,none⟩=some (.int .i64 a0_0):=(blk_cell hkX 0).trans rfl
    have P2:w11.drew.cell? ⟨w.heap.size,1,none⟩=some (.slice (some ⟨ab,ao,none⟩) k cap0_1):=(blk_cell hkX 1).trans rfl
    have P3:w11.drew.cell? ⟨w.heap.size,2,none⟩=some (.int .u32 a0_2):=(blk_cell hkX 2).trans rfl
    have P4:w11.drew.cell? ⟨w.heap.size,3,none⟩=some (.int .i64 a0_3):=(blk_cell hkX 3).trans rfl
    have P5:w11.drew.cell? ⟨w.heap.size,4,none⟩=some (.int .i64 a0_4):=(blk_cell hkX 4).trans rfl
    have P6:w11.drew.cell? ⟨w.heap.size,5,none⟩=some (.int .i64 a0_5):=(blk_cell hkX 5).trans rfl
    have P7:w11.drew.cell? ⟨w.heap.size,6,none⟩=some (.int .i64 a0_6):=(blk_cell hkX 6).trans rfl
    have P8:w11.drew.cell? ⟨w.heap.size,7,none⟩=some (.int .i64 a0_7):=(blk_cell hkX 7).trans rfl
    clear hkX ehh
    go_region_held3 (λw'=>w'.cell? ⟨a.q.p,0,none⟩=some (.pointer (some ⟨a.q.m,0,none⟩))∧w'.cell? ⟨w.heap.size,0,none⟩=some (.int .i64 a0_0)∧w'.cell? ⟨w.heap.size,1,none⟩=some (.slice (some ⟨ab,ao,none⟩) k cap0_1)∧w'.cell? ⟨w.heap.size,2,none⟩=some (.int .u32 a0_2)∧w'.cell? ⟨w.heap.size,3,none⟩=some (.int .i64 a0_3)∧w'.cell? ⟨w.heap.size,4,none⟩=some (.int .i64 a0_4)∧w'.cell? ⟨w.heap.size,5,none⟩=some (.int .i64 a0_5)∧w'.cell? ⟨w.heap.size,6,none⟩=some (.int .i64 a0_6)∧w'.cell? ⟨w.heap.size,7,none⟩=some (.int .i64 a0_7))
     (first|with_reducible exact ⟨r0,r1,r2,r3,r4,r5,r6,r7,r8⟩|with_reducible exact ⟨q0,q1,q2,q3,q4,q5,q6,q7,q8⟩|exact ⟨P0,P1,P2,P3,P4,P5,P6,P7,P8⟩)
     (first
     |(go_at_call 19;(with_reducible refine (cH _ ((Wr.refl Nil w11).drew)).mono ?_);rintro e w12 ⟨rfl,rfl⟩)
     |(go_at_call 20;(with_reducible refine (cG _ ((Wr.refl Nil w11).drew)).mono ?_);rintro e w12 ⟨rfl,hW⟩;have q0:=hW.old P0;have q1:=hW.old P1;have q2:=hW.old P2;have q3:=hW.old P3;have q4:=hW.old P4;have q5:=hW.old P5;have q6:=hW.old P6;have q7:=hW.old P7;have q8:=hW.old P8;have H12:=Lib.hid (H11.out.2.after (((Wr.refl Nil w11).drew).nil hW));clear hW))
    have hO:=on_s H12.out H11.out.1.2 n1 n2 HR0.out.len ho
    unfold Ons at hO
    obtain ⟨oL,oS,oA1,oA2,oT,oC⟩:=hO
    have c0:=H12.out.cell0
    have vL:=Any.via_lock c0
    have nL:=a.nil_lock
    have vS:=a.via_step
    have nS:=a.nil_step
    have nT:=a.nil_state
    have eS:=a.stepF_enter
    have hV:=λW h=>Any.via_state (oC W h)
    clear q0 q1 q2 q3 q4 q5 q6 q7 q8 P0 P1 P2 P3 P4 P5 P6 P7 P8 cH cG c0
    generalize a.stepF=sF at*
    go_wp2_with (first
     |(go_at_call 196;(with_reducible refine oL.mono ?_);rintro e w13 ⟨⟨y,rfl⟩,h1⟩;have cA:=oA1 _ h1;have cS:=oS _ h1;clear h1 oL oA1 oS vL nL)
     |(go_at_call 21;(with_reducible refine cA.mono ?_);rintro e w14 ⟨rfl,h9⟩;subst h9;clear cA)
     |(go_at_call 198;(with_reducible refine (oT _ H15.out).mono ?_);rintro e w16 ⟨rfl,rfl⟩)
     |(go_at_call 21;(with_reducible refine (oA2 _ H15.out).mono ?_);rintro e w17 ⟨rfl,h9⟩;subst h9)
     |(go_at_call 10;(with_reducible refine (fl_awake _).mono ?_);intro e w9 hq;unfold AwkPost at hq;obtain ⟨rfl,hW9⟩:=hq)
     |((with_reducible refine cS.mono ?_);rintro e w15 ⟨⟨y2,rfl⟩,h2⟩;have vT:=hV _ h2;have H15:=Lib.hid h2;clear h2 cS vS nS eS hV oC;unfold Dd.val))
    go_ret
    exact ⟨rfl,(HW.out.nil (H4.out.nil (H15.out.wr.nil hW9))).law⟩
  ·obtain ⟨w7,hw7⟩:∃ w7,w7=w6.setCell ⟨O,1,none⟩ (.slice (some ⟨g,0,none⟩) len0_1 c):=⟨_,rfl⟩
   have hS7:Wr (One O) w6 w7:=by rw [hw7];exact (Wr.refl _ w6).setCell _ _ λ_=>rfl
   have t0:w7.cell? ⟨O,0,none⟩=some (.int .i64 a0_0):=by rw [hw7];go_simp
   have t1:w7.cell? ⟨O,1,none⟩=some (.slice (some ⟨g,0,none⟩) len0_1 c):=by rw [hw7];go_simp
   have t2:w7.cell? ⟨O,2,none⟩=some (.int .u32 a0_2):=by rw [hw7];go_simp
   have t3:w7.cell? ⟨O,3,none⟩=some (.int .i64 a0_3):=by rw [hw7];go_simp
   have t4:w7.cell? ⟨O,4,none⟩=some (.int .i64 a0_4):=by rw [hw7];go_simp
   have t5:w7.cell? ⟨O,5,none⟩=some (.int .i64 a0_5):=by rw [hw7];go_simp
   have t6:w7.cell? ⟨O,6,none⟩=some (.int .i64 a0_6):=by rw [hw7];go_simp
   have t7:w7.cell? ⟨O,7,none⟩=some (.int .i64 a0_7):=by rw [hw7];go_simp
   rw [←hw7]
   obtain ⟨hr6,hg1,hg2,hk6,hW6,hkO,hW5,hs5,hO⟩:=HA.out
   have hOg:O<g:=by omega
   have hgs:w4.heap.size≤g:=by have:=hW5.size;omega
   have hr7:=hr6.wrote hS7 λb' e' h=>by cases e';unfold One at h;dsimp only at h;omega
   have hk7:∃ cs,w7.heap[g]? =some (.cells cs 3 (0,0)):=by obtain ⟨cs,h⟩:=hk6;exact ⟨cs,(hS7.block _ (blk_lt h) λh=>by unfold One at h;omega).trans h⟩
   have hW7:Wr Nil w4 w7:=(hW5.nil hW6).trans hS7 λj hj e=>by unfold One at e;unfold Nil;omega
   have cL:=later_any (c:=c) (kd:=a0_0) (v:=a0_2) (sz:=a0_3) (pl:=a0_4) (B:=a0_5) (G:=a0_6) (D:=a0_7) hr7 (by have:=Hn.out;omega)
   have H7:=Lib.hid (And.intro hr7 (And.intro hk7 (And.intro t1 (And.intro hOg (And.intro hgs hW7)))))
   clear hw7 hS7 hr6 hg1 hg2 hk6 hW6 hkO hW5 hs5 hO hOg hgs hr7 hk7 hW7 HA z0 z1 z2 z3 z4 z5 z6 z7 zf yc0
   go_upto_region 9 with (first
    |(go_at_call 16;(with_reducible refine cL.mono ?_);intro e w8 hq;unfold LtPost at hq;obtain ⟨b,sa,c1,rfl,hM,hr8,hb8,hs8,hW8⟩:=hq;have cM:=md_any hM;have t8:=hW8.old t1;have H8:=Lib.hid (OnS.mk0 hM hr8 H7.out.1 H7.out.2.1 hb8 hs8 H7.out.2.2.1 H7.out.2.2.2.1 H7.out.2.2.2.2.1 H7.out.2.2.2.2.2 hW8);have Hb:=Lib.hid (And.intro hb8 (And.intro hs8 (H7.out.2.2.2.2.2.size)));clear hM hr8 hb8 hs8 hW8 cL)
    |(go_at_call 17;(with_reducible refine cM.mono ?_);rintro e w9 ⟨rfl,rfl⟩))
   clear t0 t1 t2 t3 t4 t5 t6 t7 cM H7
   go_wp2
   clear t8
   go_loopw [39] (λi wr=>∃ k:Nat,k≤len0_1∧i= .int .i64 k∧OnS w4 b O g len0_1 c sa z0_1 (cfOf a0_0 (.slice sa len0_1 c1) a0_2 a0_3 a0_4 a0_5 a0_6 a0_7) wr) (λi _=>len0_1-(intOf i).toNat)
   case atStart=>exact ⟨0,Nat.zero_le _,rfl,H8.out⟩
   case round=>
    clear H8
    obtain ⟨k,hk,rfl,hst⟩:=hrel
    by_cases hlt:k<len0_1
    ·have hkI:(k:Int)<len0_1:=by omega
     have q1:=hst.box
     obtain ⟨z,q2⟩:=hst.own k hlt
     have q3:=hst.fz k
     have HD:=Lib.hid hst
     clear hst
     go_wp2
     go_roundw
     case rel=>exact ⟨k+1,by omega,by go_num,HD.out.set hlt _⟩
     case measure=>simp [intOf];omega
    have hkE:k=len0_1:=by omega
    subst hkE
    have HD:=Lib.hid hst
    have cB:=on_bad1 hst.mkr hst.row (λy hy=>(Hb.out.2.1 y hy).2) Hx.out.symm h0 (by have:=Hn.out;omega)
    have hne:(x != 0)=true:=by simp [h0]
    have hwb:w4.heap.size≤b:=Nat.le_trans Hb.out.2.2 Hb.out.1
    have HE:=Lib.hid (And.intro hwb h0)
    clear hst hwb h0
    go_wp2_with (first
     |(go_at_call 18;(with_reducible refine cB.mono ?_);intro e w10 hq;unfold On0 at hq;obtain ⟨rfl,hM,hW⟩:=hq;have cB2:=lk_N2 hM;have cM:=λW (k:Wr Nil w10 W)=>md_any (hM.after k);have H10:=Lib.hid hW;clear hM hW cB)
     |(go_at_call 18;(with_reducible refine cB2.mono ?_);rintro e w11 ⟨rfl,hW⟩;have cM2:=cM _ hW;have H11:=Lib.hid hW;clear hW cB2 cM)
     |(go_at_call 17;(with_reducible refine cM2.mono ?_);rintro e w12 ⟨rfl,rfl⟩)
     |(go_at_call 10;(with_reducible refine (fl_awake _).mono ?_);intro e w9 hq;unfold AwkPost at hq;obtain ⟨rfl,hW9⟩:=hq))
    go_ret
    exact ⟨rfl,(HW.out.nil (H4.out.nil (((HD.out.wrt.trans H10.out λj hj e=>by have:=HE.out.1;unfold One at e;unfold Nil;omega).nil H11.out).nil hW9))).law⟩
set_option maxRecDepth 100000 in
theorem lifted (os:Os) (started:os.Started) (H:Type) (enc:TypeId×Value→H):
  ReturnsInHanded {} checked os 5 .any (Rows.buildOnceSpec.pre6 enc prog f5 Rows.buildOnceRow.domain false) (Rows.buildOnceSpec.post enc prog f5 false true false false):=by
 refine returnsInHanded_of_change (C:=checked) own started (by kernel_rfl) func5
  (ChangeSpec.witness6 (enc:=enc) (C:=checked) false ⟨#[],#[.agg #[.int .i64 0,.slice none 0 0,.int .u32 0,.int .i64 0,.int .i64 0,.int .i64 0,.int .i64 0,.int .i64 0]],[]⟩ 8 (by kernel_rfl) (by kernel_rfl) (by kernel_rfl) (by kernel_rfl)) ?_
 intro W base args ds gs before hval0 hW hcnd _
 have hval:∀ (j:Nat) t v,f5.params[j]? =some t→args[j]? =some v→Value.okWide prog W .any base t v:=hval0
 have hW':=hW
 obtain ⟨p,q,hA0,hV,rfl,hfz,hnd⟩:=hW
 have hA:DataW.TrodAll enc prog W 0 (λ_=>true) true f5.params.toList args.toList ds p:=hA0
 rw [params5] at hA hval
 obtain ⟨v0,vs0,d0,ds0,p0,q0,hargs,rfl,rfl,h0,r0'⟩:=trodAll_cons hA
 obtain ⟨rfl,rfl,rfl⟩:=trodAll_nil r0'
 obtain rfl:args= #[v0]:=by cases args;simp_all
 obtain ⟨rfl,rfl⟩:=trodVars_none hV
 have k0:=h0
 have lt0:∀ x∈p0,x.block<W.heap.size:=by obtain ⟨m,hm⟩:=k0;exact DataW.trod_lt m _ _ _ hm
 obtain ⟨cs0,rfl,hl0,hf0⟩:=open_struct_fields (m:=8) underlying25 (by kernel_rfl) (by kernel_rfl) (hval 0 25 v0 rfl rfl) h0
 obtain ⟨c0_0,c0_1,c0_2,c0_3,c0_4,c0_5,c0_6,c0_7,rfl⟩:=list8 hl0
 obtain ⟨n0_0,y0_0,e0_0⟩:=hf0 0 _ _ rfl rfl
 obtain ⟨a0_0,rfl,w0_0⟩:=fld_int underlying3 e0_0
 obtain ⟨n0_1,y0_1,e0_1⟩:=hf0 1 _ _ rfl rfl
 obtain ⟨s0_1,len0_1,cap0_1,rfl,g0_1⟩:=fld_slice underlying22 e0_1
 obtain ⟨l0_1,z0_1,r0_1,w0_1⟩:=open_slice_row underlying22 underlying3 (by kernel_rfl) g0_1
 obtain ⟨n0_2,y0_2,e0_2⟩:=hf0 2 _ _ rfl rfl
 obtain ⟨a0_2,rfl,w0_2⟩:=fld_int underlying23 e0_2
 obtain ⟨n0_3,y0_3,e0_3⟩:=hf0 3 _ _ rfl rfl
 obtain ⟨a0_3,rfl,w0_3⟩:=fld_int underlying3 e0_3
 obtain ⟨n0_4,y0_4,e0_4⟩:=hf0 4 _ _ rfl rfl
 obtain ⟨a0_4,rfl,w0_4⟩:=fld_int underlying3 e0_4
 obtain ⟨n0_5,y0_5,e0_5⟩:=hf0 5 _ _ rfl rfl
 obtain ⟨a0_5,rfl,w0_5⟩:=fld_int underlying3 e0_5
 obtain ⟨n0_6,y0_6,e0_6⟩:=hf0 6 _ _ rfl rfl
 obtain ⟨a0_6,rfl,w0_6⟩:=fld_int underlying3 e0_6
 obtain ⟨n0_7,y0_7,e0_7⟩:=hf0 7 _ _ rfl rfl
 obtain ⟨a0_7,rfl,w0_7⟩:=fld_int underlying3 e0_7
 clear hA0 hval0
 refine (walk a0_0 s0_1 len0_1 cap0_1 z0_1 a0_2 a0_3 a0_4 a0_5 a0_6 a0_7 W w0_0 l0_1 r0_1 w0_1 w0_2 w0_3 w0_4 w0_5 w0_6 w0_7).mono λe W' ⟨he,bel⟩=> ?_
 subst he
 exact ⟨_,rfl,_,_,_,[],_,[],hW',trodAll_mk1 (shut_bool underlying4 _),(trodAll_cons_mk (Below.trod laidOut (by kernel_rfl) (of_decide_eq_true (by kernel_rfl)) k0 bel lt0) trodAll_mk0),rfl,bel.frame _,λh=>by cases h⟩
theorem over:Rows.buildOnceRow.holds Tryz.pinned (OpenSpec.ofChange Rows.buildOnceSpec):=
 OpenClaim.holds_of_wide 5 f5 rfl rfl rfl rfl rfl rfl rfl ⟨rfl,rfl,rfl,rfl,rfl⟩ rfl rfl rfl rfl rfl (by kernel_rfl) func5 (by kernel_rfl)
  (of_decide_eq_true (by kernel_rfl)) (by unfold Func.isWrapper;first|(rw [if_pos (by decide+kernel)];kernel_rfl)|(rw [if_neg (by decide+kernel)];exact ⟨rfl,rfl⟩))
  (λos started H enc _=>lifted os started H enc)
theorem proved:Rows.BuildOnceSaid:=over
#print axioms proved
end Go.Proofs.YteokghghpmppnaaGreat.buildOnce

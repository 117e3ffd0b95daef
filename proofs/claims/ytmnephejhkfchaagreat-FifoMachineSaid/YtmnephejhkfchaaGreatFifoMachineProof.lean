/- For every input the Go function FifoMachine of weighlocklaw19 returns true, and its arguments read afterwards as before. Conditions: none. -/
import Derived.Test.YtmnephejhkfchaaGreatLockFine
import Derived.Test.YtmnephejhkfchaaGreatFiMach
namespace Go.Proofs.YtmnephejhkfchaaGreat.fifoMachine
set_option maxHeartbeats 8000000
open _root_.Go.Proofs.Tryz
open Go.ChangeShapes Go.WideShapes Go.ChangeAt Go.RowKit Go.BigFrame Go.Proofs.YtmnephejhkfchaaGreat.Fi
set_option linter.unusedVariables false
theorem own:ownKnob prog.godebug=none:=by kernel_rfl
theorem laidOut:laidOutB prog=true:=by kernel_rfl
set_option maxRecDepth 100000 in
theorem walk (a0_0:Int) (s0_1:Option Addr) (len0_1 cap0_1:Nat) (z0_1:List Int) (a0_2:Int) (a0_3:Int) (a0_4:Int) (a0_5:Int) (a0_6:Int) (a0_7:Int) (s1:Option Addr) (len1 cap1:Nat) (z1:Nat→Nat→Int) (w:World) (w0_0:(Lit.int .i64 a0_0).wf=true) (l0_1:len0_1≤cap0_1∧cap0_1≤maxLen∧(s0_1=none→cap0_1=0)) (r0_1:RowAt .i64 w s0_1 len0_1 z0_1) (w0_1:∀ z∈z0_1,(Lit.int .i64 z).wf=true) (w0_2:(Lit.int .u32 a0_2).wf=true) (w0_3:(Lit.int .i64 a0_3).wf=true) (w0_4:(Lit.int .i64 a0_4).wf=true) (w0_5:(Lit.int .i64 a0_5).wf=true) (w0_6:(Lit.int .i64 a0_6).wf=true) (w0_7:(Lit.int .i64 a0_7).wf=true) (l1:len1≤cap1∧cap1≤maxLen∧(s1=none→cap1=0)) (r1:Structs w [.i64,.i64,.i64] s1 len1 z1):
  Calls prog 4 #[.agg #[.int .i64 a0_0,.slice s0_1 len0_1 cap0_1,.int .u32 a0_2,.int .i64 a0_3,.int .i64 a0_4,.int .i64 a0_5,.int .i64 a0_6,.int .i64 a0_7],.slice s1 len1 cap1] w λe w'=>e= .returned (.bool true)∧Below w.heap.size w w':=by
 have hm0:len0_1≤9223372036854775807:=by have:=l0_1.1;have:=l0_1.2.1;unfold maxLen at this;omega
 obtain ⟨v0,v1⟩:=u32_bd w0_2
 obtain ⟨X,hX⟩:∃ X,X=w.alloc (.cells #[.int .i64 a0_0,.slice s0_1 len0_1 cap0_1,.int .u32 a0_2,.int .i64 a0_3,.int .i64 a0_4,.int .i64 a0_5,.int .i64 a0_6,.int .i64 a0_7] 25):=⟨_,rfl⟩
 have hWX:Wr Nil w X:=by rw [hX];exact (Wr.refl _ w).alloc _
 have hblk:X.heap[w.heap.size]? =some (.cells #[.int .i64 a0_0,.slice s0_1 len0_1 cap0_1,.int .u32 a0_2,.int .i64 a0_3,.int .i64 a0_4,.int .i64 a0_5,.int .i64 a0_6,.int .i64 a0_7] 25 (0,0)):=by rw [hX];exact Go.Deep.blk_alloc_new _ _
 have x0:X.cell? ⟨w.heap.size,0,none⟩=some (.int .i64 a0_0):=(blk_cell hblk 0).trans rfl
 have x1:X.cell? ⟨w.heap.size,1,none⟩=some (.slice s0_1 len0_1 cap0_1):=(blk_cell hblk 1).trans rfl
 have x2:X.cell? ⟨w.heap.size,2,none⟩=some (.int .u32 a0_2):=(blk_cell hblk 2).trans rfl
 have x3:X.cell? ⟨w.heap.size,3,none⟩=some (.int .i64 a0_3):=(blk_cell hblk 3).trans rfl
 have x4:X.cell? ⟨w.heap.size,4,none⟩=some (.int .i64 a0_4):=(blk_cell hblk 4).trans rfl
 have x5:X.cell? ⟨w.heap.size,5,none⟩=some (.int .i64 a0_5):=(blk_cell hblk 5).trans rfl
 have x6:X.cell? ⟨w.heap.size,6,none⟩=some (.int .i64 a0_6):=(blk_cell hblk 6).trans rfl
 have x7:X.cell? ⟨w.heap.size,7,none⟩=some (.int .i64 a0_7):=(blk_cell hblk 7).trans rfl
 have HX:=Lib.hid hX
 have rX:=r0_1.after hWX
 have HW:=Lib.hid hWX
 have Hblk:=Lib.hid hblk
 clear hX hblk
 clear w0_0 w0_1 w0_2 w0_3 w0_4 w0_5 w0_6 w0_7 hWX
 have hm1:len1≤9223372036854775807:=by have:=l1.1;have:=l1.2.1;unfold maxLen at this;omega
 have hev:=ev_of r1
 have cF:=fn_any (cap:=cap0_1) (kd:=a0_0) (v:=a0_2) (sz:=a0_3) (pl:=a0_4) (B:=a0_5) (G:=a0_6) (D:=a0_7) rX hm0 s1 len1 cap1 hm1 400
 cases hf:decide (len0_1≤8∧chk a0_0 len0_1 z0_1 a0_3 a0_4 a0_5 a0_6 a0_7=0∧(len1:Int)≤400)
 ·rw [hf] at cF
  clear hf r1 r0_1 rX hev
  go_enter func4,ntmps4
  go_upto_region 1 with fail
  rw [←HX.out]
  go_wp2_with (first
   |(go_at_call 5;(with_reducible refine cF.mono ?_);intro e w2 hq;unfold FnPost at hq;obtain ⟨rfl,hW2⟩:=hq;have H2:=Lib.hid hW2;clear hW2 cF)
   |(go_at_call 11;(with_reducible refine (fi_awake _).mono ?_);intro e w9 hq;unfold AwPost at hq;obtain ⟨rfl,hW9⟩:=hq))
  go_ret
  exact ⟨rfl,(HW.out.nil (H2.out.nil hW9)).law⟩
 obtain ⟨n8,h0,hm⟩:=fn_yes hf
 rw [hf] at cF
 clear hf
 by_cases hk5:5<a0_0
 ·have g5:decide (5<a0_0)=true:=decide_eq_true hk5
  clear hk5 r1 r0_1 rX hev h0 hm
  go_enter func4,ntmps4
  go_upto_region 1 with fail
  rw [←HX.out]
  go_wp2_with (first
   |(go_at_call 5;(with_reducible refine cF.mono ?_);intro e w2 hq;unfold FnPost at hq;obtain ⟨rfl,hW2⟩:=hq;have ya0:=hW2.old x0;have H2:=Lib.hid hW2;clear hW2 cF)
   |(go_at_call 11;(with_reducible refine (fi_awake _).mono ?_);intro e w9 hq;unfold AwPost at hq;obtain ⟨rfl,hW9⟩:=hq))
  go_ret
  exact ⟨rfl,(HW.out.nil (H2.out.nil hW9)).law⟩
 have g5:decide (5<a0_0)=false:=decide_eq_false hk5
 have hkd:a0_0=1∨a0_0=2∨a0_0=3∨a0_0=4∨a0_0=5:=by
  unfold chk at h0
  split at h0
  ·cases h0
  ·omega
 obtain ⟨ho,n1,n2⟩:=chk_k h0
 rcases rX.at with e0|⟨b,o,rfl,hc⟩
 ·omega
 have hb:b<X.heap.size:=World.block_lt_of_cell? X _ (hc 0 (by omega))
 have cN:=λW (k:Wr Nil X W)=>nw_good (cap:=cap0_1) λW' k'=>bn_any (cap:=cap0_1) hkd h0 (by omega) (rX.after (k.nil k')) (Nat.lt_of_lt_of_le hb (k.nil k').size) ⟨v0,v1⟩
 have HN:=Lib.hid cN
 have HE:=Lib.hid (And.intro hev hm)
 have hlen:len1≤1000:=by omega
 have H8:=Lib.hid (And.intro n8 (And.intro v0 v1))
 clear r1 r0_1 rX hev hb v0 v1 hc ho n1 n2 h0 cN hm n8 Hblk hkd hk5
 go_enter func4,ntmps4
 go_upto_region 1 with fail
 rw [←HX.out]
 go_upto_region 6 with (first
  |(go_at_call 5;(with_reducible refine cF.mono ?_);intro e w2 hq;unfold FnPost at hq;obtain ⟨rfl,hW2⟩:=hq;have H2:=Lib.hid hW2;have ya0:=hW2.old x0;have ya1:=hW2.old x1;have ya2:=hW2.old x2;have ya3:=hW2.old x3;have ya4:=hW2.old x4;have ya5:=hW2.old x5;have ya6:=hW2.old x6;have ya7:=hW2.old x7;clear hW2 cF)
  |(go_at_call 7;(with_reducible refine (HN.out _ H2.out).mono ?_);intro e w3 hq;unfold MnPost at hq;obtain ⟨a,m,sb,rfl,⟨hk,hN⟩,hM⟩:=hq;have hf0:=newM_few a hN.zero.2.2;have H3:=Lib.hid (And.intro hM (And.intro hf0 (And.intro hk hN)));clear hk hN hM hf0))
 have hev:=HE.out.1.old (HW.out.nil H2.out)
 have HO:=Lib.hid (HW.out.nil H2.out)
 obtain ⟨hn,hall⟩:=fi_all H3.out.2.2.2 H8.out.1 H8.out.2 z1 len1
 have hF:=H3.out.2.1.runs z1 len1
 have hl:((newM a).runs z1 len1).tr.length≤4000:=by have:=hF.tr;omega
 have cR:=mc_run (cap:=cap1) H3.out.1 H3.out.2.1 (n:=len1) (by omega) (λW tv' s' hM' _=>hev.old hM'.lk.wr)
 have HA:=Lib.hid (And.intro hn (And.intro hall hl))
 clear ya0 x0 ya1 x1 ya2 x2 ya3 x3 ya4 x4 ya5 x5 ya6 x6 ya7 x7 HN HX hev hn hall hF hl g5
 clear H3
 generalize (newM a).runs z1 len1=s2 at*
 generalize (newM a).cnt z1 len1=cn at*
 go_upto_region 7 with (go_at_call 12;(with_reducible refine cR.mono ?_);intro e w4 hq;unfold MPost at hq;obtain ⟨rfl,tv,hM,_⟩:=hq;have HM:=Lib.hid hM;clear hM cR)
 have cL:=λW (k:Wr Nil w4 W)=>mc_len (HM.out.after k)
 have cT:=λW (k:Wr Nil w4 W)=>mc_trace (HM.out.after k) (by have:=HA.out.2.2;omega)
 rw [HA.out.1] at cL
 have hhn:=held_nat H8.out.1
 have HH:=Lib.hid (And.intro hhn (And.intro cL cT))
 clear cL cT hhn
 obtain ⟨M,hMe⟩:∃ M,M=s2.tr.length:=⟨_,rfl⟩
 have HZ:=Lib.hid hMe
 have hM4:M≤4000:=by rw [hMe];exact HA.out.2.2
 clear hMe
 go_upto_region 8 with (first
  |(go_at_call 9;(with_reducible refine (HH.out.2.1 _ (Wr.refl _ _)).mono ?_);rintro e w5 ⟨rfl,rfl⟩)
  |(go_at_call 14;(with_reducible refine (HH.out.2.2 _ (Wr.refl _ _)).mono ?_);intro e w6 hq;unfold CtPost at hq;obtain ⟨sa,c,rfl,hR,hc1,hc2,hsa,hW6⟩:=hq;have cK:=fi_check (cap:=c) hR (by have:=HA.out.2.2;omega) (len0_1:Int);unfold ChPost at cK;rw [HH.out.1,HA.out.2.1,decide_eq_true rfl,←HZ.out] at cK;rw [←HZ.out];have H6:=Lib.hid hW6;clear hW6 hR hc1 hc2 hsa)
  |(go_at_call 13;(with_reducible refine cK.mono ?_);rintro e w7 ⟨rfl,hW7⟩;have H7:=Lib.hid (H6.out.nil hW7);clear hW7 cK))
 go_wp2_with (first
  |(go_at_call 14;(with_reducible refine (HH.out.2.2 _ H7.out).mono ?_);intro e w8 hq;unfold CtPost at hq;obtain ⟨sa,c,rfl,_,_,_,_,hW8⟩:=hq;rw [←HZ.out];have H9:=Lib.hid (HM.out.lk.wr.nil (H7.out.nil hW8));clear hW8)
  |(go_at_call 11;(with_reducible refine (fi_awake _).mono ?_);intro e w9 hq;unfold AwPost at hq;obtain ⟨rfl,hW9⟩:=hq;have H10:=Lib.hid (H9.out.nil hW9);clear hW9))
 go_ret
 exact ⟨rfl,(HO.out.nil H10.out).law⟩
set_option maxRecDepth 100000 in
theorem lifted (os:Os) (started:os.Started) (H:Type) (enc:TypeId×Value→H):
  ReturnsInHanded {} checked os 4 .any (Rows.fifoMachineSpec.pre6 enc prog f4 Rows.fifoMachineRow.domain false) (Rows.fifoMachineSpec.post enc prog f4 false true false false):=by
 refine returnsInHanded_of_change (C:=checked) own started (by kernel_rfl) func4
  (ChangeSpec.witness6 (enc:=enc) (C:=checked) false ⟨#[],#[.agg #[.int .i64 0,.slice none 0 0,.int .u32 0,.int .i64 0,.int .i64 0,.int .i64 0,.int .i64 0,.int .i64 0],.slice none 0 0],[]⟩ 8 (by kernel_rfl) (by kernel_rfl) (by kernel_rfl) (by kernel_rfl)) ?_
 intro W base args ds gs before hval0 hW hcnd _
 have hval:∀ (j:Nat) t v,f4.params[j]? =some t→args[j]? =some v→Value.okWide prog W .any base t v:=hval0
 have hW':=hW
 obtain ⟨p,q,hA0,hV,rfl,hfz,hnd⟩:=hW
 have hA:DataW.TrodAll enc prog W 0 (λ_=>true) true f4.params.toList args.toList ds p:=hA0
 rw [params4] at hA hval
 obtain ⟨v0,vs0,d0,ds0,p0,q0,hargs,rfl,rfl,h0,r0'⟩:=trodAll_cons hA
 obtain ⟨v1,vs1,d1,ds1,p1,q1,rfl,rfl,rfl,h1,r1'⟩:=trodAll_cons r0'
 obtain ⟨rfl,rfl,rfl⟩:=trodAll_nil r1'
 obtain rfl:args= #[v0,v1]:=by cases args;simp_all
 obtain ⟨rfl,rfl⟩:=trodVars_none hV
 have k0:=h0
 have lt0:∀ x∈p0,x.block<W.heap.size:=by obtain ⟨m,hm⟩:=k0;exact DataW.trod_lt m _ _ _ hm
 obtain ⟨cs0,rfl,hl0,hf0⟩:=open_struct_fields (m:=8) underlying25 (by kernel_rfl) (by kernel_rfl) (hval 0 25 v0 rfl rfl) h0
 obtain ⟨c0_0,c0_1,c0_2,c0_3,c0_4,c0_5,c0_6,c0_7,rfl⟩:=list8 hl0
 obtain ⟨n0_0,y0_0,e0_0⟩:=hf0 0 _ _ rfl rfl
 obtain ⟨a0_0,rfl,w0_0⟩:=fld_int underlying3 e0_0
 obtain ⟨n0_1,y0_1,e0_1⟩:=hf0 1 _ _ rfl rfl
 obtain ⟨s0_1,len0_1,cap0_1,rfl,g0_1⟩:=fld_slice underlying22 e0_1
 obtain ⟨l0_1,z0_1,r0_1,w0_1⟩:=open_slice_row underlying22 underlying3 (by kernel_rfl) g0_1
 obtain ⟨n0_2,y0_2,e0_2⟩:=hf0 2 _ _ rfl rfl
 obtain ⟨a0_2,rfl,w0_2⟩:=fld_int underlying23 e0_2
 obtain ⟨n0_3,y0_3,e0_3⟩:=hf0 3 _ _ rfl rfl
 obtain ⟨a0_3,rfl,w0_3⟩:=fld_int underlying3 e0_3
 obtain ⟨n0_4,y0_4,e0_4⟩:=hf0 4 _ _ rfl rfl
 obtain ⟨a0_4,rfl,w0_4⟩:=fld_int underlying3 e0_4
 obtain ⟨n0_5,y0_5,e0_5⟩:=hf0 5 _ _ rfl rfl
 obtain ⟨a0_5,rfl,w0_5⟩:=fld_int underlying3 e0_5
 obtain ⟨n0_6,y0_6,e0_6⟩:=hf0 6 _ _ rfl rfl
 obtain ⟨a0_6,rfl,w0_6⟩:=fld_int underlying3 e0_6
 obtain ⟨n0_7,y0_7,e0_7⟩:=hf0 7 _ _ rfl rfl
 obtain ⟨a0_7,rfl,w0_7⟩:=fld_int underlying3 e0_7
 have k1:=h1
 have lt1:∀ x∈p1,x.block<W.heap.size:=by obtain ⟨m,hm⟩:=k1;exact DataW.trod_lt m _ _ _ hm
 obtain ⟨s1,len1,cap1,rfl⟩:=okWide_slice underlying26 (hval 1 26 v1 rfl rfl)
 obtain ⟨l1,z1,r1⟩:=open_slice_ints (ks:=[.i64,.i64,.i64]) underlying26 underlying34 (by kernel_rfl) (by kernel_rfl) h1
 clear hA0 hval0
 refine (walk a0_0 s0_1 len0_1 cap0_1 z0_1 a0_2 a0_3 a0_4 a0_5 a0_6 a0_7 s1 len1 cap1 z1 W w0_0 l0_1 r0_1 w0_1 w0_2 w0_3 w0_4 w0_5 w0_6 w0_7 l1 r1).mono λe W' ⟨he,bel⟩=> ?_
 subst he
 exact ⟨_,rfl,_,_,_,[],_,[],hW',trodAll_mk1 (shut_bool underlying4 _),(trodAll_cons_mk (Below.trod laidOut (by kernel_rfl) (of_decide_eq_true (by kernel_rfl)) k0 bel lt0) (trodAll_cons_mk (Below.trod laidOut (by kernel_rfl) (of_decide_eq_true (by kernel_rfl)) k1 bel lt1) trodAll_mk0)),rfl,bel.frame _,λh=>by cases h⟩
theorem over:Rows.fifoMachineRow.holds Tryz.pinned (OpenSpec.ofChange Rows.fifoMachineSpec):=
 OpenClaim.holds_of_wide 4 f4 rfl rfl rfl rfl rfl rfl rfl ⟨rfl,rfl,rfl,rfl,rfl⟩ rfl rfl rfl rfl rfl (by kernel_rfl) func4 (by kernel_rfl)
  (of_decide_eq_true (by kernel_rfl)) (by unfold Func.isWrapper;first|(rw [if_pos (by decide+kernel)];kernel_rfl)|(rw [if_neg (by decide+kernel)];exact ⟨rfl,rfl⟩))
  (λos started H enc _=>lifted os started H enc)
theorem proved:Rows.FifoMachineSaid:=over
#print axioms proved
end Go.Proofs.YtmnephejhkfchaaGreat.fifoMachine

import Derived.Test.YtcikfcplagelaaaGreatMaLw
import Derived.Test.YtcikfcplagelaaaGreatMaAw
namespace Go.Proofs.YtcikfcplagelaaaGreat.machineNews
set_option maxHeartbeats 8000000
open _root_.Go.Proofs.Tryz
open Go.ChangeShapes Go.WideShapes Go.ChangeAt Go.RowKit
set_option linter.unusedVariables false
theorem own:ownKnob prog.godebug=none:=by kernel_rfl
theorem laidOut:laidOutB prog=true:=by kernel_rfl
set_option maxRecDepth 100000 in
theorem walk (a0_0:Int) (s0_1:Option Addr) (len0_1 cap0_1:Nat) (z0_1:List Int) (a0_2:Int) (a0_3:Int) (a0_4:Int) (a0_5:Int) (a0_6:Int) (a0_7:Int) (w:World) (w0_0:(Lit.int .i64 a0_0).wf=true) (l0_1:len0_1≤cap0_1∧cap0_1≤maxLen∧(s0_1=none→cap0_1=0)) (r0_1:RowAt .i64 w s0_1 len0_1 z0_1) (w0_1:∀ z∈z0_1,(Lit.int .i64 z).wf=true) (w0_2:(Lit.int .u32 a0_2).wf=true) (w0_3:(Lit.int .i64 a0_3).wf=true) (w0_4:(Lit.int .i64 a0_4).wf=true) (w0_5:(Lit.int .i64 a0_5).wf=true) (w0_6:(Lit.int .i64 a0_6).wf=true) (w0_7:(Lit.int .i64 a0_7).wf=true):
  Calls prog 7 #[.agg #[.int .i64 a0_0,.slice s0_1 len0_1 cap0_1,.int .u32 a0_2,.int .i64 a0_3,.int .i64 a0_4,.int .i64 a0_5,.int .i64 a0_6,.int .i64 a0_7]] w λe w'=>e= .returned (.bool true)∧Below w.heap.size w w':=by
 have hm0:len0_1≤9223372036854775807:=by have:=l0_1.1;have:=l0_1.2.1;unfold maxLen at this;omega
 obtain ⟨v0,v1⟩:=u32_bd w0_2
 obtain ⟨X,hX⟩:∃ X,X=w.alloc (.cells #[.int .i64 a0_0,.slice s0_1 len0_1 cap0_1,.int .u32 a0_2,.int .i64 a0_3,.int .i64 a0_4,.int .i64 a0_5,.int .i64 a0_6,.int .i64 a0_7] 25):=⟨_,rfl⟩
 have hWX:Wr Nil w X:=by rw [hX];exact (Wr.refl _ w).alloc _
 have hblk:X.heap[w.heap.size]? =some (.cells #[.int .i64 a0_0,.slice s0_1 len0_1 cap0_1,.int .u32 a0_2,.int .i64 a0_3,.int .i64 a0_4,.int .i64 a0_5,.int .i64 a0_6,.int .i64 a0_7] 25 (0,0)):=by rw [hX];exact Go.Deep.blk_alloc_new _ _
 have x0:X.cell? ⟨w.heap.size,0,none⟩=some (.int .i64 a0_0):=(blk_cell hblk 0).trans rfl
 have x1:X.cell? ⟨w.heap.size,1,none⟩=some (.slice s0_1 len0_1 cap0_1):=(blk_cell hblk 1).trans rfl
 have x2:X.cell? ⟨w.heap.size,2,none⟩=some (.int .u32 a0_2):=(blk_cell hblk 2).trans rfl
 have x3:X.cell? ⟨w.heap.size,3,none⟩=some (.int .i64 a0_3):=(blk_cell hblk 3).trans rfl
 have x4:X.cell? ⟨w.heap.size,4,none⟩=some (.int .i64 a0_4):=(blk_cell hblk 4).trans rfl
 have x5:X.cell? ⟨w.heap.size,5,none⟩=some (.int .i64 a0_5):=(blk_cell hblk 5).trans rfl
 have x6:X.cell? ⟨w.heap.size,6,none⟩=some (.int .i64 a0_6):=(blk_cell hblk 6).trans rfl
 have x7:X.cell? ⟨w.heap.size,7,none⟩=some (.int .i64 a0_7):=(blk_cell hblk 7).trans rfl
 have HX:=Lib.hid hX
 have rX:=r0_1.after hWX
 have HW:=Lib.hid hWX
 have Hblk:=Lib.hid hblk
 clear hX hblk
 have cK:=λW (k:Wr Nil X W)=>ck_any (cap:=cap0_1) (kd:=a0_0) (v:=a0_2) (sz:=a0_3) (pl:=a0_4) (B:=a0_5) (G:=a0_6) (D:=a0_7) (rX.after k) hm0
 clear w0_0 w0_1 w0_2 w0_3 w0_4 w0_5 w0_6 w0_7 hWX
 by_cases hbig:80<len0_1
 ·have hb1:(80:Int)<(len0_1:Nat):=by omega
  clear cK r0_1 rX
  go_enter func7,ntmps7
  go_upto_region 1 with fail
  rw [←HX.out]
  go_wp2_with (first|(go_at_call 18;(with_reducible refine (ma_awake _).mono ?_);intro e w9 hq;unfold AwkPost at hq;obtain ⟨rfl,hW9⟩:=hq))
  go_ret
  exact ⟨rfl,(HW.out.nil hW9).law⟩
 have hlen:len0_1≤80:=by omega
 have hb1:¬ (80:Int)<(len0_1:Nat):=by omega
 clear hbig
 obtain ⟨x,hx⟩:∃ x,x=chk a0_0 len0_1 z0_1 a0_3 a0_4 a0_5 a0_6 a0_7:=⟨_,rfl⟩
 rw [←hx] at cK
 have HK:=Lib.hid cK
 clear cK
 by_cases h0:x=0
 ·subst h0
  obtain ⟨ho,n1,n2⟩:=chk_k hx.symm
  rcases rX.at with e0|⟨b,o,rfl,hc⟩
  ·omega
  have hb:b<X.heap.size:=World.block_lt_of_cell? X _ (hc 0 (by omega))
  have cN:=nw_good (cap:=cap0_1) λW k=>bn_any (cap:=cap0_1) hx.symm (by omega) (rX.after k) (Nat.lt_of_lt_of_le hb k.size) ⟨v0,v1⟩
  clear hx rX hb v0 v1 hc r0_1 ho n1 n2
  go_enter func7,ntmps7
  go_upto_region 1 with fail
  rw [←HX.out]
  go_upto_region 7 with (first
   |(go_at_call 19;(with_reducible refine cN.mono ?_);intro e w2 hq;unfold MnPost at hq;obtain ⟨a,m,sb,rfl,⟨hk,hN⟩,hM⟩:=hq;have H2:=Lib.hid (And.intro hM hN);have ya0:=hM.lk.wr.old x0;have ya1:=hM.lk.wr.old x1;have ya2:=hM.lk.wr.old x2;have ya3:=hM.lk.wr.old x3;have ya4:=hM.lk.wr.old x4;have ya5:=hM.lk.wr.old x5;have ya6:=hM.lk.wr.old x6;have ya7:=hM.lk.wr.old x7;clear hk hN hM cN)
   |(go_at_call 13;(with_reducible refine (rf_any _ _ _ _ _ _ _ _ _ _ _).mono ?_);rintro e w3 ⟨rfl,hR3⟩;have HR:=Lib.hid (And.intro (H2.out.1.lk.wr.nil hR3) (H2.out.1.after hR3));clear hR3)
   |(go_at_call 12;(with_reducible refine (HK.out _ HR.out.1).mono ?_);intro e w4 hq;unfold CkPost at hq;obtain ⟨rfl,hR4⟩:=hq;have H4:=Lib.hid (And.intro (HR.out.1.nil hR4) (HR.out.2.after hR4));clear hR4))
  obtain ⟨⟨x1',x2',hz⟩,hac,_⟩:=H2.out.2.zero
  have hsn:a.s.n=len0_1:=by rw [hz];rfl
  have h4:=H4.out.2
  have P0:w4.drew.cell? ⟨w.heap.size,1,none⟩=some (.slice (some ⟨b,o,none⟩) len0_1 cap0_1):=H4.out.1.drew.old x1
  have cL:=λW (q:Wr Nil w4 W)=>mc_len (h4.after q)
  rw [show (newM a).a.s.n=len0_1 from hsn] at cL
  have cW:=λW (q:Wr Nil w4 W)=>mc_now (h4.after q)
  have cI:=λW (q:Wr Nil w4 W)=>mc_idle (h4.after q)
  have cT:=λW (q:Wr Nil w4 W)=>mc_trace (h4.after q) (Nat.zero_le _)
  have HO:=Lib.hid (HW.out.nil H4.out.1)
  clear h4 hz hac hsn H4 HR H2 HK HX ya0 x0 ya1 x1 ya2 x2 ya3 x3 ya4 x4 ya5 x5 ya6 x6 ya7 x7 Hblk
  change ∀ W,Wr Nil w4 W→Calls _ _ _ _ (λe w'=>e= .returned (.int .i64 0)∧W=w') at cW cI
  change ∀ W,Wr Nil w4 W→Calls _ _ _ _ (CtPost W []) at cT
  go_region_held3 (λw'=>w'.cell? ⟨w.heap.size,1,none⟩=some (.slice (some ⟨b,o,none⟩) len0_1 cap0_1))
   (first|with_reducible exact P0|with_reducible exact q0|with_reducible exact r0)
   (first
   |(go_at_call 28;(with_reducible refine (cL _ ((Wr.refl Nil w4).drew)).mono ?_);rintro e w12 ⟨rfl,rfl⟩)
   |(go_at_call 27;(with_reducible refine (cW _ ((Wr.refl Nil w4).drew)).mono ?_);rintro e w12 ⟨rfl,rfl⟩)
   |(go_at_call 26;(with_reducible refine (cT _ ((Wr.refl Nil w4).drew)).mono ?_);intro e w5 hq;unfold CtPost at hq;obtain ⟨sa,c,rfl,_,_,_,_,hW5⟩:=hq;have q0:=hW5.old P0;have H5:=Lib.hid (((Wr.refl Nil w4).drew).nil hW5);clear hW5)
   |(go_at_call 29;(with_reducible refine (cI _ H5.out).mono ?_);rintro e w12 ⟨rfl,rfl⟩)
   |(go_at_call 18;(with_reducible refine (ma_awake _).mono ?_);intro e w9 hq;unfold AwkPost at hq;obtain ⟨rfl,hW9⟩:=hq;have r0:=hW9.old q0;have H9:=Lib.hid (H5.out.nil hW9);clear hW9))
  go_wp2
  go_ret
  exact ⟨rfl,(HO.out.nil H9.out).law⟩
 ·have cN:=nw_bad (cap:=cap0_1) (v:=a0_2) h0 λW k=>bx_any (cap:=cap0_1) (v:=a0_2) hx.symm h0 (by omega) (rX.after k)
  have hne:(x != 0)=true:=by simp [h0]
  clear h0 hx rX r0_1
  go_enter func7,ntmps7
  go_upto_region 1 with fail
  rw [←HX.out]
  go_wp2_with (first
   |(go_at_call 19;(with_reducible refine cN.mono ?_);rintro e w2 ⟨rfl,hW2⟩;have H2:=Lib.hid hW2;have ya0:=hW2.old x0;have ya1:=hW2.old x1;have ya2:=hW2.old x2;have ya3:=hW2.old x3;have ya4:=hW2.old x4;have ya5:=hW2.old x5;have ya6:=hW2.old x6;have ya7:=hW2.old x7;clear hW2)
   |(go_at_call 13;(with_reducible refine (rf_any _ _ _ _ _ _ _ _ _ _ _).mono ?_);rintro e w3 ⟨rfl,hR3⟩;have HR:=Lib.hid (H2.out.nil hR3);clear hR3)
   |(go_at_call 12;(with_reducible refine (HK.out _ HR.out).mono ?_);intro e w4 hq;unfold CkPost at hq;obtain ⟨rfl,hR4⟩:=hq;have H4:=Lib.hid (HR.out.nil hR4);clear hR4)
   |(go_at_call 18;(with_reducible refine (ma_awake _).mono ?_);intro e w9 hq;unfold AwkPost at hq;obtain ⟨rfl,hW9⟩:=hq))
  go_ret
  exact ⟨rfl,(HW.out.nil (H4.out.nil hW9)).law⟩
set_option maxRecDepth 100000 in
theorem lifted (os:Os) (started:os.Started) (H:Type) (enc:TypeId×Value→H):
  ReturnsInHanded {} checked os 7 .any (Rows.machineNewsSpec.pre6 enc prog f7 Rows.machineNewsRow.domain false) (Rows.machineNewsSpec.post enc prog f7 false true false false):=by
 refine returnsInHanded_of_change (C:=checked) own started (by kernel_rfl) func7
  (ChangeSpec.witness6 (enc:=enc) (C:=checked) false ⟨#[],#[.agg #[.int .i64 0,.slice none 0 0,.int .u32 0,.int .i64 0,.int .i64 0,.int .i64 0,.int .i64 0,.int .i64 0]],[]⟩ 8 (by kernel_rfl) (by kernel_rfl) (by kernel_rfl) (by kernel_rfl)) ?_
 intro W base args ds gs before hval0 hW hcnd _
 have hval:∀ (j:Nat) t v,f7.params[j]? =some t→args[j]? =some v→Value.okWide prog W .any base t v:=hval0
 have hW':=hW
 obtain ⟨p,q,hA0,hV,rfl,hfz,hnd⟩:=hW
 have hA:DataW.TrodAll enc prog W 0 (λ_=>true) true f7.params.toList args.toList ds p:=hA0
 rw [params7] at hA hval
 obtain ⟨v0,vs0,d0,ds0,p0,q0,hargs,rfl,rfl,h0,r0'⟩:=trodAll_cons hA
 obtain ⟨rfl,rfl,rfl⟩:=trodAll_nil r0'
 obtain rfl:args= #[v0]:=by cases args;simp_all
 obtain ⟨rfl,rfl⟩:=trodVars_none hV
 have k0:=h0
 have lt0:∀ x∈p0,x.block<W.heap.size:=by obtain ⟨m,hm⟩:=k0;exact DataW.trod_lt m _ _ _ hm
 obtain ⟨cs0,rfl,hl0,hf0⟩:=open_struct_fields (m:=8) underlying25 (by kernel_rfl) (by kernel_rfl) (hval 0 25 v0 rfl rfl) h0
 obtain ⟨c0_0,c0_1,c0_2,c0_3,c0_4,c0_5,c0_6,c0_7,rfl⟩:=list8 hl0
 obtain ⟨n0_0,y0_0,e0_0⟩:=hf0 0 _ _ rfl rfl
 obtain ⟨a0_0,rfl,w0_0⟩:=fld_int underlying3 e0_0
 obtain ⟨n0_1,y0_1,e0_1⟩:=hf0 1 _ _ rfl rfl
 obtain ⟨s0_1,len0_1,cap0_1,rfl,g0_1⟩:=fld_slice underlying22 e0_1
 obtain ⟨l0_1,z0_1,r0_1,w0_1⟩:=open_slice_row underlying22 underlying3 (by kernel_rfl) g0_1
 obtain ⟨n0_2,y0_2,e0_2⟩:=hf0 2 _ _ rfl rfl
 obtain ⟨a0_2,rfl,w0_2⟩:=fld_int underlying23 e0_2
 obtain ⟨n0_3,y0_3,e0_3⟩:=hf0 3 _ _ rfl rfl
 obtain ⟨a0_3,rfl,w0_3⟩:=fld_int underlying3 e0_3
 obtain ⟨n0_4,y0_4,e0_4⟩:=hf0 4 _ _ rfl rfl
 obtain ⟨a0_4,rfl,w0_4⟩:=fld_int underlying3 e0_4
 obtain ⟨n0_5,y0_5,e0_5⟩:=hf0 5 _ _ rfl rfl
 obtain ⟨a0_5,rfl,w0_5⟩:=fld_int underlying3 e0_5
 obtain ⟨n0_6,y0_6,e0_6⟩:=hf0 6 _ _ rfl rfl
 obtain ⟨a0_6,rfl,w0_6⟩:=fld_int underlying3 e0_6
 obtain ⟨n0_7,y0_7,e0_7⟩:=hf0 7 _ _ rfl rfl
 obtain ⟨a0_7,rfl,w0_7⟩:=fld_int underlying3 e0_7
 clear hA0 hval0
 refine (walk a0_0 s0_1 len0_1 cap0_1 z0_1 a0_2 a0_3 a0_4 a0_5 a0_6 a0_7 W w0_0 l0_1 r0_1 w0_1 w0_2 w0_3 w0_4 w0_5 w0_6 w0_7).mono λe W' ⟨he,bel⟩=> ?_
 subst he
 exact ⟨_,rfl,_,_,_,[],_,[],hW',trodAll_mk1 (shut_bool underlying4 _),(trodAll_cons_mk (Below.trod laidOut (by kernel_rfl) (of_decide_eq_true (by kernel_rfl)) k0 bel lt0) trodAll_mk0),rfl,bel.frame _,λh=>by cases h⟩
theorem over:Rows.machineNewsRow.holds Tryz.pinned (OpenSpec.ofChange Rows.machineNewsSpec):=
 OpenClaim.holds_of_wide 7 f7 rfl rfl rfl rfl rfl rfl rfl ⟨rfl,rfl,rfl,rfl,rfl⟩ rfl rfl rfl rfl rfl (by kernel_rfl) func7 (by kernel_rfl)
  (of_decide_eq_true (by kernel_rfl)) (by unfold Func.isWrapper;first|(rw [if_pos (by decide+kernel)];kernel_rfl)|(rw [if_neg (by decide+kernel)];exact ⟨rfl,rfl⟩))
  (λos started H enc _=>lifted os started H enc)
theorem proved:Rows.MachineNewsSaid:=over
#print axioms proved
end Go.Proofs.YtcikfcplagelaaaGreat.machineNews

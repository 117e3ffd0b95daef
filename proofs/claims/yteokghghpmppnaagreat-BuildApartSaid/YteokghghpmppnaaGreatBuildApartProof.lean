import Derived.Test.YteokghghpmppnaaGreatBuSt
namespace Go.Proofs.YteokghghpmppnaaGreat.buildApart
set_option maxHeartbeats 8000000
open _root_.Go.Proofs.Tryz
open Go.ChangeShapes Go.WideShapes Go.ChangeAt Go.RowKit
set_option linter.unusedVariables false
theorem own:ownKnob prog.godebug=none:=by kernel_rfl
theorem laidOut:laidOutB prog=true:=by kernel_rfl
set_option maxRecDepth 100000 in
theorem walk (a0_0:Int) (s0_1:Option Addr) (len0_1 cap0_1:Nat) (z0_1:List Int) (a0_2:Int) (a0_3:Int) (a0_4:Int) (a0_5:Int) (a0_6:Int) (a0_7:Int) (s1:Option Addr) (len1 cap1:Nat) (z1:Nat→Nat→Int) (w:World) (w0_0:(Lit.int .i64 a0_0).wf=true) (l0_1:len0_1≤cap0_1∧cap0_1≤maxLen∧(s0_1=none→cap0_1=0)) (r0_1:RowAt .i64 w s0_1 len0_1 z0_1) (w0_1:∀ z∈z0_1,(Lit.int .i64 z).wf=true) (w0_2:(Lit.int .u32 a0_2).wf=true) (w0_3:(Lit.int .i64 a0_3).wf=true) (w0_4:(Lit.int .i64 a0_4).wf=true) (w0_5:(Lit.int .i64 a0_5).wf=true) (w0_6:(Lit.int .i64 a0_6).wf=true) (w0_7:(Lit.int .i64 a0_7).wf=true) (l1:len1≤cap1∧cap1≤maxLen∧(s1=none→cap1=0)) (r1:Structs w [.i64,.i64,.i64,.i64] s1 len1 z1):
  Calls prog 6 #[.agg #[.int .i64 a0_0,.slice s0_1 len0_1 cap0_1,.int .u32 a0_2,.int .i64 a0_3,.int .i64 a0_4,.int .i64 a0_5,.int .i64 a0_6,.int .i64 a0_7],.slice s1 len1 cap1] w λe w'=>e= .returned (.bool true)∧Below w.heap.size w w':=by
 have hm0:len0_1≤9223372036854775807:=by have:=l0_1.1;have:=l0_1.2.1;unfold maxLen at this;omega
 obtain ⟨v0,v1⟩:=u32_bd w0_2
 obtain ⟨X,hX⟩:∃ X,X=w.alloc (.cells #[.int .i64 a0_0,.slice s0_1 len0_1 cap0_1,.int .u32 a0_2,.int .i64 a0_3,.int .i64 a0_4,.int .i64 a0_5,.int .i64 a0_6,.int .i64 a0_7] 25):=⟨_,rfl⟩
 have hWX:Wr Nil w X:=by rw [hX];exact (Wr.refl _ w).alloc _
 have hblk:X.heap[w.heap.size]? =some (.cells #[.int .i64 a0_0,.slice s0_1 len0_1 cap0_1,.int .u32 a0_2,.int .i64 a0_3,.int .i64 a0_4,.int .i64 a0_5,.int .i64 a0_6,.int .i64 a0_7] 25 (0,0)):=by rw [hX];exact Go.Deep.blk_alloc_new _ _
 have x0:X.cell? ⟨w.heap.size,0,none⟩=some (.int .i64 a0_0):=(blk_cell hblk 0).trans rfl
 have x1:X.cell? ⟨w.heap.size,1,none⟩=some (.slice s0_1 len0_1 cap0_1):=(blk_cell hblk 1).trans rfl
 have x2:X.cell? ⟨w.heap.size,2,none⟩=some (.int .u32 a0_2):=(blk_cell hblk 2).trans rfl
 have x3:X.cell? ⟨w.heap.size,3,none⟩=some (.int .i64 a0_3):=(blk_cell hblk 3).trans rfl
 have x4:X.cell? ⟨w.heap.size,4,none⟩=some (.int .i64 a0_4):=(blk_cell hblk 4).trans rfl
 have x5:X.cell? ⟨w.heap.size,5,none⟩=some (.int .i64 a0_5):=(blk_cell hblk 5).trans rfl
 have x6:X.cell? ⟨w.heap.size,6,none⟩=some (.int .i64 a0_6):=(blk_cell hblk 6).trans rfl
 have x7:X.cell? ⟨w.heap.size,7,none⟩=some (.int .i64 a0_7):=(blk_cell hblk 7).trans rfl
 have HX:=Lib.hid hX
 have rX:=r0_1.after hWX
 have HW:=Lib.hid hWX
 clear hX hblk
 have hm1:len1≤9223372036854775807:=by have:=l1.1;have:=l1.2.1;unfold maxLen at this;omega
 have hat:len1=0∨∃ gb go,s1=some ⟨gb,go,none⟩∧∀ i,i<len1→∀ j,j<4→w.cell? ⟨gb,go+(i*4+j),none⟩=some (.int .i64 (z1 i j)):=by
  rcases r1.at (by decide) with e|⟨b2,o2,rfl,hc2⟩
  ·exact .inl e
  ·exact .inr ⟨b2,o2,rfl,λi hi j hj=>(hc2 i hi j .i64 (by match j,hj with|0,_=>rfl|1,_=>rfl|2,_=>rfl|3,_=>rfl)).1⟩
 have cF:=fine_any (cap:=cap0_1) rX hm0 s1 len1 cap1 hm1
 have cK:=λW (k:Wr Nil X W)=>ck_any (cap:=cap0_1) (kd:=a0_0) (v:=a0_2) (sz:=a0_3) (pl:=a0_4) (B:=a0_5) (G:=a0_6) (D:=a0_7) (rX.after k) hm0
 clear w0_0 w0_1 w0_2 w0_3 w0_4 w0_5 w0_6 w0_7 hWX
 cases hf:fineB len0_1 z0_1 len1
 ·rw [hf] at cF
  clear cK hat hf r1 r0_1 rX
  go_enter func6,ntmps6
  go_wp2_with (first
   |(go_at_call 7;rw [←HX.out];with_reducible refine cF.mono ?_;rintro e w2 ⟨rfl,hw2⟩;subst w2)
   |(go_at_call 10;(with_reducible refine (fl_awake _).mono ?_);intro e w9 hq;unfold AwkPost at hq;obtain ⟨rfl,hW9⟩:=hq))
  go_ret
  exact ⟨rfl,(HW.out.nil hW9).law⟩
 rw [hf] at cF
 obtain ⟨n1,n8,ho,hm⟩:=fineB_no hf
 obtain ⟨x,hx⟩:∃ x,x=chk a0_0 len0_1 z0_1 a0_3 a0_4 a0_5 a0_6 a0_7:=⟨_,rfl⟩
 rw [←hx] at cK
 have HK:=Lib.hid cK
 clear cK hf
 by_cases h0:x=0
 ·rcases rX.at with e0|⟨b,o,rfl,hc⟩
  ·omega
  have hb:b<X.heap.size:=World.block_lt_of_cell? X _ (hc 0 (by omega))
  subst h0
  have cN:=λW (k:Wr Nil X W)=>bn_any (cap:=cap0_1) hx.symm (by omega) (rX.after k) (Nat.lt_of_lt_of_le hb k.size) ⟨v0,v1⟩
  have HN:=Lib.hid cN
  have HH:=Lib.hid (And.intro hat hm)
  clear hat hx hc hb cN r1 r0_1 rX ho v0 v1
  go_enter func6,ntmps6
  go_wp2_with (first
   |(go_at_call 7;rw [←HX.out];with_reducible refine cF.mono ?_;rintro e w2 ⟨rfl,hw2⟩;subst w2)
   |(go_at_call 9;(with_reducible refine (rf_any _ _ _ _ _ _ _ _ _ _ _).mono ?_);rintro e w3 ⟨rfl,hR3⟩;have HR:=Lib.hid hR3;clear hR3)
   |(go_at_call 8;(with_reducible refine (HK.out _ HR.out).mono ?_);intro e w4 hq;unfold CkPost at hq;obtain ⟨rfl,hR4⟩:=hq;have H4:=Lib.hid (HR.out.nil hR4);clear hR4;have ya0:=H4.out.old x0;have ya1:=H4.out.old x1;have ya2:=H4.out.old x2;have ya3:=H4.out.old x3;have ya4:=H4.out.old x4;have ya5:=H4.out.old x5;have ya6:=H4.out.old x6;have ya7:=H4.out.old x7)
   |(go_at_call 11;(with_reducible refine (HN.out _ H4.out).mono ?_);intro e w5 hq;unfold MkPost at hq;obtain ⟨a,rfl,hA,_,hNA⟩:=hq;have yb0:=hA.wr.old ya0;have yb1:=hA.wr.old ya1;have yb2:=hA.wr.old ya2;have yb3:=hA.wr.old ya3;have yb4:=hA.wr.old ya4;have yb5:=hA.wr.old ya5;have yb6:=hA.wr.old ya6;have yb7:=hA.wr.old ya7;have H5:=Lib.hid (And.intro hA (And.intro hNA (H4.out.nil hA.wr)));clear hA hNA;have H6:=Lib.hid (True.intro))
   |(go_at_call 11;clear H6;(with_reducible refine (HN.out _ H5.out.2.2).mono ?_);intro e w6 hq;unfold MkPost at hq;obtain ⟨d,rfl,hB,_,hNB⟩:=hq;have c0:=hB.port.cell0;have yc0:=hB.wr.old yb0;have yc1:=hB.wr.old yb1;have yc2:=hB.wr.old yb2;have yc3:=hB.wr.old yb3;have yc4:=hB.wr.old yb4;have yc5:=hB.wr.old yb5;have yc6:=hB.wr.old yb6;have yc7:=hB.wr.old yb7;have H7:=Lib.hid (And.intro hB hNB);clear hB hNB;unfold Any.val)
   |(go_at_call 22;(with_reducible refine (words_any H7.out.1.port.mem).mono ?_);intro e w7 hq;unfold WordsPost at hq;obtain ⟨g,rfl,hrow,hg,hW7⟩:=hq;have H8:=Lib.hid (And.intro (row_words hrow) (And.intro hg hW7));clear hrow hg hW7))
  have hs8:=H8.out.2.2
  have HS:=Lib.hid (show ApS w4 a d w5.heap.size g 0 w7 from ⟨⟨a,(H5.out.1.after H7.out.1.wr).after hs8,⟨rfl,rfl,rfl,rfl,rfl⟩,by rw [(H5.out.2.1.zero).2.2];exact Nat.le_refl 0⟩,(Still.of H7.out.1).wrote hs8 λ_ _=>id,H8.out.1,⟨H5.out.1.top,Nat.le_trans H7.out.1.wr.size H8.out.2.1⟩⟩)
  have HZ:=Lib.hid (And.intro H7.out.2.zero H5.out.2.2)
  have HO:=Lib.hid (HW.out.nil H4.out)
  have HU:=Lib.hid ya1
  clear hs8 H5 H7 H8 HN c0 ya0 yb0 ya1 yb1 ya2 yb2 ya3 yb3 ya4 yb4 ya5 yb5 ya6 yb6 ya7 yb7
  generalize w5.heap.size=m at*
  clear yc0 yc1 yc2 yc3 yc4 yc5 yc6 yc7 x0 x1 x2 x3 x4 x5 x6 x7
  go_loopw [70] (λi wr=>∃ k:Nat,k≤len1∧i= .int .i64 k∧ApS w4 a d m g k wr) (λi _=>len1-(intOf i).toNat)
  case atStart=>exact ⟨0,Nat.zero_le _,rfl,HS.out⟩
  case round=>
   clear HS
   obtain ⟨k,hk,rfl,hst⟩:=hrel
   by_cases hlt:k<len1
   ·rcases HH.out.1 with e0|⟨gb,go,rfl,hcell⟩
    ·omega
    have hkI:(k:Int)<len1:=by omega
    have hw0:=HO.out.nil hst.wrt
    have y0:wr.cell? ⟨gb,go+k*4,none⟩=some (.int .i64 (z1 k 0)):=hw0.old (hcell k hlt 0 (by decide))
    have y1:wr.cell? ⟨gb,go+k*4+1,none⟩=some (.int .i64 (z1 k 1)):=hw0.old (hcell k hlt 1 (by decide))
    have y2:wr.cell? ⟨gb,go+k*4+2,none⟩=some (.int .i64 (z1 k 2)):=hw0.old (hcell k hlt 2 (by decide))
    have y3:wr.cell? ⟨gb,go+k*4+3,none⟩=some (.int .i64 (z1 k 3)):=hw0.old (hcell k hlt 3 (by decide))
    generalize z1 k 0=K at y0
    generalize z1 k 1=t at y1
    generalize z1 k 2=N at y2
    generalize z1 k 3=la at y3
    clear hcell hw0
    obtain ⟨X',hX'⟩:∃ X',X'=wr.alloc (.cells #[.int .i64 K,.int .i64 t,.int .i64 N,.int .i64 la] 74):=⟨_,rfl⟩
    have hQX:ApS w4 a d m g k X':=by rw [hX'];exact hst.after ((Wr.refl _ _).alloc _)
    have hB:X'.heap[wr.heap.size]? =some (.cells #[.int .i64 K,.int .i64 t,.int .i64 N,.int .i64 la] 74 (0,0)):=by rw [hX'];exact Go.Deep.blk_alloc_new wr _
    obtain ⟨B',hBe⟩:∃ B',B'=wr.heap.size:=⟨_,rfl⟩
    rw [←hBe] at hB
    have HX0:=Lib.hid (And.intro hX' hBe)
    have HQ:=Lib.hid (And.intro hQX hB)
    have hk200:k≤200:=by have:=HH.out.2;omega
    clear hst hX' hQX hB hBe
    go_upto_region 11 with fail
    obtain ⟨hX',hBe⟩:=HX0.out
    rw [←hX',←hBe]
    clear HX0 hX' hBe y0 y1 y2 y3
    have q0:X'.cell? ⟨B',0,none⟩=some (.int .i64 K):=by rw [blk_cell HQ.out.2];rfl
    have q1:X'.cell? ⟨B',1,none⟩=some (.int .i64 t):=by rw [blk_cell HQ.out.2];rfl
    have q2:X'.cell? ⟨B',2,none⟩=some (.int .i64 N):=by rw [blk_cell HQ.out.2];rfl
    have c0:=HQ.out.1.cell0
    have vL:=Any.via_lock c0
    have vU:=Any.via_unlock c0
    have vS:=a.via_step
    have nL:=a.nil_lock
    have nU:=a.nil_unlock
    have nS:=a.nil_step
    have eS:=a.stepF_enter
    have cS:=HQ.out.1.step hk200 t
    have cL:=HQ.out.1.lock t N
    have cU:=HQ.out.1.unlock t
    generalize a.stepF=sF at*
    by_cases hK1:K=1
    ·subst hK1
     go_wp2_with (first
      |(go_at_call 196;(with_reducible refine cL.mono ?_);rintro e w8 ⟨⟨x,rfl⟩,hS⟩;have HS:=Lib.hid hS;clear hS))
     go_roundw
     case rel=>exact ⟨k+1,by omega,by go_num,HS.out.next⟩
     case measure=>simp [intOf];omega
    by_cases hK2:K=2
    ·subst hK2
     go_wp2_with (first
      |(go_at_call 200;(with_reducible refine cU.mono ?_);rintro e w8 ⟨⟨x,rfl⟩,hS⟩;have HS:=Lib.hid hS;clear hS))
     go_roundw
     case rel=>exact ⟨k+1,by omega,by go_num,HS.out.next⟩
     case measure=>simp [intOf];omega
    by_cases hK4:K=4
    ·subst hK4
     go_wp2_with ((with_reducible refine cS.mono ?_);rintro e w8 ⟨⟨x,rfl⟩,hS⟩;have HS:=Lib.hid hS;clear hS;unfold Dd.val)
     go_roundw
     case rel=>exact ⟨k+1,by omega,by go_num,HS.out⟩
     case measure=>simp [intOf];omega
    go_wp2
    go_roundw
    case rel=>exact ⟨k+1,by omega,by go_num,HQ.out.1.next⟩
    case measure=>simp [intOf];omega
   have hkE:len1=k:=by omega
   subst hkE
   have p0:=hst.two.port.cell0
   have HD:=Lib.hid hst
   clear hst
   go_wp2_with (first
    |(go_at_call 22;(with_reducible refine (words_any HD.out.two.port.mem).mono ?_);intro e w8 hq;unfold WordsPost at hq;obtain ⟨g2,rfl,hrow,hg,hW7⟩:=hq;have H8:=Lib.hid (And.intro (HD.out.after hW7) (row_words hrow));clear hrow hg hW7))
   have HP:=H8
   go_loopw [106] (λi wr=>∃ k:Nat,k≤d.ps.ws.length∧i= .int .i64 k∧ApS w4 a d m g len1 wr∧RowAt .u32 wr (some ⟨g2,0,none⟩) d.ps.ws.length d.ps.ws) (λi _=>d.ps.ws.length-(intOf i).toNat)
   case atStart=>exact ⟨0,Nat.zero_le _,rfl,H8.out⟩
   case round=>
    clear H8 HP HD p0
    obtain ⟨k,hk,rfl,hst,hr2⟩:=hrel
    have hws:=hst.two.port.words
    by_cases hlt:k<d.ps.ws.length
    ·have hkI:(k:Int)<(d.ps.ws.length:Nat):=by omega
     have t1:wr.cell? ⟨g,k,none⟩=some (.int .u32 (d.ps.ws.getD k 0)):=by have h:=hst.was.cell _ rfl k hlt;rw [Addr.add_lit,Nat.zero_add] at h;exact h
     have t2:wr.cell? ⟨g2,k,none⟩=some (.int .u32 (d.ps.ws.getD k 0)):=by have h:=hr2.cell _ rfl k hlt;rw [Addr.add_lit,Nat.zero_add] at h;exact h
     have g1:decide (d.ps.ws.length≤k)=false:=decide_eq_false (by omega)
     have g3:decide (((d.ps.ws.length:Nat):Int)≤(k:Int))=false:=decide_eq_false (by omega)
     have HD:=Lib.hid (And.intro hst hr2)
     clear hst hr2
     generalize d.ps.ws.getD k 0=x at*
     go_upto_region 23 with fail
     go_big_quiet (fail)
     go_wp2
     go_roundw
     case rel=>exact ⟨k+1,by omega,by go_num,HD.out.1.after ((Wr.refl _ _).drewN _),HD.out.2.after ((Wr.refl _ _).drewN _)⟩
     case measure=>simp [intOf];omega
    have hkE:k=d.ps.ws.length:=by omega
    subst hkE
    have z1':=hst.wrt.old HU.out
    have HD:=Lib.hid hst
    clear hst hr2
    go_wp2
    go_loopw [128] (λi wr=>∃ k:Nat,k≤len0_1∧i= .int .i64 k∧ApS w4 a d m g len1 wr) (λi _=>len0_1-(intOf i).toNat)
    case atStart=>exact ⟨0,Nat.zero_le _,rfl,HD.out⟩
    case round=>
     clear HD z1'
     obtain ⟨k,hk,rfl,hst⟩:=hrel
     by_cases hlt:k<len0_1
     ·have hkI:(k:Int)<len0_1:=by omega
      have vS:=Any.via_state hst.two.cell
      have nS:=d.nil_state
      have cS:=se_state hst.two.seat (k:Int)
      obtain ⟨⟨x,y,ez⟩,ea,_⟩:=HZ.out.1
      rw [ez,stI_new] at cS
      have cA:=paccesses_any hst.two.port (k:Int)
      rw [ea,cnt_rep] at cA
      have HD:=Lib.hid hst
      clear hst ez ea
      go_wp2_with (first
       |(go_at_call 198;(with_reducible refine cS.mono ?_);rintro e w8 ⟨rfl,rfl⟩)
       |(go_at_call 21;(with_reducible refine cA.mono ?_);rintro e w9 ⟨rfl,h9⟩;subst h9))
      go_roundw
      case rel=>exact ⟨k+1,by omega,by go_num,HD.out⟩
      case measure=>simp [intOf];omega
     have hkE:len0_1=k:=by omega
     subst hkE
     have HD:=Lib.hid hst
     clear hst
     go_wp2_with (first
      |(go_at_call 10;(with_reducible refine (fl_awake _).mono ?_);intro e w9 hq;unfold AwkPost at hq;obtain ⟨rfl,hW9⟩:=hq))
     go_ret
     exact ⟨rfl,(HO.out.nil (HD.out.wrt.nil hW9)).law⟩
 ·have hne:(x != 0)=true:=by simp [h0]
  clear hat hx r1 r0_1 rX h0
  go_enter func6,ntmps6
  go_wp2_with (first
   |(go_at_call 7;rw [←HX.out];with_reducible refine cF.mono ?_;rintro e w2 ⟨rfl,hw2⟩;subst w2)
   |(go_at_call 9;(with_reducible refine (rf_any _ _ _ _ _ _ _ _ _ _ _).mono ?_);rintro e w3 ⟨rfl,hR3⟩;have HR:=Lib.hid hR3;clear hR3)
   |(go_at_call 8;(with_reducible refine (HK.out _ HR.out).mono ?_);intro e w4 hq;unfold CkPost at hq;obtain ⟨rfl,hR4⟩:=hq;have H4:=Lib.hid (HR.out.nil hR4);clear hR4)
   |(go_at_call 10;(with_reducible refine (fl_awake _).mono ?_);intro e w9 hq;unfold AwkPost at hq;obtain ⟨rfl,hW9⟩:=hq))
  go_ret
  exact ⟨rfl,(HW.out.nil (H4.out.nil hW9)).law⟩
set_option maxRecDepth 100000 in
theorem lifted (os:Os) (started:os.Started) (H:Type) (enc:TypeId×Value→H):
  ReturnsInHanded {} checked os 6 .any (Rows.buildApartSpec.pre6 enc prog f6 Rows.buildApartRow.domain false) (Rows.buildApartSpec.post enc prog f6 false true false false):=by
 refine returnsInHanded_of_change (C:=checked) own started (by kernel_rfl) func6
  (ChangeSpec.witness6 (enc:=enc) (C:=checked) false ⟨#[],#[.agg #[.int .i64 0,.slice none 0 0,.int .u32 0,.int .i64 0,.int .i64 0,.int .i64 0,.int .i64 0,.int .i64 0],.slice none 0 0],[]⟩ 8 (by kernel_rfl) (by kernel_rfl) (by kernel_rfl) (by kernel_rfl)) ?_
 intro W base args ds gs before hval0 hW hcnd _
 have hval:∀ (j:Nat) t v,f6.params[j]? =some t→args[j]? =some v→Value.okWide prog W .any base t v:=hval0
 have hW':=hW
 obtain ⟨p,q,hA0,hV,rfl,hfz,hnd⟩:=hW
 have hA:DataW.TrodAll enc prog W 0 (λ_=>true) true f6.params.toList args.toList ds p:=hA0
 rw [params6] at hA hval
 obtain ⟨v0,vs0,d0,ds0,p0,q0,hargs,rfl,rfl,h0,r0'⟩:=trodAll_cons hA
 obtain ⟨v1,vs1,d1,ds1,p1,q1,rfl,rfl,rfl,h1,r1'⟩:=trodAll_cons r0'
 obtain ⟨rfl,rfl,rfl⟩:=trodAll_nil r1'
 obtain rfl:args= #[v0,v1]:=by cases args;simp_all
 obtain ⟨rfl,rfl⟩:=trodVars_none hV
 have k0:=h0
 have lt0:∀ x∈p0,x.block<W.heap.size:=by obtain ⟨m,hm⟩:=k0;exact DataW.trod_lt m _ _ _ hm
 obtain ⟨cs0,rfl,hl0,hf0⟩:=open_struct_fields (m:=8) underlying25 (by kernel_rfl) (by kernel_rfl) (hval 0 25 v0 rfl rfl) h0
 obtain ⟨c0_0,c0_1,c0_2,c0_3,c0_4,c0_5,c0_6,c0_7,rfl⟩:=list8 hl0
 obtain ⟨n0_0,y0_0,e0_0⟩:=hf0 0 _ _ rfl rfl
 obtain ⟨a0_0,rfl,w0_0⟩:=fld_int underlying3 e0_0
 obtain ⟨n0_1,y0_1,e0_1⟩:=hf0 1 _ _ rfl rfl
 obtain ⟨s0_1,len0_1,cap0_1,rfl,g0_1⟩:=fld_slice underlying22 e0_1
 obtain ⟨l0_1,z0_1,r0_1,w0_1⟩:=open_slice_row underlying22 underlying3 (by kernel_rfl) g0_1
 obtain ⟨n0_2,y0_2,e0_2⟩:=hf0 2 _ _ rfl rfl
 obtain ⟨a0_2,rfl,w0_2⟩:=fld_int underlying23 e0_2
 obtain ⟨n0_3,y0_3,e0_3⟩:=hf0 3 _ _ rfl rfl
 obtain ⟨a0_3,rfl,w0_3⟩:=fld_int underlying3 e0_3
 obtain ⟨n0_4,y0_4,e0_4⟩:=hf0 4 _ _ rfl rfl
 obtain ⟨a0_4,rfl,w0_4⟩:=fld_int underlying3 e0_4
 obtain ⟨n0_5,y0_5,e0_5⟩:=hf0 5 _ _ rfl rfl
 obtain ⟨a0_5,rfl,w0_5⟩:=fld_int underlying3 e0_5
 obtain ⟨n0_6,y0_6,e0_6⟩:=hf0 6 _ _ rfl rfl
 obtain ⟨a0_6,rfl,w0_6⟩:=fld_int underlying3 e0_6
 obtain ⟨n0_7,y0_7,e0_7⟩:=hf0 7 _ _ rfl rfl
 obtain ⟨a0_7,rfl,w0_7⟩:=fld_int underlying3 e0_7
 have k1:=h1
 have lt1:∀ x∈p1,x.block<W.heap.size:=by obtain ⟨m,hm⟩:=k1;exact DataW.trod_lt m _ _ _ hm
 obtain ⟨s1,len1,cap1,rfl⟩:=okWide_slice underlying26 (hval 1 26 v1 rfl rfl)
 obtain ⟨l1,z1,r1⟩:=open_slice_ints (ks:=[.i64,.i64,.i64,.i64]) underlying26 underlying74 (by kernel_rfl) (by kernel_rfl) h1
 clear hA0 hval0
 refine (walk a0_0 s0_1 len0_1 cap0_1 z0_1 a0_2 a0_3 a0_4 a0_5 a0_6 a0_7 s1 len1 cap1 z1 W w0_0 l0_1 r0_1 w0_1 w0_2 w0_3 w0_4 w0_5 w0_6 w0_7 l1 r1).mono λe W' ⟨he,bel⟩=> ?_
 subst he
 exact ⟨_,rfl,_,_,_,[],_,[],hW',trodAll_mk1 (shut_bool underlying4 _),(trodAll_cons_mk (Below.trod laidOut (by kernel_rfl) (of_decide_eq_true (by kernel_rfl)) k0 bel lt0) (trodAll_cons_mk (Below.trod laidOut (by kernel_rfl) (of_decide_eq_true (by kernel_rfl)) k1 bel lt1) trodAll_mk0)),rfl,bel.frame _,λh=>by cases h⟩
theorem over:Rows.buildApartRow.holds Tryz.pinned (OpenSpec.ofChange Rows.buildApartSpec):=
 OpenClaim.holds_of_wide 6 f6 rfl rfl rfl rfl rfl rfl rfl ⟨rfl,rfl,rfl,rfl,rfl⟩ rfl rfl rfl rfl rfl (by kernel_rfl) func6 (by kernel_rfl)
  (of_decide_eq_true (by kernel_rfl)) (by unfold Func.isWrapper;first|(rw [if_pos (by decide+kernel)];kernel_rfl)|(rw [if_neg (by decide+kernel)];exact ⟨rfl,rfl⟩))
  (λos started H enc _=>lifted os started H enc)
theorem proved:Rows.BuildApartSaid:=over
#print axioms proved
end Go.Proofs.YteokghghpmppnaaGreat.buildApart

import Derived.Test.YtcikfcplagelaaaGreatMaLw
import Derived.Test.YtcikfcplagelaaaGreatMaAw
namespace Go.Proofs.YtcikfcplagelaaaGreat.machineClock
set_option maxHeartbeats 8000000
open _root_.Go.Proofs.Tryz
open Go.ChangeShapes Go.WideShapes Go.ChangeAt Go.RowKit
set_option linter.unusedVariables false
theorem own:ownKnob prog.godebug=none:=by kernel_rfl
theorem laidOut:laidOutB prog=true:=by kernel_rfl
set_option maxRecDepth 100000 in
theorem walk (a0_0:Int) (s0_1:Option Addr) (len0_1 cap0_1:Nat) (z0_1:List Int) (a0_2:Int) (a0_3:Int) (a0_4:Int) (a0_5:Int) (a0_6:Int) (a0_7:Int) (s1:Option Addr) (len1 cap1:Nat) (z1:Nat→Nat→Int) (w:World) (w0_0:(Lit.int .i64 a0_0).wf=true) (l0_1:len0_1≤cap0_1∧cap0_1≤maxLen∧(s0_1=none→cap0_1=0)) (r0_1:RowAt .i64 w s0_1 len0_1 z0_1) (w0_1:∀ z∈z0_1,(Lit.int .i64 z).wf=true) (w0_2:(Lit.int .u32 a0_2).wf=true) (w0_3:(Lit.int .i64 a0_3).wf=true) (w0_4:(Lit.int .i64 a0_4).wf=true) (w0_5:(Lit.int .i64 a0_5).wf=true) (w0_6:(Lit.int .i64 a0_6).wf=true) (w0_7:(Lit.int .i64 a0_7).wf=true) (l1:len1≤cap1∧cap1≤maxLen∧(s1=none→cap1=0)) (r1:Structs w [.i64,.i64,.i64] s1 len1 z1):
  Calls prog 9 #[.agg #[.int .i64 a0_0,.slice s0_1 len0_1 cap0_1,.int .u32 a0_2,.int .i64 a0_3,.int .i64 a0_4,.int .i64 a0_5,.int .i64 a0_6,.int .i64 a0_7],.slice s1 len1 cap1] w λe w'=>e= .returned (.bool true)∧Below w.heap.size w w':=by
 have hm0:len0_1≤9223372036854775807:=by have:=l0_1.1;have:=l0_1.2.1;unfold maxLen at this;omega
 obtain ⟨v0,v1⟩:=u32_bd w0_2
 obtain ⟨X,hX⟩:∃ X,X=w.alloc (.cells #[.int .i64 a0_0,.slice s0_1 len0_1 cap0_1,.int .u32 a0_2,.int .i64 a0_3,.int .i64 a0_4,.int .i64 a0_5,.int .i64 a0_6,.int .i64 a0_7] 25):=⟨_,rfl⟩
 have hWX:Wr Nil w X:=by rw [hX];exact (Wr.refl _ w).alloc _
 have hblk:X.heap[w.heap.size]? =some (.cells #[.int .i64 a0_0,.slice s0_1 len0_1 cap0_1,.int .u32 a0_2,.int .i64 a0_3,.int .i64 a0_4,.int .i64 a0_5,.int .i64 a0_6,.int .i64 a0_7] 25 (0,0)):=by rw [hX];exact Go.Deep.blk_alloc_new _ _
 have x0:X.cell? ⟨w.heap.size,0,none⟩=some (.int .i64 a0_0):=(blk_cell hblk 0).trans rfl
 have x1:X.cell? ⟨w.heap.size,1,none⟩=some (.slice s0_1 len0_1 cap0_1):=(blk_cell hblk 1).trans rfl
 have x2:X.cell? ⟨w.heap.size,2,none⟩=some (.int .u32 a0_2):=(blk_cell hblk 2).trans rfl
 have x3:X.cell? ⟨w.heap.size,3,none⟩=some (.int .i64 a0_3):=(blk_cell hblk 3).trans rfl
 have x4:X.cell? ⟨w.heap.size,4,none⟩=some (.int .i64 a0_4):=(blk_cell hblk 4).trans rfl
 have x5:X.cell? ⟨w.heap.size,5,none⟩=some (.int .i64 a0_5):=(blk_cell hblk 5).trans rfl
 have x6:X.cell? ⟨w.heap.size,6,none⟩=some (.int .i64 a0_6):=(blk_cell hblk 6).trans rfl
 have x7:X.cell? ⟨w.heap.size,7,none⟩=some (.int .i64 a0_7):=(blk_cell hblk 7).trans rfl
 have HX:=Lib.hid hX
 have rX:=r0_1.after hWX
 have HW:=Lib.hid hWX
 have Hblk:=Lib.hid hblk
 clear hX hblk
 clear w0_0 w0_1 w0_2 w0_3 w0_4 w0_5 w0_6 w0_7 hWX
 have hm1:len1≤9223372036854775807:=by have:=l1.1;have:=l1.2.1;unfold maxLen at this;omega
 have hev:=ev_of r1
 have cF:=fn_any (cap:=cap0_1) (kd:=a0_0) (v:=a0_2) (sz:=a0_3) (pl:=a0_4) (B:=a0_5) (G:=a0_6) (D:=a0_7) rX hm0 s1 len1 cap1 hm1 300
 cases hf:decide (len0_1≤8∧chk a0_0 len0_1 z0_1 a0_3 a0_4 a0_5 a0_6 a0_7=0∧(len1:Int)≤300)
 ·rw [hf] at cF
  clear hf r1 r0_1 rX hev
  go_enter func9,ntmps9
  go_upto_region 1 with fail
  rw [←HX.out]
  go_wp2_with (first
   |(go_at_call 17;(with_reducible refine cF.mono ?_);intro e w2 hq;unfold FnPost at hq;obtain ⟨rfl,hW2⟩:=hq;have H2:=Lib.hid hW2;clear hW2 cF)
   |(go_at_call 18;(with_reducible refine (ma_awake _).mono ?_);intro e w9 hq;unfold AwkPost at hq;obtain ⟨rfl,hW9⟩:=hq))
  go_ret
  exact ⟨rfl,(HW.out.nil (H2.out.nil hW9)).law⟩
 obtain ⟨n8,h0,hm⟩:=fn_yes hf
 rw [hf] at cF
 clear hf
 obtain ⟨ho,n1,n2⟩:=chk_k h0
 rcases rX.at with e0|⟨b,o,rfl,hc⟩
 ·omega
 have hb:b<X.heap.size:=World.block_lt_of_cell? X _ (hc 0 (by omega))
 have cN:=λW (k:Wr Nil X W)=>nw_good (cap:=cap0_1) λW' k'=>bn_any (cap:=cap0_1) h0 (by omega) (rX.after (k.nil k')) (Nat.lt_of_lt_of_le hb (k.nil k').size) ⟨v0,v1⟩
 have HN:=Lib.hid cN
 have HE:=Lib.hid (And.intro hev hm)
 have hlen:len1≤1000:=by omega
 have H8:=Lib.hid (And.intro h0 n8)
 clear r1 r0_1 rX hev hb v0 v1 hc ho n1 n2 h0 cN hm n8 Hblk
 go_enter func9,ntmps9
 go_upto_region 1 with fail
 rw [←HX.out]
 go_upto_region 7 with (first
  |(go_at_call 17;(with_reducible refine cF.mono ?_);intro e w2 hq;unfold FnPost at hq;obtain ⟨rfl,hW2⟩:=hq;have H2:=Lib.hid hW2;have ya0:=hW2.old x0;have ya1:=hW2.old x1;have ya2:=hW2.old x2;have ya3:=hW2.old x3;have ya4:=hW2.old x4;have ya5:=hW2.old x5;have ya6:=hW2.old x6;have ya7:=hW2.old x7;clear hW2 cF)
  |(go_at_call 19;(with_reducible refine (HN.out _ H2.out).mono ?_);intro e w3 hq;unfold MnPost at hq;obtain ⟨a,m,sb,rfl,⟨hk,hN⟩,hM⟩:=hq;have hf0:=newM_few a hN.zero.2.2;have H3:=Lib.hid (And.intro hM (And.intro hf0 (And.intro hk hN)));clear hk hN hM hf0))
 have HV:=Lib.hid (HE.out.1.old (HW.out.nil H2.out))
 have HO:=Lib.hid (HW.out.nil H2.out)
 have hF:=λk=>H3.out.2.1.runs z1 k
 have hls:∀ k,k≤len1→((newM a).runs z1 k).tr.length≤4000:=λk hk=>by have:=(hF k).tr;omega
 have HF:=Lib.hid (And.intro hF hls)
 obtain ⟨base,hbs⟩:∃ base,base=w3.heap.size:=⟨_,rfl⟩
 have hM0:McAt w2 base w3 m sb (newM a) (.slice none 0 0):=by rw [hbs];exact H3.out.1
 have HM:=Lib.hid hM0
 clear ya0 x0 ya1 x1 ya2 x2 ya3 x3 ya4 x4 ya5 x5 ya6 x6 ya7 x7 HN HX hF hls hbs hM0
 clear H3
 go_wp2
 go_loopw [7,32] (λc i wr=>∃ k:Nat,k≤len1∧i= .int .i64 k∧c= .int .i64 ((newM a).runs z1 k).now∧∃ tv,McAt w2 base wr m sb ((newM a).runs z1 k) tv) (λ_ i _=>len1-(intOf i).toNat)
 case atStart=>exact ⟨0,Nat.zero_le _,rfl,rfl,_,HM.out⟩
 case round=>
  clear HM
  obtain ⟨k,hk,rfl,rfl,tv,hM⟩:=hrel
  by_cases hlt:k<len1
  ·have hkI:(k:Int)<len1:=by omega
   rcases HV.out.old hM.lk.wr with e0|⟨gb,go,rfl,hcell⟩
   ·omega
   have y0:wr.cell? ⟨gb,go+k*3,none⟩=some (.int .i64 (z1 k 0)):=hcell k hlt 0 (by decide)
   have y1:wr.cell? ⟨gb,go+k*3+1,none⟩=some (.int .i64 (z1 k 1)):=hcell k hlt 1 (by decide)
   have y2:wr.cell? ⟨gb,go+k*3+2,none⟩=some (.int .i64 (z1 k 2)):=hcell k hlt 2 (by decide)
   obtain ⟨X',hX'⟩:∃ X',X'=wr.alloc (.cells #[.int .i64 (z1 k 0),.int .i64 (z1 k 1),.int .i64 (z1 k 2)] 67):=⟨_,rfl⟩
   have hWX:Wr Nil wr X':=by rw [hX'];exact (Wr.refl _ _).alloc _
   obtain ⟨B',hBe⟩:∃ B',B'=wr.heap.size:=⟨_,rfl⟩
   have hB:X'.heap[B']? =some (.cells #[.int .i64 (z1 k 0),.int .i64 (z1 k 1),.int .i64 (z1 k 2)] 67 (0,0)):=by rw [hX',hBe];exact Go.Deep.blk_alloc_new wr _
   have hMX:=hM.after hWX
   have hbB:base≤B':=by rw [hBe];exact hM.top
   have htB:∀ j,tv.ownBlock=some j→j<B':=λj hj=>by have:=hM.lt j hj;omega
   have HX0:=Lib.hid (And.intro hX' hBe)
   have hfew:=HF.out.1 k
   have hnow:=hfew.now
   have hl1:=HF.out.2 k hk
   have hl2:=HF.out.2 (k+1) hlt
   obtain ⟨hc1,l,hc2,hc3⟩:=do_clk ((newM a).runs z1 k) (by omega) (z1 k 0) (z1 k 1) (z1 k 2)
   change ((newM a).runs z1 (k+1)).now=_ at hc1
   change ((newM a).runs z1 (k+1)).tr=_ at hc2
   change ∀ e∈l,e.now=((newM a).runs z1 (k+1)).now at hc3
   have cT:=mc_trace hMX (by omega)
   have cD:=λW (q:Wr Nil X' W)=>mc_do (hMX.after q) hfew (by omega) (z1 k 0) (z1 k 1) (z1 k 2)
   change ∀ W,Wr Nil X' W→Calls _ _ _ W (MPost _ _ _ _ ((newM a).runs z1 (k+1)) _ _ _) at cD
   have hs:=(newM a).runs_q z1 (k+1)
   have HC:=Lib.hid (And.intro hc1 (And.intro hc2 (And.intro hc3 (And.intro hl2 hs))))
   have HB:=Lib.hid (And.intro hB (And.intro hbB (And.intro htB hMX)))
   have HQ:=Lib.hid hWX
   clear hcell hX' hBe hB hM hWX hc1 hc2 hc3 hfew hl1 hl2 hs hMX hbB htB
   generalize hs1:(newM a).runs z1 k=s1' at*
   generalize hs2:(newM a).runs z1 (k+1)=s2' at*
   have HS:=Lib.hid (And.intro hs1 hs2)
   clear hs1 hs2
   generalize s1'.ok (z1 k 0) (z1 k 1) (z1 k 2)=bv at*
   generalize z1 k 0=K at*
   generalize z1 k 1=t at*
   generalize z1 k 2=N at*
   go_upto_region 10 with fail
   obtain ⟨hX',hBe⟩:=HX0.out
   rw [←hX',←hBe]
   clear HX0 hX' hBe y0 y1 y2
   have hpast:∀ (W:World) tv2,Went s2'.a.q m sb X' tv W tv2→W.heap[B']? =some (.cells #[.int .i64 K,.int .i64 t,.int .i64 N] 67 (0,0)):=λW tv2 h=>(h.wr.block _ (blk_lt HB.out.1) λe=>by
    have h1:=HB.out.2.2.2.low
    have hq:=HC.out.2.2.2.2.2.2.2.1
    have h2:=HB.out.2.1
    have hq1:s1'.a.q=(newM a).a.q:=by rw [←HS.out.1];exact ((newM a).runs_q z1 k).2.2.2.1
    rcases e with e|e|e|e
    ·rw [hq,←hq1] at e;omega
    ·omega
    ·omega
    ·have:=HB.out.2.2.1 _ e;omega).trans HB.out.1
   have q0:X'.cell? ⟨B',0,none⟩=some (.int .i64 K):=(blk_cell HB.out.1 0).trans rfl
   have q1:X'.cell? ⟨B',1,none⟩=some (.int .i64 t):=(blk_cell HB.out.1 1).trans rfl
   have q2:X'.cell? ⟨B',2,none⟩=some (.int .i64 N):=(blk_cell HB.out.1 2).trans rfl
   have HP:=Lib.hid hpast
   clear hpast
   go_upto_region 12 with (first
    |(go_at_call 26;(with_reducible refine cT.mono ?_);intro e w5 hq;unfold CtPost at hq;obtain ⟨sa,c,rfl,_,_,_,_,hW5⟩:=hq;have r0:=hW5.old q0;have r1:=hW5.old q1;have r2:=hW5.old q2;have H5:=Lib.hid hW5;clear hW5 cT)
    |(go_at_call 22;(with_reducible refine (cD _ H5.out).mono ?_);intro e w6 hq;unfold MPost at hq;obtain ⟨rfl,tv2,hM2,hW6⟩:=hq;have hk6:=HP.out _ _ ((Went.nil H5.out).trans hW6);have u0:w6.cell? ⟨B',0,none⟩=some (.int .i64 K):=(blk_cell hk6 0).trans rfl;have cT2:=mc_trace hM2 (Nat.le_trans HC.out.2.2.2.1 (by decide));have H6:=Lib.hid hM2;clear hM2 hW6 hk6 cD))
   clear q0 q1 q2 r0 r1 r2
   obtain ⟨hc1,hc2,hc3,hl2,_⟩:=HC.out
   rw [hc2] at cT2
   have hl2':(s1'.tr++l).length≤4000:=by rw [←hc2];exact hl2
   rw [List.length_append] at hl2'
   obtain ⟨n2,hn2⟩:∃ n2,n2=s2'.now:=⟨_,rfl⟩
   have HC2:=Lib.hid (And.intro hc3 hn2)
   have hnr:0≤s1'.now∧s1'.now≤1000:=by omega
   by_cases hK:K=2
   all_goals
    first|rw [if_pos hK] at hc1|rw [if_neg hK] at hc1
    rw [←hn2] at hc1
    clear hc2 hc3 hl2 hn2
    go_upto_region 15 with (go_at_call 26;(with_reducible refine cT2.mono ?_);intro e w7 hq;unfold CtPost at hq;obtain ⟨sa2,c2,rfl,hr,hcl,hcm,hsa,hW7⟩:=hq;have H7:=Lib.hid (H6.out.after hW7);have HR:=Lib.hid (And.intro hr (And.intro hcl (And.intro hcm hsa)));clear hr hcl hcm hsa hW7 cT2)
    have cW:=mc_now H7.out
    rw [←HC2.out.2,hc1] at cW
    have hpl:s1'.tr.length≤4000:=by omega
    have hql:l.length≤4000:=by omega
    have HS2:=Lib.hid (And.intro hc1 (And.intro hpl hql))
    have hql0:=hql
    generalize hpn:s1'.tr.length=pn at*
    generalize hqn:l.length=qn at*
    generalize s1'.now=nw at*
    have g1:decide ((pn:Int)+(qn:Int)<(pn:Int))=false:=decide_eq_false (by omega)
    have g2:decide (((pn+qn:Nat):Int)<(pn:Int))=false:=decide_eq_false (by omega)
    go_upto_region 17 with (go_at_call 27;(with_reducible refine cW.mono ?_);rintro e w8 ⟨rfl,rfl⟩)
    clear g1 g2
    obtain ⟨hr,hcl,hcm,hsa⟩:=HR.out
    have hML:(s1'.tr++l).length=pn+qn:=by rw [List.length_append,hpn,hqn]
    rw [hML] at hr hcl
    have HSd:=Lib.hid (And.intro H7.out True.intro)
    rcases Nat.eq_zero_or_pos qn with q0|q0
    ·subst q0
     have hpp:pn≤c2:=hcl
     clear hr hsa HR hcl
     go_wp2
     all_goals
      go_loopw [63] (λi wr=>i= .int .i64 0∧Wr Nil w7 wr) (λ_ _=>0)
      case atStart=>exact ⟨rfl,Wr.refl _ _⟩
      case round=>
       obtain ⟨rfl,hW2⟩:=hrel
       have HZ:=Lib.hid (HSd.out.1.after hW2)
       clear hW2
       go_wp2
       go_roundw
       case rel=>exact ⟨k+1,hlt,by go_num,by rw [HS.out.2,←HC2.out.2,HS2.out.1],_,by rw [HS.out.2];exact HZ.out⟩
       case measure=>simp [intOf];omega
    rcases hr.at (λx=>by simp [Ent.cells]) with h0|⟨g2,o2,rfl,hcell2⟩
    ·omega
    have hcp:c2≠pn:=by omega
    have HL:=Lib.hid (And.intro hcell2 (And.intro hpn hqn))
    clear hr hsa HR hcell2 hcl
    go_wp2
    go_loopw [63] (λi wr=>∃ j:Nat,j≤qn∧i= .int .i64 j∧Wr Nil w7 wr) (λi _=>qn-(intOf i).toNat)
    case atStart=>exact ⟨0,Nat.zero_le _,rfl,Wr.refl _ _⟩
    case round=>
     obtain ⟨j,hj,rfl,hW2⟩:=hrel
     by_cases hjl:j<qn
     ·have hjI:(j:Int)<qn:=by omega
      obtain ⟨hc2,hpn,hqn⟩:=HL.out
      have hx:(s1'.tr++l)[pn+j]? =some (l[j]'(by omega)):=by rw [List.getElem?_append_right (by omega),←hpn,Nat.add_sub_cancel_left];exact List.getElem?_eq_getElem _
      obtain ⟨en,hen⟩:∃ en,en=l[j]'(by omega):=⟨_,rfl⟩
      have hem:en∈l:=by rw [hen];exact List.getElem_mem _
      rw [←hen] at hx
      have hnw:en.now=_:=HC2.out.1 en hem
      rw [←HC2.out.2,HS2.out.1] at hnw
      have ha:∀ i,o2+((pn+j)*4+i)=o2+pn*4+j*4+i:=λi=>by omega
      have z0:wr.cell? ⟨g2,o2+pn*4+j*4,none⟩=some (.int .i64 en.k):=hW2.old (by have h:=hc2 _ en hx 0 _ rfl;rw [ha] at h;exact h)
      have z1:wr.cell? ⟨g2,o2+pn*4+j*4+1,none⟩=some (.int .i64 en.t):=hW2.old (by have h:=hc2 _ en hx 1 _ rfl;rw [ha] at h;exact h)
      have z2:wr.cell? ⟨g2,o2+pn*4+j*4+2,none⟩=some (.int .i64 en.now):=hW2.old (by have h:=hc2 _ en hx 2 _ rfl;rw [ha] at h;exact h)
      have z3:wr.cell? ⟨g2,o2+pn*4+j*4+3,none⟩=some (.bool en.lead):=hW2.old (by have h:=hc2 _ en hx 3 _ rfl;rw [ha] at h;exact h)
      rw [hnw] at z2
      have HW2:=Lib.hid hW2
      clear hW2 hc2 hpn hqn hx hen hem ha hnw
      generalize en.k=ek at*
      generalize en.t=et at*
      generalize en.lead=el at*
      go_wp2
      go_roundw
      case rel=>exact ⟨j+1,hjl,by go_num,HW2.out.alloc _⟩
      case measure=>simp [intOf];omega
     have hjE:j=qn:=by omega
     subst hjE
     have HZ:=Lib.hid (HSd.out.1.after hW2)
     clear hW2
     go_wp2
     go_roundw
     case rel=>exact ⟨k+1,hlt,by go_num,by rw [HS.out.2,←HC2.out.2,HS2.out.1],_,by rw [HS.out.2];exact HZ.out⟩
     case measure=>simp [intOf];omega
  have hkE:len1=k:=by omega
  subst hkE
  have HZ:=Lib.hid hM.lk.wr
  clear hM
  go_wp2_with (first|(go_at_call 18;(with_reducible refine (ma_awake _).mono ?_);intro e w9 hq;unfold AwkPost at hq;obtain ⟨rfl,hW9⟩:=hq))
  go_ret
  exact ⟨rfl,(HO.out.nil (HZ.out.nil hW9)).law⟩
set_option maxRecDepth 100000 in
theorem lifted (os:Os) (started:os.Started) (H:Type) (enc:TypeId×Value→H):
  ReturnsInHanded {} checked os 9 .any (Rows.machineClockSpec.pre6 enc prog f9 Rows.machineClockRow.domain false) (Rows.machineClockSpec.post enc prog f9 false true false false):=by
 refine returnsInHanded_of_change (C:=checked) own started (by kernel_rfl) func9
  (ChangeSpec.witness6 (enc:=enc) (C:=checked) false ⟨#[],#[.agg #[.int .i64 0,.slice none 0 0,.int .u32 0,.int .i64 0,.int .i64 0,.int .i64 0,.int .i64 0,.int .i64 0],.slice none 0 0],[]⟩ 8 (by kernel_rfl) (by kernel_rfl) (by kernel_rfl) (by kernel_rfl)) ?_
 intro W base args ds gs before hval0 hW hcnd _
 have hval:∀ (j:Nat) t v,f9.params[j]? =some t→args[j]? =some v→Value.okWide prog W .any base t v:=hval0
 have hW':=hW
 obtain ⟨p,q,hA0,hV,rfl,hfz,hnd⟩:=hW
 have hA:DataW.TrodAll enc prog W 0 (λ_=>true) true f9.params.toList args.toList ds p:=hA0
 rw [params9] at hA hval
 obtain ⟨v0,vs0,d0,ds0,p0,q0,hargs,rfl,rfl,h0,r0'⟩:=trodAll_cons hA
 obtain ⟨v1,vs1,d1,ds1,p1,q1,rfl,rfl,rfl,h1,r1'⟩:=trodAll_cons r0'
 obtain ⟨rfl,rfl,rfl⟩:=trodAll_nil r1'
 obtain rfl:args= #[v0,v1]:=by cases args;simp_all
 obtain ⟨rfl,rfl⟩:=trodVars_none hV
 have k0:=h0
 have lt0:∀ x∈p0,x.block<W.heap.size:=by obtain ⟨m,hm⟩:=k0;exact DataW.trod_lt m _ _ _ hm
 obtain ⟨cs0,rfl,hl0,hf0⟩:=open_struct_fields (m:=8) underlying25 (by kernel_rfl) (by kernel_rfl) (hval 0 25 v0 rfl rfl) h0
 obtain ⟨c0_0,c0_1,c0_2,c0_3,c0_4,c0_5,c0_6,c0_7,rfl⟩:=list8 hl0
 obtain ⟨n0_0,y0_0,e0_0⟩:=hf0 0 _ _ rfl rfl
 obtain ⟨a0_0,rfl,w0_0⟩:=fld_int underlying3 e0_0
 obtain ⟨n0_1,y0_1,e0_1⟩:=hf0 1 _ _ rfl rfl
 obtain ⟨s0_1,len0_1,cap0_1,rfl,g0_1⟩:=fld_slice underlying22 e0_1
 obtain ⟨l0_1,z0_1,r0_1,w0_1⟩:=open_slice_row underlying22 underlying3 (by kernel_rfl) g0_1
 obtain ⟨n0_2,y0_2,e0_2⟩:=hf0 2 _ _ rfl rfl
 obtain ⟨a0_2,rfl,w0_2⟩:=fld_int underlying23 e0_2
 obtain ⟨n0_3,y0_3,e0_3⟩:=hf0 3 _ _ rfl rfl
 obtain ⟨a0_3,rfl,w0_3⟩:=fld_int underlying3 e0_3
 obtain ⟨n0_4,y0_4,e0_4⟩:=hf0 4 _ _ rfl rfl
 obtain ⟨a0_4,rfl,w0_4⟩:=fld_int underlying3 e0_4
 obtain ⟨n0_5,y0_5,e0_5⟩:=hf0 5 _ _ rfl rfl
 obtain ⟨a0_5,rfl,w0_5⟩:=fld_int underlying3 e0_5
 obtain ⟨n0_6,y0_6,e0_6⟩:=hf0 6 _ _ rfl rfl
 obtain ⟨a0_6,rfl,w0_6⟩:=fld_int underlying3 e0_6
 obtain ⟨n0_7,y0_7,e0_7⟩:=hf0 7 _ _ rfl rfl
 obtain ⟨a0_7,rfl,w0_7⟩:=fld_int underlying3 e0_7
 have k1:=h1
 have lt1:∀ x∈p1,x.block<W.heap.size:=by obtain ⟨m,hm⟩:=k1;exact DataW.trod_lt m _ _ _ hm
 obtain ⟨s1,len1,cap1,rfl⟩:=okWide_slice underlying59 (hval 1 59 v1 rfl rfl)
 obtain ⟨l1,z1,r1⟩:=open_slice_ints (ks:=[.i64,.i64,.i64]) underlying59 underlying67 (by kernel_rfl) (by kernel_rfl) h1
 clear hA0 hval0
 refine (walk a0_0 s0_1 len0_1 cap0_1 z0_1 a0_2 a0_3 a0_4 a0_5 a0_6 a0_7 s1 len1 cap1 z1 W w0_0 l0_1 r0_1 w0_1 w0_2 w0_3 w0_4 w0_5 w0_6 w0_7 l1 r1).mono λe W' ⟨he,bel⟩=> ?_
 subst he
 exact ⟨_,rfl,_,_,_,[],_,[],hW',trodAll_mk1 (shut_bool underlying4 _),(trodAll_cons_mk (Below.trod laidOut (by kernel_rfl) (of_decide_eq_true (by kernel_rfl)) k0 bel lt0) (trodAll_cons_mk (Below.trod laidOut (by kernel_rfl) (of_decide_eq_true (by kernel_rfl)) k1 bel lt1) trodAll_mk0)),rfl,bel.frame _,λh=>by cases h⟩
theorem over:Rows.machineClockRow.holds Tryz.pinned (OpenSpec.ofChange Rows.machineClockSpec):=
 OpenClaim.holds_of_wide 9 f9 rfl rfl rfl rfl rfl rfl rfl ⟨rfl,rfl,rfl,rfl,rfl⟩ rfl rfl rfl rfl rfl (by kernel_rfl) func9 (by kernel_rfl)
  (of_decide_eq_true (by kernel_rfl)) (by unfold Func.isWrapper;first|(rw [if_pos (by decide+kernel)];kernel_rfl)|(rw [if_neg (by decide+kernel)];exact ⟨rfl,rfl⟩))
  (λos started H enc _=>lifted os started H enc)
theorem proved:Rows.MachineClockSaid:=over
#print axioms proved
end Go.Proofs.YtcikfcplagelaaaGreat.machineClock

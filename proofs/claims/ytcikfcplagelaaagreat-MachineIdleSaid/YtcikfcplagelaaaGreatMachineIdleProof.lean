import Derived.Test.YtcikfcplagelaaaGreatMaLw
import Derived.Test.YtcikfcplagelaaaGreatMaAw
namespace Go.Proofs.YtcikfcplagelaaaGreat.machineIdle
set_option maxHeartbeats 8000000
open _root_.Go.Proofs.Tryz
open Go.ChangeShapes Go.WideShapes Go.ChangeAt Go.RowKit
set_option linter.unusedVariables false
theorem own:ownKnob prog.godebug=none:=by kernel_rfl
theorem laidOut:laidOutB prog=true:=by kernel_rfl
set_option maxRecDepth 100000 in
theorem walk (a0_0:Int) (s0_1:Option Addr) (len0_1 cap0_1:Nat) (z0_1:List Int) (a0_2:Int) (a0_3:Int) (a0_4:Int) (a0_5:Int) (a0_6:Int) (a0_7:Int) (s1:Option Addr) (len1 cap1:Nat) (z1:Nat→Nat→Int) (w:World) (w0_0:(Lit.int .i64 a0_0).wf=true) (l0_1:len0_1≤cap0_1∧cap0_1≤maxLen∧(s0_1=none→cap0_1=0)) (r0_1:RowAt .i64 w s0_1 len0_1 z0_1) (w0_1:∀ z∈z0_1,(Lit.int .i64 z).wf=true) (w0_2:(Lit.int .u32 a0_2).wf=true) (w0_3:(Lit.int .i64 a0_3).wf=true) (w0_4:(Lit.int .i64 a0_4).wf=true) (w0_5:(Lit.int .i64 a0_5).wf=true) (w0_6:(Lit.int .i64 a0_6).wf=true) (w0_7:(Lit.int .i64 a0_7).wf=true) (l1:len1≤cap1∧cap1≤maxLen∧(s1=none→cap1=0)) (r1:Structs w [.i64,.i64,.i64] s1 len1 z1):
  Calls prog 5 #[.agg #[.int .i64 a0_0,.slice s0_1 len0_1 cap0_1,.int .u32 a0_2,.int .i64 a0_3,.int .i64 a0_4,.int .i64 a0_5,.int .i64 a0_6,.int .i64 a0_7],.slice s1 len1 cap1] w λe w'=>e= .returned (.bool true)∧Below w.heap.size w w':=by
 have hm0:len0_1≤9223372036854775807:=by have:=l0_1.1;have:=l0_1.2.1;unfold maxLen at this;omega
 obtain ⟨v0,v1⟩:=u32_bd w0_2
 obtain ⟨X,hX⟩:∃ X,X=w.alloc (.cells #[.int .i64 a0_0,.slice s0_1 len0_1 cap0_1,.int .u32 a0_2,.int .i64 a0_3,.int .i64 a0_4,.int .i64 a0_5,.int .i64 a0_6,.int .i64 a0_7] 25):=⟨_,rfl⟩
 have hWX:Wr Nil w X:=by rw [hX];exact (Wr.refl _ w).alloc _
 have hblk:X.heap[w.heap.size]? =some (.cells #[.int .i64 a0_0,.slice s0_1 len0_1 cap0_1,.int .u32 a0_2,.int .i64 a0_3,.int .i64 a0_4,.int .i64 a0_5,.int .i64 a0_6,.int .i64 a0_7] 25 (0,0)):=by rw [hX];exact Go.Deep.blk_alloc_new _ _
 have x0:X.cell? ⟨w.heap.size,0,none⟩=some (.int .i64 a0_0):=(blk_cell hblk 0).trans rfl
 have x1:X.cell? ⟨w.heap.size,1,none⟩=some (.slice s0_1 len0_1 cap0_1):=(blk_cell hblk 1).trans rfl
 have x2:X.cell? ⟨w.heap.size,2,none⟩=some (.int .u32 a0_2):=(blk_cell hblk 2).trans rfl
 have x3:X.cell? ⟨w.heap.size,3,none⟩=some (.int .i64 a0_3):=(blk_cell hblk 3).trans rfl
 have x4:X.cell? ⟨w.heap.size,4,none⟩=some (.int .i64 a0_4):=(blk_cell hblk 4).trans rfl
 have x5:X.cell? ⟨w.heap.size,5,none⟩=some (.int .i64 a0_5):=(blk_cell hblk 5).trans rfl
 have x6:X.cell? ⟨w.heap.size,6,none⟩=some (.int .i64 a0_6):=(blk_cell hblk 6).trans rfl
 have x7:X.cell? ⟨w.heap.size,7,none⟩=some (.int .i64 a0_7):=(blk_cell hblk 7).trans rfl
 have HX:=Lib.hid hX
 have rX:=r0_1.after hWX
 have HW:=Lib.hid hWX
 have Hblk:=Lib.hid hblk
 clear hX hblk
 clear w0_0 w0_1 w0_2 w0_3 w0_4 w0_5 w0_6 w0_7 hWX
 have hm1:len1≤9223372036854775807:=by have:=l1.1;have:=l1.2.1;unfold maxLen at this;omega
 have hev:=ev_of r1
 have cF:=fn_any (cap:=cap0_1) (kd:=a0_0) (v:=a0_2) (sz:=a0_3) (pl:=a0_4) (B:=a0_5) (G:=a0_6) (D:=a0_7) rX hm0 s1 len1 cap1 hm1 200
 cases hf:decide (len0_1≤8∧chk a0_0 len0_1 z0_1 a0_3 a0_4 a0_5 a0_6 a0_7=0∧(len1:Int)≤200)
 ·rw [hf] at cF
  clear hf r1 r0_1 rX hev
  go_enter func5,ntmps5
  go_upto_region 1 with fail
  rw [←HX.out]
  go_wp2_with (first
   |(go_at_call 17;(with_reducible refine cF.mono ?_);intro e w2 hq;unfold FnPost at hq;obtain ⟨rfl,hW2⟩:=hq;have H2:=Lib.hid hW2;clear hW2 cF)
   |(go_at_call 18;(with_reducible refine (ma_awake _).mono ?_);intro e w9 hq;unfold AwkPost at hq;obtain ⟨rfl,hW9⟩:=hq))
  go_ret
  exact ⟨rfl,(HW.out.nil (H2.out.nil hW9)).law⟩
 obtain ⟨n8,h0,hm⟩:=fn_yes hf
 rw [hf] at cF
 clear hf
 obtain ⟨ho,n1,n2⟩:=chk_k h0
 rcases rX.at with e0|⟨b,o,rfl,hc⟩
 ·omega
 have hb:b<X.heap.size:=World.block_lt_of_cell? X _ (hc 0 (by omega))
 have cN:=λW (k:Wr Nil X W)=>nw_good (cap:=cap0_1) λW' k'=>bn_any (cap:=cap0_1) h0 (by omega) (rX.after (k.nil k')) (Nat.lt_of_lt_of_le hb (k.nil k').size) ⟨v0,v1⟩
 have HN:=Lib.hid cN
 have HE:=Lib.hid (And.intro hev hm)
 have hlen:len1≤1000:=by omega
 have H8:=Lib.hid (And.intro h0 n8)
 clear r1 r0_1 rX hev hb v0 v1 hc ho n1 n2 h0 cN hm n8 Hblk
 go_enter func5,ntmps5
 go_upto_region 1 with fail
 rw [←HX.out]
 go_upto_region 6 with (first
  |(go_at_call 17;(with_reducible refine cF.mono ?_);intro e w2 hq;unfold FnPost at hq;obtain ⟨rfl,hW2⟩:=hq;have H2:=Lib.hid hW2;have ya0:=hW2.old x0;have ya1:=hW2.old x1;have ya2:=hW2.old x2;have ya3:=hW2.old x3;have ya4:=hW2.old x4;have ya5:=hW2.old x5;have ya6:=hW2.old x6;have ya7:=hW2.old x7;clear hW2 cF)
  |(go_at_call 19;(with_reducible refine (HN.out _ H2.out).mono ?_);intro e w3 hq;unfold MnPost at hq;obtain ⟨a,m,sb,rfl,⟨hk,hN⟩,hM⟩:=hq;have hf0:=newM_few a hN.zero.2.2;have H3:=Lib.hid (And.intro hM (And.intro hf0 (And.intro hk hN)));clear hk hN hM hf0))
 have HV:=Lib.hid (HE.out.1.old (HW.out.nil H2.out))
 have HO:=Lib.hid (HW.out.nil H2.out)
 have hF:=λk=>H3.out.2.1.runs z1 k
 have hls:∀ k,k≤len1→((newM a).runs z1 k).tr.length≤4000:=λk hk=>by have:=(hF k).tr;omega
 have HF:=Lib.hid (And.intro hF hls)
 obtain ⟨base,hbs⟩:∃ base,base=w3.heap.size:=⟨_,rfl⟩
 have hM0:McAt w2 base w3 m sb (newM a) (.slice none 0 0):=by rw [hbs];exact H3.out.1
 have HM:=Lib.hid hM0
 clear ya0 x0 ya1 x1 ya2 x2 ya3 x3 ya4 x4 ya5 x5 ya6 x6 ya7 x7 HN HX hF hls hbs hM0
 clear H3
 go_wp2
 go_loopw [33] (λi wr=>∃ k:Nat,k≤len1∧i= .int .i64 k∧∃ tv,McAt w2 base wr m sb ((newM a).runs z1 k) tv) (λi _=>len1-(intOf i).toNat)
 case atStart=>exact ⟨0,Nat.zero_le _,rfl,_,HM.out⟩
 case round=>
  clear HM
  obtain ⟨k,hk,rfl,tv,hM⟩:=hrel
  by_cases hlt:k<len1
  ·have hkI:(k:Int)<len1:=by omega
   rcases HV.out.old hM.lk.wr with e0|⟨gb,go,rfl,hcell⟩
   ·omega
   have y0:wr.cell? ⟨gb,go+k*3,none⟩=some (.int .i64 (z1 k 0)):=hcell k hlt 0 (by decide)
   have y1:wr.cell? ⟨gb,go+k*3+1,none⟩=some (.int .i64 (z1 k 1)):=hcell k hlt 1 (by decide)
   have y2:wr.cell? ⟨gb,go+k*3+2,none⟩=some (.int .i64 (z1 k 2)):=hcell k hlt 2 (by decide)
   obtain ⟨X',hX'⟩:∃ X',X'=wr.alloc (.cells #[.int .i64 (z1 k 0),.int .i64 (z1 k 1),.int .i64 (z1 k 2)] 67):=⟨_,rfl⟩
   have hWX:Wr Nil wr X':=by rw [hX'];exact (Wr.refl _ _).alloc _
   obtain ⟨B',hBe⟩:∃ B',B'=wr.heap.size:=⟨_,rfl⟩
   have hB:X'.heap[B']? =some (.cells #[.int .i64 (z1 k 0),.int .i64 (z1 k 1),.int .i64 (z1 k 2)] 67 (0,0)):=by rw [hX',hBe];exact Go.Deep.blk_alloc_new wr _
   have hMX:=hM.after hWX
   have hbB:base≤B':=by rw [hBe];exact hM.top
   have htB:∀ j,tv.ownBlock=some j→j<B':=λj hj=>by have:=hM.lt j hj;omega
   have HX0:=Lib.hid (And.intro hX' hBe)
   have hfew:=HF.out.1 k
   have hl1:=HF.out.2 k hk
   have hl2:=HF.out.2 (k+1) hlt
   have hid:((newM a).runs z1 k).ok (z1 k 0) (z1 k 1) (z1 k 2)=false→((newM a).runs z1 (k+1)).now=_∧((newM a).runs z1 (k+1)).tr=_∧((newM a).runs z1 (k+1)).a.ps=_:=λh=>do_idle _ h
   have hend:=λh=>ok_end ((newM a).runs z1 k) (t:=z1 k 1) (N:=z1 k 2) h
   have cD:=λW tv2 (q:McAt w2 base W m sb ((newM a).runs z1 k) tv2)=>mc_do q hfew (by omega) (z1 k 0) (z1 k 1) (z1 k 2)
   change ∀ W tv2,McAt w2 base W m sb ((newM a).runs z1 k) tv2→Calls _ _ _ W (MPost _ _ _ _ ((newM a).runs z1 (k+1)) _ _ _) at cD
   have hq2:((newM a).runs z1 (k+1)).a.q=((newM a).runs z1 k).a.q:=((newM a).runs_q z1 (k+1)).2.2.2.1.trans ((newM a).runs_q z1 k).2.2.2.1.symm
   have cS:=mc_state hMX (z1 k 1)
   have c0:=hMX.c0
   have p0:=hMX.lk.port.cell0
   have HB:=Lib.hid (And.intro hB (And.intro hbB (And.intro htB hMX)))
   have HC:=Lib.hid (And.intro hid (And.intro hend (And.intro hl1 (And.intro hl2 hq2))))
   have HD:=Lib.hid cD
   clear hcell hX' hBe hB hM hWX hfew hl1 hl2 hMX hbB htB hid hend cD hq2
   generalize hs1:(newM a).runs z1 k=s1' at*
   generalize hs2:(newM a).runs z1 (k+1)=s2' at*
   have HS:=Lib.hid (And.intro hs1 hs2)
   clear hs1 hs2
   obtain ⟨bv,hbv⟩:∃ bv,bv=s1'.ok (z1 k 0) (z1 k 1) (z1 k 2):=⟨_,rfl⟩
   rw [←hbv] at HD HC
   obtain ⟨x,hx⟩:∃ x,x=s1'.a.s.stI (z1 k 1):=⟨_,rfl⟩
   rw [←hx] at cS HC
   have HBv:=Lib.hid hbv
   clear hbv hx
   generalize z1 k 0=K at*
   generalize z1 k 1=t at*
   generalize z1 k 2=N at*
   go_upto_region 9 with fail
   obtain ⟨hX',hBe⟩:=HX0.out
   rw [←hX',←hBe]
   clear HX0 hX' hBe y0 y1 y2
   have q0:X'.cell? ⟨B',0,none⟩=some (.int .i64 K):=(blk_cell HB.out.1 0).trans rfl
   have q1:X'.cell? ⟨B',1,none⟩=some (.int .i64 t):=(blk_cell HB.out.1 1).trans rfl
   have q2:X'.cell? ⟨B',2,none⟩=some (.int .i64 N):=(blk_cell HB.out.1 2).trans rfl
   have hwl:s1'.a.ps.ws.length=s1'.a.ps.ws.length:=rfl
   go_upto_region 11 with (first
    |(go_at_call 24;(with_reducible refine cS.mono ?_);rintro e w4 ⟨rfl,rfl⟩)
    |(go_at_call 25;(with_reducible refine (words_any HB.out.2.2.2.lk.port.mem).mono ?_);intro e w5 hq;unfold WordsPost at hq;obtain ⟨g,rfl,hrow,hg,hW7⟩:=hq;have H5:=Lib.hid (And.intro (row_words hrow) (And.intro hg (And.intro hW7 (HB.out.2.2.2.after hW7))));have r0:=hW7.old q0;have r1:=hW7.old q1;have r2:=hW7.old q2;have cT:=mc_trace H5.out.2.2.2 (Nat.le_trans HC.out.2.2.1 (by decide));clear hrow hg hW7)
    |(go_at_call 26;(with_reducible refine cT.mono ?_);intro e w6 hq;unfold CtPost at hq;obtain ⟨sa,c,rfl,_,_,_,_,hW6⟩:=hq;have t0:=hW6.old r0;have t1:=hW6.old r1;have t2:=hW6.old r2;have cW:=mc_now (H5.out.2.2.2.after hW6);have H6:=Lib.hid (And.intro hW6 (H5.out.2.2.2.after hW6));clear hW6 cT)
    |(go_at_call 27;(with_reducible refine cW.mono ?_);rintro e w7 ⟨rfl,rfl⟩))
   clear q0 q1 q2 r0 r1 r2 c0 p0 hwl
   have hfar:∀ W tv2,Went s2'.a.q m sb w6 tv W tv2→∀ b,base≤b→(∀ j,tv.ownBlock=some j→j≠b)→b<w6.heap.size→W.heap[b]? =w6.heap[b]? :=λW tv2 h b h1 h2 h3=>h.wr.block b h3 λe=>by
    have hl:=HB.out.2.2.2.low
    rcases e with e|e|e|e
    ·rw [HC.out.2.2.2.2] at e;omega
    ·omega
    ·omega
    ·exact h2 _ e rfl
   have HFa:=Lib.hid hfar
   clear hfar
   have hb6:w6.heap[B']? =some (.cells #[.int .i64 K,.int .i64 t,.int .i64 N] 67 (0,0)):=((H5.out.2.2.1.nil H6.out.1).block _ (blk_lt HB.out.1) id).trans HB.out.1
   have hbx:∀ W tv2,Went s2'.a.q m sb w6 tv W tv2→W.cell? ⟨B',0,none⟩=some (.int .i64 K):=λW tv2 h=>(blk_cell ((HFa.out W tv2 h B' HB.out.2.1 (λj hj e=>by have:=HB.out.2.2.1 j hj;omega) (blk_lt hb6)).trans hb6) 0).trans rfl
   have HBx:=Lib.hid hbx
   clear hb6 hbx
   cases bv
   ·obtain ⟨e1,e2,e3⟩:=HC.out.1 rfl
    have HEq:=Lib.hid (And.intro e1 (And.intro e2 e3))
    clear e1 e2 e3
    go_upto_region 14 with (go_at_call 22;(with_reducible refine (HD.out _ _ H6.out.2).mono ?_);intro e w8 hq;unfold MPost at hq;obtain ⟨rfl,tv2,hM2,hW8⟩:=hq;have H8':=Lib.hid (And.intro hM2 hW8);clear hM2 hW8)
    obtain ⟨hM2,hW8⟩:=H8'.out
    have hg5:=H5.out.2.1
    have htg:∀ j,tv.ownBlock=some j→j<X'.heap.size:=λj hj=>(HB.out.2.2.2.lt j hj).2
    have hb6:base≤X'.heap.size:=HB.out.2.2.2.top
    have hrg:RowAt .u32 w8 (some ⟨g,0,none⟩) s1'.a.ps.ws.length s1'.a.ps.ws:=by
     have h6:=H5.out.1.after H6.out.1
     refine ⟨h6.len,h6.empty,λb hb j hj=> ?_⟩
     have hc:=h6.cell b hb j hj
     cases hb
     rw [Addr.add_lit] at hc ⊢
     exact (World.cell?_of_block (HFa.out _ _ hW8 g (Nat.le_trans hb6 hg5) (λi hi e=>by have:=htg i hi;omega) (World.block_lt_of_cell? w6 _ hc))).trans hc
    have c0:=hM2.c0
    have p0:=hM2.lk.port.cell0
    have HM2:=Lib.hid hM2
    have HRg:=Lib.hid hrg
    clear hM2 hW8 hrg hg5 htg hb6 t0 t1 t2
    go_upto_region 15 with (go_at_call 25;(with_reducible refine (words_any HM2.out.lk.port.mem).mono ?_);intro e w9 hq;unfold WordsPost at hq;obtain ⟨g2,rfl,hrow,hg,hW7⟩:=hq;have H9:=Lib.hid (And.intro (row_words hrow) (And.intro (HRg.out.after hW7) (HM2.out.after hW7)));clear hrow hg hW7)
    obtain ⟨h1,h2,h3⟩:=H9.out
    rw [HEq.out.2.2] at h1
    rw [HEq.out.2.2]
    have H9':=Lib.hid (And.intro h1 (And.intro h2 h3))
    clear h1 h2 h3 H9 c0 p0
    have hwl:=HB.out.2.2.2.lk.port.words
    generalize hws:s1'.a.ps.ws=ws at*
    go_wp2
    go_loopw [75] (λi wr=>∃ j:Nat,j≤ws.length∧i= .int .i64 j∧Wr Nil w9 wr) (λi _=>ws.length-(intOf i).toNat)
    case atStart=>exact ⟨0,Nat.zero_le _,rfl,Wr.refl _ _⟩
    case round=>
     obtain ⟨j,hj,rfl,hW2⟩:=hrel
     by_cases hjl:j<ws.length
     ·have hjI:(j:Int)<(ws.length:Nat):=by omega
      have u1:wr.cell? ⟨g,j,none⟩=some (.int .u32 (ws.getD j 0)):=by have h:=(H9'.out.2.1.after hW2).cell _ rfl j hjl;rw [Addr.add_lit,Nat.zero_add] at h;exact h
      have u2:wr.cell? ⟨g2,j,none⟩=some (.int .u32 (ws.getD j 0)):=by have h:=(H9'.out.1.after hW2).cell _ rfl j hjl;rw [Addr.add_lit,Nat.zero_add] at h;exact h
      have g1:decide (ws.length≤j)=false:=decide_eq_false (by omega)
      have g3:decide (((ws.length:Nat):Int)≤(j:Int))=false:=decide_eq_false (by omega)
      have HW2:=Lib.hid hW2
      clear hW2
      generalize ws.getD j 0=y at*
      go_upto_region 18 with fail
      go_big_quiet (fail)
      go_wp2
      go_roundw
      case rel=>exact ⟨j+1,hjl,by go_num,HW2.out.drewN _⟩
      case measure=>simp [intOf];omega
     have hjE:j=ws.length:=by omega
     subst hjE
     have h3:=H9'.out.2.2.after hW2
     have cT:=mc_trace h3 (Nat.le_trans HC.out.2.2.2.1 (by decide))
     rw [HEq.out.2.1] at cT
     have H3':=Lib.hid h3
     have hnn:(s1'.now != s1'.now)=false:=by simp
     clear hW2 h3
     go_wp2_with (first
      |(go_at_call 26;(with_reducible refine cT.mono ?_);intro e w10 hq;unfold CtPost at hq;obtain ⟨sa2,c2,rfl,_,_,_,_,hW10⟩:=hq;have cW2:=mc_now (H3'.out.after hW10);rw [HEq.out.1] at cW2;have H10:=Lib.hid (H3'.out.after hW10);clear hW10 cT)
      |(go_at_call 27;(with_reducible refine cW2.mono ?_);rintro e w11 ⟨rfl,rfl⟩))
     go_roundw
     case rel=>exact ⟨k+1,hlt,by go_num,_,by rw [HS.out.2];exact H10.out⟩
     case measure=>simp [intOf];omega
   ·by_cases hK:K=4
    ·subst hK
     obtain rfl:=HC.out.2.1 HBv.out.symm
     go_wp2_with (go_at_call 22;(with_reducible refine (HD.out _ _ H6.out.2).mono ?_);intro e w8 hq;unfold MPost at hq;obtain ⟨rfl,tv2,hM2,hW8⟩:=hq;have u0:=HBx.out _ _ hW8;have H8':=Lib.hid (And.intro hM2 hW8);clear hM2 hW8)
     go_roundw
     case rel=>exact ⟨k+1,hlt,by go_num,_,by rw [HS.out.2];exact H8'.out.1⟩
     case measure=>simp [intOf];omega
    ·go_wp2_with (go_at_call 22;(with_reducible refine (HD.out _ _ H6.out.2).mono ?_);intro e w8 hq;unfold MPost at hq;obtain ⟨rfl,tv2,hM2,hW8⟩:=hq;have u0:=HBx.out _ _ hW8;have H8':=Lib.hid (And.intro hM2 hW8);clear hM2 hW8)
     go_roundw
     case rel=>exact ⟨k+1,hlt,by go_num,_,by rw [HS.out.2];exact H8'.out.1⟩
     case measure=>simp [intOf];omega
  have hkE:len1=k:=by omega
  subst hkE
  have HZ:=Lib.hid hM.lk.wr
  clear hM
  go_wp2_with (first|(go_at_call 18;(with_reducible refine (ma_awake _).mono ?_);intro e w9 hq;unfold AwkPost at hq;obtain ⟨rfl,hW9⟩:=hq))
  go_ret
  exact ⟨rfl,(HO.out.nil (HZ.out.nil hW9)).law⟩
set_option maxRecDepth 100000 in
theorem lifted (os:Os) (started:os.Started) (H:Type) (enc:TypeId×Value→H):
  ReturnsInHanded {} checked os 5 .any (Rows.machineIdleSpec.pre6 enc prog f5 Rows.machineIdleRow.domain false) (Rows.machineIdleSpec.post enc prog f5 false true false false):=by
 refine returnsInHanded_of_change (C:=checked) own started (by kernel_rfl) func5
  (ChangeSpec.witness6 (enc:=enc) (C:=checked) false ⟨#[],#[.agg #[.int .i64 0,.slice none 0 0,.int .u32 0,.int .i64 0,.int .i64 0,.int .i64 0,.int .i64 0,.int .i64 0],.slice none 0 0],[]⟩ 8 (by kernel_rfl) (by kernel_rfl) (by kernel_rfl) (by kernel_rfl)) ?_
 intro W base args ds gs before hval0 hW hcnd _
 have hval:∀ (j:Nat) t v,f5.params[j]? =some t→args[j]? =some v→Value.okWide prog W .any base t v:=hval0
 have hW':=hW
 obtain ⟨p,q,hA0,hV,rfl,hfz,hnd⟩:=hW
 have hA:DataW.TrodAll enc prog W 0 (λ_=>true) true f5.params.toList args.toList ds p:=hA0
 rw [params5] at hA hval
 obtain ⟨v0,vs0,d0,ds0,p0,q0,hargs,rfl,rfl,h0,r0'⟩:=trodAll_cons hA
 obtain ⟨v1,vs1,d1,ds1,p1,q1,rfl,rfl,rfl,h1,r1'⟩:=trodAll_cons r0'
 obtain ⟨rfl,rfl,rfl⟩:=trodAll_nil r1'
 obtain rfl:args= #[v0,v1]:=by cases args;simp_all
 obtain ⟨rfl,rfl⟩:=trodVars_none hV
 have k0:=h0
 have lt0:∀ x∈p0,x.block<W.heap.size:=by obtain ⟨m,hm⟩:=k0;exact DataW.trod_lt m _ _ _ hm
 obtain ⟨cs0,rfl,hl0,hf0⟩:=open_struct_fields (m:=8) underlying25 (by kernel_rfl) (by kernel_rfl) (hval 0 25 v0 rfl rfl) h0
 obtain ⟨c0_0,c0_1,c0_2,c0_3,c0_4,c0_5,c0_6,c0_7,rfl⟩:=list8 hl0
 obtain ⟨n0_0,y0_0,e0_0⟩:=hf0 0 _ _ rfl rfl
 obtain ⟨a0_0,rfl,w0_0⟩:=fld_int underlying3 e0_0
 obtain ⟨n0_1,y0_1,e0_1⟩:=hf0 1 _ _ rfl rfl
 obtain ⟨s0_1,len0_1,cap0_1,rfl,g0_1⟩:=fld_slice underlying22 e0_1
 obtain ⟨l0_1,z0_1,r0_1,w0_1⟩:=open_slice_row underlying22 underlying3 (by kernel_rfl) g0_1
 obtain ⟨n0_2,y0_2,e0_2⟩:=hf0 2 _ _ rfl rfl
 obtain ⟨a0_2,rfl,w0_2⟩:=fld_int underlying23 e0_2
 obtain ⟨n0_3,y0_3,e0_3⟩:=hf0 3 _ _ rfl rfl
 obtain ⟨a0_3,rfl,w0_3⟩:=fld_int underlying3 e0_3
 obtain ⟨n0_4,y0_4,e0_4⟩:=hf0 4 _ _ rfl rfl
 obtain ⟨a0_4,rfl,w0_4⟩:=fld_int underlying3 e0_4
 obtain ⟨n0_5,y0_5,e0_5⟩:=hf0 5 _ _ rfl rfl
 obtain ⟨a0_5,rfl,w0_5⟩:=fld_int underlying3 e0_5
 obtain ⟨n0_6,y0_6,e0_6⟩:=hf0 6 _ _ rfl rfl
 obtain ⟨a0_6,rfl,w0_6⟩:=fld_int underlying3 e0_6
 obtain ⟨n0_7,y0_7,e0_7⟩:=hf0 7 _ _ rfl rfl
 obtain ⟨a0_7,rfl,w0_7⟩:=fld_int underlying3 e0_7
 have k1:=h1
 have lt1:∀ x∈p1,x.block<W.heap.size:=by obtain ⟨m,hm⟩:=k1;exact DataW.trod_lt m _ _ _ hm
 obtain ⟨s1,len1,cap1,rfl⟩:=okWide_slice underlying59 (hval 1 59 v1 rfl rfl)
 obtain ⟨l1,z1,r1⟩:=open_slice_ints (ks:=[.i64,.i64,.i64]) underlying59 underlying67 (by kernel_rfl) (by kernel_rfl) h1
 clear hA0 hval0
 refine (walk a0_0 s0_1 len0_1 cap0_1 z0_1 a0_2 a0_3 a0_4 a0_5 a0_6 a0_7 s1 len1 cap1 z1 W w0_0 l0_1 r0_1 w0_1 w0_2 w0_3 w0_4 w0_5 w0_6 w0_7 l1 r1).mono λe W' ⟨he,bel⟩=> ?_
 subst he
 exact ⟨_,rfl,_,_,_,[],_,[],hW',trodAll_mk1 (shut_bool underlying4 _),(trodAll_cons_mk (Below.trod laidOut (by kernel_rfl) (of_decide_eq_true (by kernel_rfl)) k0 bel lt0) (trodAll_cons_mk (Below.trod laidOut (by kernel_rfl) (of_decide_eq_true (by kernel_rfl)) k1 bel lt1) trodAll_mk0)),rfl,bel.frame _,λh=>by cases h⟩
theorem over:Rows.machineIdleRow.holds Tryz.pinned (OpenSpec.ofChange Rows.machineIdleSpec):=
 OpenClaim.holds_of_wide 5 f5 rfl rfl rfl rfl rfl rfl rfl ⟨rfl,rfl,rfl,rfl,rfl⟩ rfl rfl rfl rfl rfl (by kernel_rfl) func5 (by kernel_rfl)
  (of_decide_eq_true (by kernel_rfl)) (by unfold Func.isWrapper;first|(rw [if_pos (by decide+kernel)];kernel_rfl)|(rw [if_neg (by decide+kernel)];exact ⟨rfl,rfl⟩))
  (λos started H enc _=>lifted os started H enc)
theorem proved:Rows.MachineIdleSaid:=over
#print axioms proved
end Go.Proofs.YtcikfcplagelaaaGreat.machineIdle

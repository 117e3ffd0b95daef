import Derived.Test.YtcikfcplagelaaaGreatMaPt
namespace Go.Proofs.YtcikfcplagelaaaGreat.machineParts
set_option maxHeartbeats 8000000
open _root_.Go.Proofs.Tryz
open Go.ChangeShapes Go.WideShapes Go.ChangeAt Go.RowKit
set_option linter.unusedVariables false
theorem own:ownKnob prog.godebug=none:=by kernel_rfl
theorem laidOut:laidOutB prog=true:=by kernel_rfl
set_option maxRecDepth 100000 in
theorem walk (R:Int) (jk:Option Addr) (N K:Nat) (jw:List Int) (jv:Int) (U:Int) (V:Int) (Y:Int) (Z:Int) (jj:Int) (s1:Option Addr) (J O:Nat) (z1:Nat→Nat→Int) (a2:Int) (w:World) (gj:(Lit.int .i64 R).wf=true) (jy:N≤K∧K≤maxLen∧(jk=none→K=0)) (jx:RowAt .i64 w jk N jw) (gk:∀ z∈jw,(Lit.int .i64 z).wf=true) (jz:(Lit.int .u32 jv).wf=true) (gv:(Lit.int .i64 U).wf=true) (gw:(Lit.int .i64 V).wf=true) (gx:(Lit.int .i64 Y).wf=true) (gy:(Lit.int .i64 Z).wf=true) (gz:(Lit.int .i64 jj).wf=true) (l1:J≤O∧O≤maxLen∧(s1=none→O=0)) (r1:Structs w [.i64,.i64,.i64] s1 J z1) (w2:(Lit.int .u16 a2).wf=true):
  Calls prog 8 #[.agg #[.int .i64 R,.slice jk N K,.int .u32 jv,.int .i64 U,.int .i64 V,.int .i64 Y,.int .i64 Z,.int .i64 jj],.slice s1 J O,.int .u16 a2] w λe w'=>e= .returned (.bool true)∧Below w.heap.size w w':=by
 have hm0:N≤9223372036854775807:=by have:=jy.1;have:=jy.2.1;unfold maxLen at this;omega
 obtain ⟨v0,v1⟩:=u32_bd jz
 obtain ⟨X,hX⟩:∃ X,X=w.alloc (.cells #[.int .i64 R,.slice jk N K,.int .u32 jv,.int .i64 U,.int .i64 V,.int .i64 Y,.int .i64 Z,.int .i64 jj] 25):=⟨_,rfl⟩
 have hWX:Wr Nil w X:=by rw [hX];exact (Wr.refl _ w).alloc _
 have hblk:X.heap[w.heap.size]? =some (.cells #[.int .i64 R,.slice jk N K,.int .u32 jv,.int .i64 U,.int .i64 V,.int .i64 Y,.int .i64 Z,.int .i64 jj] 25 (0,0)):=by rw [hX];exact Go.Deep.blk_alloc_new _ _
 have x0:X.cell? ⟨w.heap.size,0,none⟩=some (.int .i64 R):=(blk_cell hblk 0).trans rfl
 have x1:X.cell? ⟨w.heap.size,1,none⟩=some (.slice jk N K):=(blk_cell hblk 1).trans rfl
 have x2:X.cell? ⟨w.heap.size,2,none⟩=some (.int .u32 jv):=(blk_cell hblk 2).trans rfl
 have x3:X.cell? ⟨w.heap.size,3,none⟩=some (.int .i64 U):=(blk_cell hblk 3).trans rfl
 have x4:X.cell? ⟨w.heap.size,4,none⟩=some (.int .i64 V):=(blk_cell hblk 4).trans rfl
 have x5:X.cell? ⟨w.heap.size,5,none⟩=some (.int .i64 Y):=(blk_cell hblk 5).trans rfl
 have x6:X.cell? ⟨w.heap.size,6,none⟩=some (.int .i64 Z):=(blk_cell hblk 6).trans rfl
 have x7:X.cell? ⟨w.heap.size,7,none⟩=some (.int .i64 jj):=(blk_cell hblk 7).trans rfl
 have HX:=Lib.hid hX
 have rX:=jx.after hWX
 have HW:=Lib.hid hWX
 have Hblk:=Lib.hid hblk
 clear hX hblk
 clear gj gk jz gv gw gx gy gz hWX
 have HA2:=Lib.hid (u16_bd w2)
 clear w2
 have hm1:J≤9223372036854775807:=by have:=l1.1;have:=l1.2.1;unfold maxLen at this;omega
 have hev:=ev_of r1
 have cF:=fn_any (cap:=K) (kd:=R) (v:=jv) (sz:=U) (pl:=V) (B:=Y) (G:=Z) (D:=jj) rX hm0 s1 J O hm1 300
 cases hf:decide (N≤8∧chk R N jw U V Y Z jj=0∧(J:Int)≤300)
 ·rw [hf] at cF
  clear hf r1 jx rX hev
  go_enter func8,ntmps8
  go_upto_region 1 with fail
  rw [←HX.out]
  go_wp2_with (first
   |(go_at_call 17;(with_reducible refine cF.mono ?_);intro e w2 hq;unfold FnPost at hq;obtain ⟨rfl,hW2⟩:=hq;have H2:=Lib.hid hW2;clear hW2 cF)
   |(go_at_call 18;(with_reducible refine (ma_awake _).mono ?_);intro e w9 hq;unfold AwkPost at hq;obtain ⟨rfl,hW9⟩:=hq))
  go_ret
  exact ⟨rfl,(HW.out.nil (H2.out.nil hW9)).law⟩
 obtain ⟨n8,h0,hm⟩:=fn_yes hf
 rw [hf] at cF
 clear hf
 obtain ⟨ho,n1,n2⟩:=chk_k h0
 rcases rX.at with e0|⟨b,o,rfl,hc⟩
 ·omega
 have hb:b<X.heap.size:=World.block_lt_of_cell? X _ (hc 0 (by omega))
 have cN:=λW (k:Wr Nil X W)=>nw_good (cap:=K) λW' k'=>bn_any (cap:=K) h0 (by omega) (rX.after (k.nil k')) (Nat.lt_of_lt_of_le hb (k.nil k').size) ⟨v0,v1⟩
 have HN:=Lib.hid cN
 have HE:=Lib.hid (And.intro hev hm)
 have hlen:J≤1000:=by omega
 have H8:=Lib.hid (And.intro h0 n8)
 clear r1 jx rX hev hb v0 v1 hc ho n1 n2 h0 cN hm n8 Hblk
 go_enter func8,ntmps8
 go_upto_region 1 with fail
 rw [←HX.out]
 go_upto_region 7 with (first
  |(go_at_call 17;(with_reducible refine cF.mono ?_);intro e w2' hq;unfold FnPost at hq;obtain ⟨rfl,hW2⟩:=hq;have H2:=Lib.hid hW2;have ya0:=hW2.old x0;have ya1:=hW2.old x1;have ya2:=hW2.old x2;have ya3:=hW2.old x3;have ya4:=hW2.old x4;have ya5:=hW2.old x5;have ya6:=hW2.old x6;have ya7:=hW2.old x7;clear hW2 cF)
  |(go_at_call 19;(with_reducible refine (HN.out _ H3.out.1).mono ?_);intro e w4 hq;unfold MnPost at hq;obtain ⟨d,mb,sb0,rfl,⟨hkb,hNb⟩,hMb⟩:=hq;have H4:=Lib.hid (And.intro hMb (And.intro hkb hNb));clear hkb hNb hMb)
  |(go_at_call 19;(with_reducible refine (HN.out _ H2.out).mono ?_);intro e w3 hq;unfold MnPost at hq;obtain ⟨a,ma,sa0,rfl,⟨hka,hNa⟩,hMa⟩:=hq;have H3:=Lib.hid (And.intro (H2.out.nil hMa.lk.wr) (And.intro hMa (And.intro hka hNa)));have yb0:=hMa.lk.wr.old ya0;have yb1:=hMa.lk.wr.old ya1;have yb2:=hMa.lk.wr.old ya2;have yb3:=hMa.lk.wr.old ya3;have yb4:=hMa.lk.wr.old ya4;have yb5:=hMa.lk.wr.old ya5;have yb6:=hMa.lk.wr.old ya6;have yb7:=hMa.lk.wr.old ya7;clear hka hNa hMa))
 clear ya0 yb0 x0 ya1 yb1 x1 ya2 yb2 x2 ya3 yb3 x3 ya4 yb4 x4 ya5 yb5 x5 ya6 yb6 x6 ya7 yb7 x7 HX HN
 have hb2:0≤a2∧a2<65536:=HA2.out
 obtain ⟨k,hk,hk2⟩:∃ k:Nat,a2%((J:Int)+1)=(k:Int)∧k≤J:=by
  have h1:=Int.emod_nonneg a2 (show ((J:Int)+1)≠0 by omega)
  have h2:=Int.emod_lt_of_pos a2 (show (0:Int)<(J:Int)+1 by omega)
  exact ⟨(a2%((J:Int)+1)).toNat,by omega,by omega⟩
 have HK2:=Lib.hid hk
 have hl0:((J:Int)+1)≠0:=by omega
 clear hk
 go_upto_region 8 with fail
 rw [HK2.out]
 have hMa:=H3.out.2.1
 have hMb:=H4.out.1
 have hlA:=hMa.low
 have hlB:=hMb.low
 have hsz:=hMb.lk.wr.size
 have hsz0:=hMa.lk.wr.size
 have hMa4:McAt w2' w4.heap.size w4 ma sa0 (newM a) (.slice none 0 0):=(hMa.after hMb.lk.wr).rebase rfl hsz (Nat.le_refl _)
 have hw2:Wr Nil w w2':=HW.out.nil H2.out
 have hev2:=HE.out.1.old hw2
 have hfa:=newM_few a H3.out.2.2.2.zero.2.2
 have hfd:=newM_few d H4.out.2.2.zero.2.2
 have cRa:=mc_run (cap:=O) hMa4 hfa (n:=J) (by omega) (λW tv' s' hM _=>hev2.old hM.lk.wr)
 have heq:=(newM_eqv (H3.out.2.2.2.eqv H4.out.2.2 H3.out.2.2.1 H4.out.2.1)).runs z1 J
 have hra:=(newM a).cnt_rng z1 J
 have hrd:=(newM d).cnt_rng z1 k
 have hre:=((newM d).runs z1 k).cnt_rng (λi=>z1 (k+i)) (J-k)
 have hadd:=(newM d).runs_add z1 k (J-k)
 rw [show k+(J-k)=J by omega,heq.2] at hadd
 have hla:=(hfa.runs z1 J).tr
 have hfk:=hfd.runs z1 k
 have HA:=Lib.hid (And.intro hMb (And.intro hlA (And.intro hlB (And.intro hsz (And.intro hsz0 hw2)))))
 have HEq:=Lib.hid (And.intro heq.1 (And.intro hadd.1 (And.intro hfd hfk)))
 have hsum:=hadd.2
 have hqa:((newM a).runs z1 J).a.q=a.q:=((newM a).runs_q z1 J).2.2.2.1
 have hqd:((newM d).runs z1 k).a.q=d.q:=((newM d).runs_q z1 k).2.2.2.1
 have HQ:=Lib.hid (And.intro hqa hqd)
 clear hMa hMb hlA hlB hsz hsz0 hMa4 hw2 hev2 hfa hfd heq hadd hfk hqa hqd hl0
 generalize hsA:(newM a).runs z1 J=sA at*
 clear hsA
 generalize (newM a).cnt z1 J=cA at*
 go_upto_region 9 with (go_at_call 30;(with_reducible refine cRa.mono ?_);intro e w5 hq;unfold MPost at hq;obtain ⟨rfl,tA,hA5,hWA⟩:=hq;have H5:=Lib.hid (And.intro hA5 hWA);clear hA5 hWA cRa)
 obtain ⟨hMb,hlA,hlB,hsz,hsz0,hw2⟩:=HA.out
 obtain ⟨hA5,hWA⟩:=H5.out
 rw [HQ.out.1] at hWA
 obtain ⟨v,hv⟩:∃ v,v=w5.drew:=⟨_,rfl⟩
 have hAv:McAt w2' w4.heap.size v ma sa0 sA tA:=by rw [hv];exact hA5.drew
 have hWv:Went a.q ma sa0 w4 (.slice none 0 0) v tA:=by rw [hv];exact hWA.trans (Went.nil ((Wr.refl Nil w5).drew))
 have hlA':a.q.k3≤ma∧a.q.k3≤sa0∧ma≠sa0∧ma<w3.heap.size∧sa0<w3.heap.size:=hlA
 have hlB':d.q.k3≤mb∧d.q.k3≤sb0∧mb≠sb0∧mb<w4.heap.size∧sb0<w4.heap.size:=hlB
 have hvs:w4.heap.size≤v.heap.size:=hWv.wr.size
 have hB5:=hMb.move hWv.wr (λb hb e=>by rcases e with e|e|e|e;omega;omega;omega;cases e) hsz
 have hB:=hB5.rebase rfl hvs (Nat.le_refl _)
 have hAst:McStill v w4.heap.size w3.heap.size ma sA tA:=hAv.still (by rw [HQ.out.1];omega) hlA'.2.2.2.1
 have hwv:Wr Nil w v:=hw2.nil hAv.lk.wr
 have hwcu:=cut_old hwv (Nat.le_trans hw2.size hsz0) (Nat.le_trans hsz hvs)
 have hevb:=HE.out.1.old hwcu
 have cR1:=mc_run (cap:=O) hB HEq.out.2.2.1 (n:=k) (by omega) (λW tv' s' hM _=>(hevb.old hM.lk.wr).take hk2)
 have hmk:∀ W s tv,s.a.q=d.q→McAt (World.cutTo v w3.heap.size) v.heap.size W mb sb0 s tv→Went s.a.q mb sb0 v (.slice none 0 0) W tv→PtS v w3.heap.size w4.heap.size mb sb0 s sA ma tA W:=λW s tv hq hM hWe=>PtS.of (Nat.le_trans hsz hvs) hAst (by rw [hq];omega) hM hWe
 have cR2:=λ(so2:Option Addr) (c2:Nat) W tv (hM:McAt (World.cutTo v w3.heap.size) v.heap.size W mb sb0 ((newM d).runs z1 k) tv) (he:∀ W',Wr Nil (World.cutTo v w3.heap.size) W'→EvAt W' so2 (J-k) (λi=>z1 (k+i)))=>mc_run (cap:=c2) hM HEq.out.2.2.2 (n:=J-k) (by omega) (λW' tv' s' hM' _=>he W' hM'.lk.wr)
 rw [HEq.out.2.1] at cR2
 have hEv:=HEq.out.1
 have HQD:=Lib.hid HQ.out.2
 have HQB:=Lib.hid (show ((newM d).runs z1 J).a.q=d.q from ((newM d).runs_q z1 J).2.2.2.1)
 have hlt1:((newM d).runs z1 J).tr.length≤1000000:=by rw [hEv.tr];omega
 have HTr:=Lib.hid (And.intro (show sA.tr.length≤1000000 by omega) (And.intro hlt1 True.intro))
 have HEv:=Lib.hid hEv
 clear hEv hlt1
 have HMk:=Lib.hid (And.intro hmk (And.intro hevb (And.intro hwv hwcu)))
 clear hMb hlA hlB hsz hsz0 hw2 hA5 hWA hAv hWv hlA' hlB' hvs hB5 hB hAst hwv hwcu hevb hmk H5
 generalize hsB:(newM d).runs z1 J=sB at*
 generalize (newM d).cnt z1 k=cB at*
 generalize ((newM d).runs z1 k).cnt (λi=>z1 (k+i)) (J-k)=cC at*
 subst hsum
 subst hv
 have hwc:IntKind.i64.wrap (cB+cC)=cB+cC:=IntWalk.i64_in _ (by omega)
 have hwn:(cB+cC != cB+cC)=false:=by simp
 have hk0:(0:Int)≤(k:Int):=by omega
 have hk1:(k:Int)≤(O:Int):=by have:=l1.1;omega
 have hk3:(k:Int)≤(J:Int):=by omega
 have hk4:(J:Int)≤(O:Int):=by have:=l1.1;omega
 have hnwn:(sA.now != sA.now)=false:=by simp
 have hidn:(sA.idle != sA.idle)=false:=by simp
 clear hrd hre hra
 have hl4:sA.tr.length≤4000:=by have:=HE.out.2;omega
 have HL4:=Lib.hid hl4
 rcases Nat.lt_or_ge k J with hkl|hkl
 case' inl=>
  rcases HE.out.1 with e0|⟨gb,go,rfl,_⟩
  ·omega
  have hck:O≠k:=by omega
  have cR2':=λW tv hM=>cR2 (some ⟨gb,go+k*3,none⟩) (O-k) W tv hM λW' q=>(HMk.out.2.1.old q).drop hkl
  clear cR2
  go_region_held3 (λ_=>True) (exact trivial) (first
   |(go_at_call 30;obtain ⟨tv1,hM1,hW1⟩:=H6.out;(with_reducible refine (cR2' _ tv1 hM1).mono ?_);intro e w7 hq;unfold MPost at hq;obtain ⟨rfl,tv2,hM2,hW2⟩:=hq;replace hW1:=hW1;rw [HQD.out] at hW1;rw [HQB.out] at hW2;have hP:=HMk.out.1 _ _ _ HQB.out hM2 (by rw [HQB.out];exact hW1.trans hW2);have cNa:=hP.one.now;have cIa:=hP.one.idle;have cTa:=hP.one.trace HTr.out.1;have cNb:=mc_now hM2;have cIb:=mc_idle hM2;have cTb:=λW (q:Wr Nil _ W)=>mc_trace (hM2.after q) HTr.out.2.1;rw [HEv.out.now] at cNb;rw [HEv.out.idle] at cIb;rw [HEv.out.tr] at cTb;have H7:=Lib.hid hP;clear hM1 hW1 hM2 hW2 hP H6)
   |(go_at_call 30;(with_reducible refine cR1.mono ?_);intro e w6 hq;unfold MPost at hq;obtain ⟨rfl,hq2⟩:=hq;have H6:=Lib.hid hq2;clear hq2)
   |(go_at_call 27;(with_reducible refine cNa.mono ?_);rintro e w8 ⟨rfl,rfl⟩)
   |(go_at_call 27;(with_reducible refine cNb.mono ?_);rintro e w8 ⟨rfl,rfl⟩)
   |(go_at_call 29;(with_reducible refine cIa.mono ?_);rintro e w8 ⟨rfl,rfl⟩)
   |(go_at_call 29;(with_reducible refine cIb.mono ?_);rintro e w8 ⟨rfl,rfl⟩)
   |(go_at_call 26;(with_reducible refine cTa.mono ?_);intro e w8 hq;unfold CtPost at hq;obtain ⟨sx,cx,rfl,_,_,_,_,hW8⟩:=hq;have H8':=Lib.hid hW8;clear hW8)
   |(go_at_call 26;(with_reducible refine (cTb _ H8'.out).mono ?_);intro e w9 hq;unfold CtPost at hq;obtain ⟨sy,cy,rfl,_,_,_,_,hW9'⟩:=hq;have H9:=Lib.hid (H7.out.after (H8'.out.nil hW9'));clear hW9'))
 case' inr=>
  obtain rfl:k=J:=by omega
  have hkk:k-k=0:=Nat.sub_self _
  have cR2':=λso2 c2 W tv hM=>cR2 so2 c2 W tv hM λW' q=> .inl hkk
  rw [hkk] at cR2'
  clear cR2
  by_cases hck:O=k
  all_goals
   (try subst hck)
   go_region_held3 (λ_=>True) (exact trivial) (first
    |(go_at_call 30;obtain ⟨tv1,hM1,hW1⟩:=H6.out;(with_reducible refine (cR2' _ _ _ tv1 hM1).mono ?_);intro e w7 hq;unfold MPost at hq;obtain ⟨rfl,tv2,hM2,hW2⟩:=hq;replace hW1:=hW1;rw [HQD.out] at hW1;rw [HQB.out] at hW2;have hP:=HMk.out.1 _ _ _ HQB.out hM2 (by rw [HQB.out];exact hW1.trans hW2);have cNa:=hP.one.now;have cIa:=hP.one.idle;have cTa:=hP.one.trace HTr.out.1;have cNb:=mc_now hM2;have cIb:=mc_idle hM2;have cTb:=λW (q:Wr Nil _ W)=>mc_trace (hM2.after q) HTr.out.2.1;rw [HEv.out.now] at cNb;rw [HEv.out.idle] at cIb;rw [HEv.out.tr] at cTb;have H7:=Lib.hid hP;clear hM1 hW1 hM2 hW2 hP H6)
    |(go_at_call 30;(with_reducible refine cR1.mono ?_);intro e w6 hq;unfold MPost at hq;obtain ⟨rfl,hq2⟩:=hq;have H6:=Lib.hid hq2;clear hq2)
    |(go_at_call 27;(with_reducible refine cNa.mono ?_);rintro e w8 ⟨rfl,rfl⟩)
    |(go_at_call 27;(with_reducible refine cNb.mono ?_);rintro e w8 ⟨rfl,rfl⟩)
    |(go_at_call 29;(with_reducible refine cIa.mono ?_);rintro e w8 ⟨rfl,rfl⟩)
    |(go_at_call 29;(with_reducible refine cIb.mono ?_);rintro e w8 ⟨rfl,rfl⟩)
    |(go_at_call 26;(with_reducible refine cTa.mono ?_);intro e w8 hq;unfold CtPost at hq;obtain ⟨sx,cx,rfl,_,_,_,_,hW8⟩:=hq;have H8':=Lib.hid hW8;clear hW8)
    |(go_at_call 26;(with_reducible refine (cTb _ H8'.out).mono ?_);intro e w9 hq;unfold CtPost at hq;obtain ⟨sy,cy,rfl,_,_,_,_,hW9'⟩:=hq;have H9:=Lib.hid (H7.out.after (H8'.out.nil hW9'));clear hW9'))
 all_goals
  clear cNa cNb cIa cIb cTa cTb cR1 cR2' hwc hwn hk0 hk1 hk3 hk4
  obtain ⟨tvb,hMb9,_⟩:=H9.out.two
  have cTa:=H9.out.one.trace HTr.out.1
  have cTb:=λW (q:Wr Nil w9 W)=>mc_trace (hMb9.after q) HTr.out.2.1
  rw [HEv.out.tr] at cTb
  go_upto_region 12 with (first
   |(go_at_call 26;(with_reducible refine cTa.mono ?_);intro e w10 hq;unfold CtPost at hq;obtain ⟨sx2,cx2,rfl,hrx,_,_,_,hWx⟩:=hq;have H10:=Lib.hid (And.intro hrx hWx);clear hrx hWx cTa)
   |(go_at_call 26;(with_reducible refine (cTb _ H10.out.2).mono ?_);intro e w11 hq;unfold CtPost at hq;obtain ⟨sy2,cy2,rfl,hry,_,_,_,hWy⟩:=hq;have H11:=Lib.hid (And.intro hry (And.intro (H10.out.1.after hWy) (And.intro (H9.out.after (H10.out.2.nil hWy)) (hMb9.after (H10.out.2.nil hWy)))));clear hry hWy cTb))
  clear hMb9
  obtain ⟨tr,htr⟩:∃ tr,tr=sA.tr:=⟨_,rfl⟩
  have hl4:=HL4.out
  rw [←htr] at H11 hl4
  rw [←htr]
  clear htr
  go_wp2
  go_loopw [99] (λi wr=>∃ j:Nat,j≤tr.length∧i= .int .i64 j∧Wr Nil w11 wr) (λi _=>tr.length-(intOf i).toNat)
  case atStart=>exact ⟨0,Nat.zero_le _,rfl,Wr.refl _ _⟩
  case round=>
   obtain ⟨j,hj,rfl,hW2⟩:=hrel
   by_cases hjl:j<tr.length
   ·have hjI:(j:Int)<(tr.length:Nat):=by omega
    rcases (H11.out.1.after hW2).at (λx=>by simp [Ent.cells]) with h0|⟨g2,o2,rfl,hc2⟩
    ·omega
    rcases (H11.out.2.1.after hW2).at (λx=>by simp [Ent.cells]) with h0|⟨g1,o1,rfl,hc1⟩
    ·omega
    obtain ⟨en,hx⟩:∃ en,tr[j]? =some en:=⟨_,List.getElem?_eq_getElem hjl⟩
    have x0:wr.cell? ⟨g1,o1+j*4,none⟩=some (.int .i64 en.k):=hc1 j en hx 0 _ rfl
    have x1:wr.cell? ⟨g1,o1+j*4+1,none⟩=some (.int .i64 en.t):=hc1 j en hx 1 _ rfl
    have x2:wr.cell? ⟨g1,o1+j*4+2,none⟩=some (.int .i64 en.now):=hc1 j en hx 2 _ rfl
    have x3:wr.cell? ⟨g1,o1+j*4+3,none⟩=some (.bool en.lead):=hc1 j en hx 3 _ rfl
    have z0:wr.cell? ⟨g2,o2+j*4,none⟩=some (.int .i64 en.k):=hc2 j en hx 0 _ rfl
    have z1:wr.cell? ⟨g2,o2+j*4+1,none⟩=some (.int .i64 en.t):=hc2 j en hx 1 _ rfl
    have z2:wr.cell? ⟨g2,o2+j*4+2,none⟩=some (.int .i64 en.now):=hc2 j en hx 2 _ rfl
    have z3:wr.cell? ⟨g2,o2+j*4+3,none⟩=some (.bool en.lead):=hc2 j en hx 3 _ rfl
    have HW2:=Lib.hid hW2
    clear hW2 hc1 hc2 hx
    generalize en.k=ek at*
    generalize en.t=et at*
    generalize en.now=nw at*
    generalize en.lead=el at*
    go_upto_region 15 with fail
    go_big_quiet (fail)
    go_wp2
    go_roundw
    case rel=>exact ⟨j+1,hjl,by go_num,HW2.out.drewN _⟩
    case measure=>simp [intOf];omega
   have hjE:j=tr.length:=by omega
   have hP:=H11.out.2.2.1.after hW2
   have hM:=H11.out.2.2.2.after hW2
   have P0:wr.drew.cell? ⟨ma,0,none⟩=some (.pointer (some ⟨sA.a.q.p,0,none⟩)):=(hP.after ((Wr.refl Nil wr).drew)).one.c0
   have P1:wr.drew.cell? ⟨sA.a.q.p,0,none⟩=some (.pointer (some ⟨sA.a.q.m,0,none⟩)):=(hP.after ((Wr.refl Nil wr).drew)).one.port.cell0
   have P2:wr.drew.cell? ⟨mb,0,none⟩=some (.pointer (some ⟨sB.a.q.p,0,none⟩)):=hM.drew.c0
   have P3:wr.drew.cell? ⟨sB.a.q.p,0,none⟩=some (.pointer (some ⟨sB.a.q.m,0,none⟩)):=hM.drew.lk.port.cell0
   have cWa:=words_any (hP.after ((Wr.refl Nil wr).drew)).one.port.mem
   have cWb:=λW (q:Wr Nil wr W)=>words_any (hM.after q).lk.port.mem
   rw [HEv.out.a.ps] at cWb
   have hwl:=hP.one.port.words
   obtain ⟨ws,hws⟩:∃ ws,ws=sA.a.ps.ws:=⟨_,rfl⟩
   rw [←hws] at cWa cWb hwl
   have HB9:=Lib.hid (hM.lk.wr)
   clear hP hM hW2 hjE hws
   go_upto_region 18 with fail
   go_region_held3 (λw'=>w'.cell? ⟨ma,0,none⟩=some (.pointer (some ⟨sA.a.q.p,0,none⟩))∧w'.cell? ⟨sA.a.q.p,0,none⟩=some (.pointer (some ⟨sA.a.q.m,0,none⟩))∧w'.cell? ⟨mb,0,none⟩=some (.pointer (some ⟨sB.a.q.p,0,none⟩))∧w'.cell? ⟨sB.a.q.p,0,none⟩=some (.pointer (some ⟨sB.a.q.m,0,none⟩)))
    (first|with_reducible exact ⟨P0,P1,P2,P3⟩|with_reducible exact ⟨q0,q1,q2,q3⟩|with_reducible exact ⟨r0,r1,r2,r3⟩)
    (first
    |(go_at_call 25;(with_reducible refine cWa.mono ?_);intro e w12 hq;unfold WordsPost at hq;obtain ⟨g1,rfl,hrow,hg,hW7⟩:=hq;have q0:=hW7.old P0;have q1:=hW7.old P1;have q2:=hW7.old P2;have q3:=hW7.old P3;have H12:=Lib.hid (And.intro (row_words hrow) (((Wr.refl Nil wr).drew).nil hW7));clear hrow hg hW7 cWa)
    |(go_at_call 25;(with_reducible refine (cWb _ H12.out.2).mono ?_);intro e w13 hq;unfold WordsPost at hq;obtain ⟨g2,rfl,hrow,hg,hW7⟩:=hq;have r0:=hW7.old q0;have r1:=hW7.old q1;have r2:=hW7.old q2;have r3:=hW7.old q3;have H13:=Lib.hid (And.intro (row_words hrow) (And.intro (H12.out.1.after hW7) (H12.out.2.nil hW7)));clear hrow hg hW7 cWb))
   clear q0 q1 q2 q3 r0 r1 r2 r3 P0 P1 P2 P3
   go_wp2
   go_loopw [130] (λi wr=>∃ j:Nat,j≤ws.length∧i= .int .i64 j∧Wr Nil w13 wr) (λi _=>ws.length-(intOf i).toNat)
   case atStart=>exact ⟨0,Nat.zero_le _,rfl,Wr.refl _ _⟩
   case round=>
    obtain ⟨j,hj,rfl,hW2⟩:=hrel
    by_cases hjl:j<ws.length
    ·have hjI:(j:Int)<(ws.length:Nat):=by omega
     have u1:wr.cell? ⟨g1,j,none⟩=some (.int .u32 (ws.getD j 0)):=by have h:=(H13.out.2.1.after hW2).cell _ rfl j hjl;rw [Addr.add_lit,Nat.zero_add] at h;exact h
     have u2:wr.cell? ⟨g2,j,none⟩=some (.int .u32 (ws.getD j 0)):=by have h:=(H13.out.1.after hW2).cell _ rfl j hjl;rw [Addr.add_lit,Nat.zero_add] at h;exact h
     have g1':decide (ws.length≤j)=false:=decide_eq_false (by omega)
     have g3:decide (((ws.length:Nat):Int)≤(j:Int))=false:=decide_eq_false (by omega)
     have HW2:=Lib.hid hW2
     clear hW2
     generalize ws.getD j 0=y at*
     go_upto_region 22 with fail
     go_big_quiet (fail)
     go_wp2
     go_roundw
     case rel=>exact ⟨j+1,hjl,by go_num,HW2.out.drewN _⟩
     case measure=>simp [intOf];omega
    have HZ:=Lib.hid ((H13.out.2.2).nil hW2)
    clear hW2
    go_wp2_with (first|(go_at_call 18;(with_reducible refine (ma_awake _).mono ?_);intro e w9 hq;unfold AwkPost at hq;obtain ⟨rfl,hW9⟩:=hq))
    go_ret
    exact ⟨rfl,((HMk.out.2.2.2.nil HB9.out).nil (HZ.out.nil hW9)).law⟩
set_option maxRecDepth 100000 in
theorem lifted (os:Os) (started:os.Started) (H:Type) (enc:TypeId×Value→H):
  ReturnsInHanded {} checked os 8 .any (Rows.machinePartsSpec.pre6 enc prog f8 Rows.machinePartsRow.domain false) (Rows.machinePartsSpec.post enc prog f8 false true false false):=by
 refine returnsInHanded_of_change (C:=checked) own started (by kernel_rfl) func8
  (ChangeSpec.witness6 (enc:=enc) (C:=checked) false ⟨#[],#[.agg #[.int .i64 0,.slice none 0 0,.int .u32 0,.int .i64 0,.int .i64 0,.int .i64 0,.int .i64 0,.int .i64 0],.slice none 0 0,.int .u16 0],[]⟩ 8 (by kernel_rfl) (by kernel_rfl) (by kernel_rfl) (by kernel_rfl)) ?_
 intro W base args ds gs before hval0 hW hcnd _
 have hval:∀ (j:Nat) t v,f8.params[j]? =some t→args[j]? =some v→Value.okWide prog W .any base t v:=hval0
 have hW':=hW
 obtain ⟨p,q,hA0,hV,rfl,hfz,hnd⟩:=hW
 have hA:DataW.TrodAll enc prog W 0 (λ_=>true) true f8.params.toList args.toList ds p:=hA0
 rw [params8] at hA hval
 obtain ⟨v0,vs0,d0,ds0,p0,q0,hargs,rfl,rfl,h0,r0'⟩:=trodAll_cons hA
 obtain ⟨v1,vs1,d1,ds1,p1,q1,rfl,rfl,rfl,h1,r1'⟩:=trodAll_cons r0'
 obtain ⟨v2,vs2,d2,ds2,p2,q2,rfl,rfl,rfl,h2,r2'⟩:=trodAll_cons r1'
 obtain ⟨rfl,rfl,rfl⟩:=trodAll_nil r2'
 obtain rfl:args= #[v0,v1,v2]:=by cases args;simp_all
 obtain ⟨rfl,rfl⟩:=trodVars_none hV
 have k0:=h0
 have lt0:∀ x∈p0,x.block<W.heap.size:=by obtain ⟨m,hm⟩:=k0;exact DataW.trod_lt m _ _ _ hm
 obtain ⟨cs0,rfl,hl0,hf0⟩:=open_struct_fields (m:=8) underlying25 (by kernel_rfl) (by kernel_rfl) (hval 0 25 v0 rfl rfl) h0
 obtain ⟨c0_0,c0_1,c0_2,c0_3,c0_4,c0_5,c0_6,c0_7,rfl⟩:=list8 hl0
 obtain ⟨pv,pw,oj⟩:=hf0 0 _ _ rfl rfl
 obtain ⟨R,rfl,gj⟩:=fld_int underlying3 oj
 obtain ⟨px,py,ok⟩:=hf0 1 _ _ rfl rfl
 obtain ⟨jk,N,K,rfl,ov⟩:=fld_slice underlying22 ok
 obtain ⟨jy,jw,jx,gk⟩:=open_slice_row underlying22 underlying3 (by kernel_rfl) ov
 obtain ⟨pz,kj,ow⟩:=hf0 2 _ _ rfl rfl
 obtain ⟨jv,rfl,jz⟩:=fld_int underlying23 ow
 obtain ⟨kk,kv,ox⟩:=hf0 3 _ _ rfl rfl
 obtain ⟨U,rfl,gv⟩:=fld_int underlying3 ox
 obtain ⟨kw,kx,oy⟩:=hf0 4 _ _ rfl rfl
 obtain ⟨V,rfl,gw⟩:=fld_int underlying3 oy
 obtain ⟨ky,kz,oz⟩:=hf0 5 _ _ rfl rfl
 obtain ⟨Y,rfl,gx⟩:=fld_int underlying3 oz
 obtain ⟨mj,mk,pj⟩:=hf0 6 _ _ rfl rfl
 obtain ⟨Z,rfl,gy⟩:=fld_int underlying3 pj
 obtain ⟨mv,mw,pk⟩:=hf0 7 _ _ rfl rfl
 obtain ⟨jj,rfl,gz⟩:=fld_int underlying3 pk
 have k1:=h1
 have lt1:∀ x∈p1,x.block<W.heap.size:=by obtain ⟨m,hm⟩:=k1;exact DataW.trod_lt m _ _ _ hm
 obtain ⟨s1,J,O,rfl⟩:=okWide_slice underlying59 (hval 1 59 v1 rfl rfl)
 obtain ⟨l1,z1,r1⟩:=open_slice_ints (ks:=[.i64,.i64,.i64]) underlying59 underlying67 (by kernel_rfl) (by kernel_rfl) h1
 obtain ⟨a2,rfl,rfl,rfl,w2⟩:=open_int underlying79 (hval 2 79 v2 rfl rfl) h2
 clear hA0 hval0
 refine (walk R jk N K jw jv U V Y Z jj s1 J O z1 a2 W gj jy jx gk jz gv gw gx gy gz l1 r1 w2).mono λe W' ⟨he,bel⟩=> ?_
 subst he
 exact ⟨_,rfl,_,_,_,[],_,[],hW',trodAll_mk1 (shut_bool underlying4 _),(trodAll_cons_mk (Below.trod laidOut (by kernel_rfl) (of_decide_eq_true (by kernel_rfl)) k0 bel lt0) (trodAll_cons_mk (Below.trod laidOut (by kernel_rfl) (of_decide_eq_true (by kernel_rfl)) k1 bel lt1) (trodAll_cons_mk (shut_int underlying79 w2) trodAll_mk0))),rfl,bel.frame _,λh=>by cases h⟩
theorem over:Rows.machinePartsRow.holds Tryz.pinned (OpenSpec.ofChange Rows.machinePartsSpec):=
 OpenClaim.holds_of_wide 8 f8 rfl rfl rfl rfl rfl rfl rfl ⟨rfl,rfl,rfl,rfl,rfl⟩ rfl rfl rfl rfl rfl (by kernel_rfl) func8 (by kernel_rfl)
  (of_decide_eq_true (by kernel_rfl)) (by unfold Func.isWrapper;first|(rw [if_pos (by decide+kernel)];kernel_rfl)|(rw [if_neg (by decide+kernel)];exact ⟨rfl,rfl⟩))
  (λos started H enc _=>lifted os started H enc)
theorem proved:Rows.MachinePartsSaid:=over
#print axioms proved
end Go.Proofs.YtcikfcplagelaaaGreat.machineParts

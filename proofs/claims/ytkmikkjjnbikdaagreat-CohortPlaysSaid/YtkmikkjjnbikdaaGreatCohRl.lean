import Derived.Test.YtkmikkjjnbikdaaGreatCohRfm
namespace Go.Proofs.YtkmikkjjnbikdaaGreat
set_option maxHeartbeats 8000000
open _root_.Go.Proofs.Tryz Go.Deep
open Go.RowKit Go.BigFrame
set_option linter.unusedVariables false
set_option maxRecDepth 100000
theorem llock_any {w X:World} {M:Mp} {bk:Nat} {so:Option Addr} {cap:Nat} {dv:Value} {f:FL} {L:Lp} (h:MmIn w M bk so cap dv f L) {k:Nat} (hk:k<f.s.n) {r:Nat} {hv dv':Value} (hS:RsAt X r hv dv' (f.Lc (f.nd k)).s):
  Calls prog 56 #[.pointer (some ⟨r,0,none⟩),.int .i64 (f.own k:Nat),.int .i64 (-1)] X (RsPost X r hv dv' ((f.Lc (f.nd k)).s.lock (f.own k:Nat) (-1)) (lockE (f.Lc (f.nd k)).s (f.own k:Nat) (-1))):=by
 obtain ⟨⟨g,W,hin⟩,_,ho,hp⟩:=h.lin k hk
 have h8:=hin.qf.n8
 unfold FL.lk at h8
 rw [Inn.on_s] at h8
 exact rs_lock hS (by omega) (by omega) (f.own k:Nat) (-1)
theorem rl_lock0a {w:World} {M:Mp} {bk:Nat} {so:Option Addr} {cap:Nat} {dv:Value} {f:FL} {L:Lp} (h:MmIn w M bk so cap dv f L) (k:Nat) (hk:k<f.s.n) (u:Int) (hp:f.ph k=0) (hs:(f.Lc (f.nd k)).s.st (f.own k)=0):
  Calls prog 126 #[.pointer (some ⟨M.r,0,none⟩),.pointer (some ⟨M.pr,0,none⟩),.int .i64 (k:Int),.int .i64 u] w (RkPost w M bk dv {f with Lc:=upd f.Lc (f.nd k) (((f.lk (f.nd k)).lock (f.own k:Nat) (-1)).step (f.la (f.nd k):Nat) (f.own k:Nat) u),ph:=upd f.ph k (((f.lk (f.nd k)).lock (f.own k:Nat) (-1)).did (f.la (f.nd k):Nat) (f.own k:Nat) u).ev,ps:=(((f.lk (f.nd k)).lock (f.own k:Nat) (-1)).step (f.la (f.nd k):Nat) (f.own k:Nat) u).ps} (Dd.rval ⟨0,(((f.lk (f.nd k)).lock (f.own k:Nat) (-1)).did (f.la (f.nd k):Nat) (f.own k:Nat) u).enq,false,false⟩)):=by
 obtain ⟨Z,hZ⟩:∃ Z,Z=(w.alloc (.cells #[.int .i64 0,.int .i64 0,.int .i64 0,.int .i64 0] 136)).alloc (.cells #[.int .i64 0,.int .i64 0,.int .i64 0,.int .i64 0] 136):=⟨_,rfl⟩
 obtain ⟨hF0,hR0,hWZ⟩:=h.start Z hZ
 have i0:(0:Int)≤(k:Int):=by omega
 have i1:(k:Int)<f.s.n:=by omega
 obtain ⟨c8,hh⟩:=h.ml.raw.has k hk
 have c8i:((f.nd k:Nat):Int)<8:=by omega
 obtain ⟨κ,p1,p2,p3,hcl⟩:=(M.l (f.nd k)).four
 obtain ⟨κ',q1,q2,q3,hcg⟩:=M.g.four
 obtain ⟨lq1,lq2,lq3⟩:=h.ml.st.lq _ c8 hh
 obtain ⟨gq1,gq2,gq3⟩:=h.ml.st.gq
 have HE:=Lib.hid (And.intro hk (And.intro hcl (And.intro hcg (And.intro h (And.intro c8 (And.intro hh (And.intro (And.intro lq1 lq2) (And.intro gq1 gq2))))))))
 obtain ⟨-,-,-,-,-,-,-,-,-,-,-,k39,k40,-,-,kn,ko,-,-,-,-⟩:=(h.ml.raw.after ((Wr.refl Nil w).alloc (.cells #[.int .i64 0,.int .i64 0,.int .i64 0,.int .i64 0] 136))).cs hk hcl hcg
 obtain ⟨-,-,-,-,-,-,-,-,-,-,-,-,-,k41,-,-,-,kp,-,-,-⟩:=hF0.drew.raw.cs hk hcl hcg
 rw [show f.ph k=0 from hp] at kp
 have eA:L.pA (f.nd k)=((f.nd k:Nat):Int):=by unfold Lp.pA;rw [h.l1];omega
 have hw1:IntKind.i64.wrap ((f.nd k:Nat):Int)=((f.nd k:Nat):Int):=by rw [IntKind.wrap_i64];omega
 have hFa:Fa w Z.drew M bk so cap dv f w.heap.size (w.heap.size+1) Dd.no:=⟨hF0.drew,hR0.after (w':=Z.drew) ((Wr.refl Nil Z).drew) λ_ _=>id,Nat.le_trans h.hb hWZ.size⟩
 generalize hY:Z.drew=Y at*
 have HF:=Lib.hid hFa
 generalize hx:(((f.lk (f.nd k)).lock (f.own k:Nat) (-1)).step (f.la (f.nd k):Nat) (f.own k:Nat) u)=xx at*
 generalize hd:(((f.lk (f.nd k)).lock (f.own k:Nat) (-1)).did (f.la (f.nd k):Nat) (f.own k:Nat) u)=dd at*
 have HD:=Lib.hid (And.intro hx hd)
 clear hx hd
 have ho:=(h.lin k hk).2.2.1
 obtain ⟨g,cg,hgv,hg⟩:=SrAt.stV (hFa.fm.raw.lat _ c8 hh).seat (show 0<(f.Lc (f.nd k)).s.n by omega)
 have s0:Y.cell? ⟨(M.l (f.nd k)).sr,0,none⟩=some (.slice (some ⟨g,0,none⟩) (f.Lc (f.nd k)).s.n cg):=(SrAt.cell0 (hFa.fm.raw.lat _ c8 hh).seat).trans (by rw [hgv])
 have s1:=(hg _ _ (stL_at (f.Lc (f.nd k)).s ho)).1
 have o1:((f.own k:Nat):Int)<((f.Lc (f.nd k)).s.n:Int):=by omega
 have o0:(0:Int)≤((f.own k:Nat):Int):=by omega
 obtain ⟨-,-,-,-,-,-,-,l0,l1,l2,l3,-,-,-,-,-,-,-,-,-,-⟩:Cs _ M f.s.n k (f.nd k) (f.own k) κ p1 p2 p3 κ' q1 q2 q3 _ _:=(hFa.fm).raw.cs HE.out.1 HE.out.2.1 HE.out.2.2.1
 rw [hs] at s1
 clear h hk hFa hF0 hR0 hWZ hp hcl hcg c8 hh eA lq1 lq2 lq3 gq1 gq2 gq3 hgv hg
 go_enter func126,ntmps126
 go_upto_region 1 with fail
 go_region
 go_upto_region 3 with fail
 rw [←hZ,hY]
 clear hZ hY k39 k40 kn ko
 go_upto_region 4 with fail
 clear k41 kp
 go_upto_region 6 with (go_at_call 129;have cc:=ri_seats (HF.out.fm.raw.lat _ HE.out.2.2.2.2.1 HE.out.2.2.2.2.2.1);rw [HE.out.2.1] at cc;(with_reducible refine cc.mono ?_);rintro e w3 ⟨rfl,hWn⟩;have m0:=hWn.old l0;have m1:=hWn.old l1;have m2:=hWn.old l2;have m3:=hWn.old l3;have m4:=hWn.old s0;have m5:=hWn.old s1;have HF3:=Lib.hid (HF.out.after hWn);clear cc hWn)
 clear l0 l1 l2 l3 s0 s1
 go_upto_region 7 with (first
  |(go_at_call 129;have cc:=ri_seats (HF3.out.fm.raw.lat _ HE.out.2.2.2.2.1 HE.out.2.2.2.2.2.1);rw [HE.out.2.1] at cc;(with_reducible refine cc.mono ?_);rintro e w4 ⟨rfl,hWn⟩;have HF4:=Lib.hid (HF3.out.after hWn);clear cc hWn)
  |(go_at_call 56;have cc:=llock_any HE.out.2.2.2.1 HE.out.1 (HF4.out.fm.raw.lat _ HE.out.2.2.2.2.1 HE.out.2.2.2.2.2.1).seat;(with_reducible refine cc.mono ?_);intro e w5 hq;have hS:=HF4.out.llock HE.out.2.2.2.2.1 HE.out.2.2.2.2.2.1 hq;unfold RsPost at hq;obtain ⟨rfl,_,_⟩:=hq;obtain ⟨-,-,-,-,-,-,-,l0,l1,l2,l3,-,-,-,-,-,-,-,-,-,-⟩:Cs _ M f.s.n k (f.nd k) (f.own k) κ p1 p2 p3 κ' q1 q2 q3 _ _:=(hS.fm).raw.cs HE.out.1 HE.out.2.1 HE.out.2.2.1;have HF5:=Lib.hid hS;clear hS cc))
 clear m0 m1 m2 m3 m4 m5
 go_upto_region 8 with (go_at_call 130;have cc:=ri_step (HE.out.2.2.2.1.lra HE.out.1 (by have q:=HF5.out.fm.raw.lat _ HE.out.2.2.2.2.1 HE.out.2.2.2.2.2.1;have q:(M.l (f.nd k)).At _ (upd f.Lc (f.nd k) ((f.Lc (f.nd k)).lock (f.own k:Nat) (-1)) (f.nd k)):=q;rw [upd_same] at q;exact q) HF5.out.ref HF5.out.bz) ((f.own k:Nat):Int) u;rw [HE.out.2.1,HE.out.2.2.2.2.2.2.1.2,HD.out.1,HD.out.2] at cc;(with_reducible refine cc.mono ?_);intro e w6 hq;have hA:=HF5.out.fm.lstep HE.out.2.2.2.2.1 HE.out.2.2.2.2.2.1 HE.out.2.2.2.2.2.2.1 hq;unfold RiPost at hq;obtain ⟨rfl,_,_,_⟩:=hq;dsimp only [Dd.rval];have HA:=Lib.hid hA;clear hA;clear cc)
 generalize hV:w6.alloc _=V at*
 have hb:V.heap[w6.heap.size]? =some (.cells (ridC dd) 136 (0,0)):=by rw [←hV];exact blk_alloc_new _ _
 have hWV:Wr Nil w6 V:=by rw [←hV];exact (Wr.refl _ w6).alloc _
 have hG:=HA.out.after hWV
 have hlt:w.heap.size+1<w6.heap.size:=blk_lt HA.out.did
 have x1:V.cell? ⟨w6.heap.size,1,none⟩=some (.int .i64 (b2i dd.enq)):=blk_cell hb 1
 obtain ⟨d0,d1,d2,d3⟩:=hG.dcell
 obtain ⟨y0,y1,y2,y3⟩:=hG.dfrz
 have HG:=Lib.hid (And.intro hG (And.intro hb hlt))
 clear hV hb hWV hG hlt
 go_upto_region 9 with fail
 generalize hV2:World.setCell _ _ _=V2 at*
 have hG2:=HG.out.1.setD 1 (.int .i64 (b2i dd.enq)) ⟨0,dd.enq,false,false⟩ rfl
 have k2:Wr (One (w.heap.size+1)) V (V.setCell ⟨w.heap.size+1,1,none⟩ (.int .i64 (b2i dd.enq))):=(Wr.refl _ V).setCell _ _ λ_=>rfl
 have hV2':V.setCell ⟨w.heap.size+1,1,none⟩ (.int .i64 (b2i dd.enq))=V2:=hV2
 rw [hV2'] at hG2 k2
 clear hV2 hV2'
 have hb2:=(k2.block _ (blk_lt HG.out.2.1) (λe=>by have:=HG.out.2.2;unfold One at e;omega)).trans HG.out.2.1
 have x0:V2.cell? ⟨w6.heap.size,0,none⟩=some (.int .i64 dd.ev):=blk_cell hb2 0
 obtain ⟨-,-,-,-,-,-,-,-,-,-,-,-,-,c41,-,-,-,rp,-,zp,-⟩:Cs _ M f.s.n k (f.nd k) (f.own k) κ p1 p2 p3 κ' q1 q2 q3 _ _:=(hG2).raw.cs HE.out.1 HE.out.2.1 HE.out.2.2.1
 have HG2:=Lib.hid hG2
 clear hG2 k2 hb2 d0 d1 d2 d3 y0 y1 y2 y3 x1
 go_region
 generalize hX:World.setCell _ _ _=X at*
 have hT:=HG2.out.setP k dd.ev
 simp only [upd_upd] at hT;try rw [hX] at hT
 obtain ⟨d0,d1,d2,d3⟩:=(hT).dcell;obtain ⟨y0,y1,y2,y3⟩:=(hT).dfrz;obtain ⟨r0,r1,r2,r3⟩:=(hT).rcell;obtain ⟨t0,t1,t2,t3⟩:=(hT).rfrz
 have HT:=Lib.hid hT.drew
 clear hX hT
 go_wp2
 refine bodyPost_ret (v:=Dd.rval ⟨0,dd.enq,false,false⟩) (results_cell_row rfl _ _ w.heap.size 136 _ (0,0) _ rfl (set4 HT.out.res rfl _ _ _ _) underlying136 rfl i_did10) rfl HT.out.told
theorem rl_lock0b {w:World} {M:Mp} {bk:Nat} {so:Option Addr} {cap:Nat} {dv:Value} {f:FL} {L:Lp} (h:MmIn w M bk so cap dv f L) (k:Nat) (hk:k<f.s.n) (u:Int) (hp:f.ph k=0) (hs:(f.Lc (f.nd k)).s.st (f.own k)≠0):
  Calls prog 126 #[.pointer (some ⟨M.r,0,none⟩),.pointer (some ⟨M.pr,0,none⟩),.int .i64 (k:Int),.int .i64 u] w (RkPost w M bk dv {f with Lc:=upd f.Lc (f.nd k) ((f.lk (f.nd k)).step (f.la (f.nd k):Nat) (f.own k:Nat) u),ph:=upd f.ph k ((f.lk (f.nd k)).did (f.la (f.nd k):Nat) (f.own k:Nat) u).ev,ps:=((f.lk (f.nd k)).step (f.la (f.nd k):Nat) (f.own k:Nat) u).ps} (Dd.rval ⟨0,((f.lk (f.nd k)).did (f.la (f.nd k):Nat) (f.own k:Nat) u).enq,false,false⟩)):=by
 obtain ⟨Z,hZ⟩:∃ Z,Z=(w.alloc (.cells #[.int .i64 0,.int .i64 0,.int .i64 0,.int .i64 0] 136)).alloc (.cells #[.int .i64 0,.int .i64 0,.int .i64 0,.int .i64 0] 136):=⟨_,rfl⟩
 obtain ⟨hF0,hR0,hWZ⟩:=h.start Z hZ
 have i0:(0:Int)≤(k:Int):=by omega
 have i1:(k:Int)<f.s.n:=by omega
 obtain ⟨c8,hh⟩:=h.ml.raw.has k hk
 have c8i:((f.nd k:Nat):Int)<8:=by omega
 obtain ⟨κ,p1,p2,p3,hcl⟩:=(M.l (f.nd k)).four
 obtain ⟨κ',q1,q2,q3,hcg⟩:=M.g.four
 obtain ⟨lq1,lq2,lq3⟩:=h.ml.st.lq _ c8 hh
 obtain ⟨gq1,gq2,gq3⟩:=h.ml.st.gq
 have HE:=Lib.hid (And.intro hk (And.intro hcl (And.intro hcg (And.intro h (And.intro c8 (And.intro hh (And.intro (And.intro lq1 lq2) (And.intro gq1 gq2))))))))
 obtain ⟨-,-,-,-,-,-,-,-,-,-,-,k39,k40,-,-,kn,ko,-,-,-,-⟩:=(h.ml.raw.after ((Wr.refl Nil w).alloc (.cells #[.int .i64 0,.int .i64 0,.int .i64 0,.int .i64 0] 136))).cs hk hcl hcg
 obtain ⟨-,-,-,-,-,-,-,-,-,-,-,-,-,k41,-,-,-,kp,-,-,-⟩:=hF0.drew.raw.cs hk hcl hcg
 rw [show f.ph k=0 from hp] at kp
 have eA:L.pA (f.nd k)=((f.nd k:Nat):Int):=by unfold Lp.pA;rw [h.l1];omega
 have hw1:IntKind.i64.wrap ((f.nd k:Nat):Int)=((f.nd k:Nat):Int):=by rw [IntKind.wrap_i64];omega
 have hFa:Fa w Z.drew M bk so cap dv f w.heap.size (w.heap.size+1) Dd.no:=⟨hF0.drew,hR0.after (w':=Z.drew) ((Wr.refl Nil Z).drew) λ_ _=>id,Nat.le_trans h.hb hWZ.size⟩
 generalize hY:Z.drew=Y at*
 have HF:=Lib.hid hFa
 generalize hx:((f.lk (f.nd k)).step (f.la (f.nd k):Nat) (f.own k:Nat) u)=xx at*
 generalize hd:((f.lk (f.nd k)).did (f.la (f.nd k):Nat) (f.own k:Nat) u)=dd at*
 have HD:=Lib.hid (And.intro hx hd)
 clear hx hd
 have ho:=(h.lin k hk).2.2.1
 obtain ⟨g,cg,hgv,hg⟩:=SrAt.stV (hFa.fm.raw.lat _ c8 hh).seat (show 0<(f.Lc (f.nd k)).s.n by omega)
 have s0:Y.cell? ⟨(M.l (f.nd k)).sr,0,none⟩=some (.slice (some ⟨g,0,none⟩) (f.Lc (f.nd k)).s.n cg):=(SrAt.cell0 (hFa.fm.raw.lat _ c8 hh).seat).trans (by rw [hgv])
 have s1:=(hg _ _ (stL_at (f.Lc (f.nd k)).s ho)).1
 have o1:((f.own k:Nat):Int)<((f.Lc (f.nd k)).s.n:Int):=by omega
 have o0:(0:Int)≤((f.own k:Nat):Int):=by omega
 obtain ⟨-,-,-,-,-,-,-,l0,l1,l2,l3,-,-,-,-,-,-,-,-,-,-⟩:Cs _ M f.s.n k (f.nd k) (f.own k) κ p1 p2 p3 κ' q1 q2 q3 _ _:=(hFa.fm).raw.cs HE.out.1 HE.out.2.1 HE.out.2.2.1
 generalize (f.Lc (f.nd k)).s.st (f.own k)=sv at*
 have hsd:decide (sv=0)=false:=decide_eq_false hs
 clear h hk hFa hF0 hR0 hWZ hp hcl hcg c8 hh eA lq1 lq2 lq3 gq1 gq2 gq3 hgv hg
 go_enter func126,ntmps126
 go_upto_region 1 with fail
 go_region
 go_upto_region 3 with fail
 rw [←hZ,hY]
 clear hZ hY k39 k40 kn ko
 go_upto_region 4 with fail
 clear k41 kp
 go_upto_region 7 with (go_at_call 129;have cc:=ri_seats (HF.out.fm.raw.lat _ HE.out.2.2.2.2.1 HE.out.2.2.2.2.2.1);rw [HE.out.2.1] at cc;(with_reducible refine cc.mono ?_);rintro e w3 ⟨rfl,hWn⟩;have m0:=hWn.old l0;have m1:=hWn.old l1;have m2:=hWn.old l2;have m3:=hWn.old l3;have m4:=hWn.old s0;have m5:=hWn.old s1;have HF3:=Lib.hid (HF.out.after hWn);clear cc hWn)
 clear l0 l1 l2 l3 s0 s1 hsd hs
 go_upto_region 8 with (go_at_call 130;have cc:=ri_step (HE.out.2.2.2.1.lri HE.out.1 (HF3.out.fm.raw.lat _ HE.out.2.2.2.2.1 HE.out.2.2.2.2.2.1) HF3.out.ref HF3.out.bz) ((f.own k:Nat):Int) u;rw [HE.out.2.1,HE.out.2.2.2.2.2.2.1.2,HD.out.1,HD.out.2] at cc;(with_reducible refine cc.mono ?_);intro e w6 hq;have hA:=HF3.out.fm.lstep HE.out.2.2.2.2.1 HE.out.2.2.2.2.2.1 HE.out.2.2.2.2.2.2.1 hq;unfold RiPost at hq;obtain ⟨rfl,_,_,_⟩:=hq;dsimp only [Dd.rval];have HA:=Lib.hid hA;clear hA;clear cc)
 generalize hV:w6.alloc _=V at*
 have hb:V.heap[w6.heap.size]? =some (.cells (ridC dd) 136 (0,0)):=by rw [←hV];exact blk_alloc_new _ _
 have hWV:Wr Nil w6 V:=by rw [←hV];exact (Wr.refl _ w6).alloc _
 have hG:=HA.out.after hWV
 have hlt:w.heap.size+1<w6.heap.size:=blk_lt HA.out.did
 have x1:V.cell? ⟨w6.heap.size,1,none⟩=some (.int .i64 (b2i dd.enq)):=blk_cell hb 1
 obtain ⟨d0,d1,d2,d3⟩:=hG.dcell
 obtain ⟨y0,y1,y2,y3⟩:=hG.dfrz
 have HG:=Lib.hid (And.intro hG (And.intro hb hlt))
 clear hV hb hWV hG hlt
 go_upto_region 9 with fail
 generalize hV2:World.setCell _ _ _=V2 at*
 have hG2:=HG.out.1.setD 1 (.int .i64 (b2i dd.enq)) ⟨0,dd.enq,false,false⟩ rfl
 have k2:Wr (One (w.heap.size+1)) V (V.setCell ⟨w.heap.size+1,1,none⟩ (.int .i64 (b2i dd.enq))):=(Wr.refl _ V).setCell _ _ λ_=>rfl
 have hV2':V.setCell ⟨w.heap.size+1,1,none⟩ (.int .i64 (b2i dd.enq))=V2:=hV2
 rw [hV2'] at hG2 k2
 clear hV2 hV2'
 have hb2:=(k2.block _ (blk_lt HG.out.2.1) (λe=>by have:=HG.out.2.2;unfold One at e;omega)).trans HG.out.2.1
 have x0:V2.cell? ⟨w6.heap.size,0,none⟩=some (.int .i64 dd.ev):=blk_cell hb2 0
 obtain ⟨-,-,-,-,-,-,-,-,-,-,-,-,-,c41,-,-,-,rp,-,zp,-⟩:Cs _ M f.s.n k (f.nd k) (f.own k) κ p1 p2 p3 κ' q1 q2 q3 _ _:=(hG2).raw.cs HE.out.1 HE.out.2.1 HE.out.2.2.1
 have HG2:=Lib.hid hG2
 clear hG2 k2 hb2 d0 d1 d2 d3 y0 y1 y2 y3 x1
 go_region
 generalize hX:World.setCell _ _ _=X at*
 have hT:=HG2.out.setP k dd.ev
 try rw [hX] at hT
 obtain ⟨d0,d1,d2,d3⟩:=(hT).dcell;obtain ⟨y0,y1,y2,y3⟩:=(hT).dfrz;obtain ⟨r0,r1,r2,r3⟩:=(hT).rcell;obtain ⟨t0,t1,t2,t3⟩:=(hT).rfrz
 have HT:=Lib.hid hT.drew
 clear hX hT
 go_wp2
 refine bodyPost_ret (v:=Dd.rval ⟨0,dd.enq,false,false⟩) (results_cell_row rfl _ _ w.heap.size 136 _ (0,0) _ rfl (set4 HT.out.res rfl _ _ _ _) underlying136 rfl i_did10) rfl HT.out.told
theorem rl_lock1a {w:World} {M:Mp} {bk:Nat} {so:Option Addr} {cap:Nat} {dv:Value} {f:FL} {L:Lp} (h:MmIn w M bk so cap dv f L) (k:Nat) (hk:k<f.s.n) (u:Int) (hp:f.ph k=1) (hv:tellS f.ps u 1 (L.pA (f.nd k))=0):
  Calls prog 126 #[.pointer (some ⟨M.r,0,none⟩),.pointer (some ⟨M.pr,0,none⟩),.int .i64 (k:Int),.int .i64 u] w (RkPost w M bk dv {f with ph:=upd f.ph k 2,G:=f.G.lock (f.nd k:Nat) (-1),ps:=doS f.ps u 1 (L.pA (f.nd k)) 0 0} (Dd.rval Dd.no)):=by
 obtain ⟨Z,hZ⟩:∃ Z,Z=(w.alloc (.cells #[.int .i64 0,.int .i64 0,.int .i64 0,.int .i64 0] 136)).alloc (.cells #[.int .i64 0,.int .i64 0,.int .i64 0,.int .i64 0] 136):=⟨_,rfl⟩
 obtain ⟨hF0,hR0,hWZ⟩:=h.start Z hZ
 have i0:(0:Int)≤(k:Int):=by omega
 have i1:(k:Int)<f.s.n:=by omega
 obtain ⟨c8,hh⟩:=h.ml.raw.has k hk
 have c8i:((f.nd k:Nat):Int)<8:=by omega
 obtain ⟨κ,p1,p2,p3,hcl⟩:=(M.l (f.nd k)).four
 obtain ⟨κ',q1,q2,q3,hcg⟩:=M.g.four
 obtain ⟨lq1,lq2,lq3⟩:=h.ml.st.lq _ c8 hh
 obtain ⟨gq1,gq2,gq3⟩:=h.ml.st.gq
 have HE:=Lib.hid (And.intro hk (And.intro hcl (And.intro hcg (And.intro h (And.intro c8 (And.intro hh (And.intro (And.intro lq1 lq2) (And.intro gq1 gq2))))))))
 obtain ⟨-,-,-,-,-,-,-,-,-,-,-,k39,k40,-,-,kn,ko,-,-,-,-⟩:=(h.ml.raw.after ((Wr.refl Nil w).alloc (.cells #[.int .i64 0,.int .i64 0,.int .i64 0,.int .i64 0] 136))).cs hk hcl hcg
 obtain ⟨-,-,-,-,-,-,-,-,-,-,-,-,-,k41,-,-,-,kp,-,-,-⟩:=hF0.drew.raw.cs hk hcl hcg
 rw [show f.ph k=1 from hp] at kp
 have eA:L.pA (f.nd k)=((f.nd k:Nat):Int):=by unfold Lp.pA;rw [h.l1];omega
 have hw1:IntKind.i64.wrap ((f.nd k:Nat):Int)=((f.nd k:Nat):Int):=by rw [IntKind.wrap_i64];omega
 have hFa:Fa w Z.drew M bk so cap dv f w.heap.size (w.heap.size+1) Dd.no:=⟨hF0.drew,hR0.after (w':=Z.drew) ((Wr.refl Nil Z).drew) λ_ _=>id,Nat.le_trans h.hb hWZ.size⟩
 generalize hY:Z.drew=Y at*
 have HF:=Lib.hid hFa
 have cA:=Kf.ra_load hFa.ref u (L.pA (f.nd k)) h.hD h.hws h.hac hFa.bz
 rw [eA] at cA hv ⊢
 obtain ⟨-,c1,-,-,-,-,-,-,-,-,-,-,-,-,-,-,-,-,-,-,-⟩:Cs _ M f.s.n k (f.nd k) (f.own k) κ p1 p2 p3 κ' q1 q2 q3 _ _:=(hFa.fm).raw.cs HE.out.1 HE.out.2.1 HE.out.2.2.1
 rw [h.ml.st.a0] at c1
 generalize tellS f.ps u 1 ((f.nd k:Nat):Int)=v at*
 subst hv
 clear h hk hFa hF0 hR0 hWZ hp hcl hcg c8 hh eA lq1 lq2 lq3 gq1 gq2 gq3
 go_enter func126,ntmps126
 go_upto_region 1 with fail
 go_region
 go_upto_region 3 with fail
 rw [←hZ,hY]
 clear hZ hY k39 k40 kn ko
 go_upto_region 4 with fail
 clear k41 kp
 go_upto_region 14 with (go_at_call 131;(with_reducible refine cA.mono ?_);intro e w2 hq;unfold Kf.RaPost at hq;obtain ⟨rfl,hRS,hW⟩:=hq;have hA:=HF.out.fm.port hRS hW;obtain ⟨-,-,-,-,-,-,-,-,-,-,-,-,-,c41,-,-,-,rp,-,zp,-⟩:Cs _ M f.s.n k (f.nd k) (f.own k) κ p1 p2 p3 κ' q1 q2 q3 _ _:=(hA).raw.cs HE.out.1 HE.out.2.1 HE.out.2.2.1;have HA:=Lib.hid hA;clear hA hRS hW c1 cA)
 generalize hX:World.setCell _ _ _=X at*
 have hX2:=HA.out.setP k 2
 have hX':w2.setCell ⟨M.ph,k,none⟩ (.int .i64 2)=X:=hX
 rw [hX'] at hX2
 clear hX hX'
 obtain ⟨-,-,-,g0,g1,g2,g3,-,-,-,-,-,-,-,-,-,-,-,-,-,-⟩:Cs _ M f.s.n k (f.nd k) (f.own k) κ p1 p2 p3 κ' q1 q2 q3 _ _:=(hX2).raw.cs HE.out.1 HE.out.2.1 HE.out.2.2.1
 have HX:=Lib.hid hX2
 clear hX2 c41 zp rp
 go_wp2_with (first
  |(go_at_call 129;have cc:=ri_seats HX.out.raw.gat;rw [HE.out.2.2.1] at cc;(with_reducible refine cc.mono ?_);rintro e w3 ⟨rfl,hWn⟩;have HX3:=Lib.hid (HX.out.after hWn);clear cc hWn)
  |(go_at_call 56;have cc:=rs_lock HX3.out.raw.gat.seat (by rw [show (f.G.s.n)=8 from HE.out.2.2.2.1.gin.2.2.1];decide) (by rw [show (f.G.s.n)=8 from HE.out.2.2.2.1.gin.2.2.1];decide) ((f.nd k:Nat):Int) (-1);(with_reducible refine cc.mono ?_);intro e w4 hq;have hS:=HX3.out.glock hq;unfold RsPost at hq;obtain ⟨rfl,_,_⟩:=hq;obtain ⟨d0,d1,d2,d3⟩:=(hS).dcell;obtain ⟨y0,y1,y2,y3⟩:=(hS).dfrz;obtain ⟨r0,r1,r2,r3⟩:=(hS).rcell;obtain ⟨t0,t1,t2,t3⟩:=(hS).rfrz;have HT:=Lib.hid hS;clear hS cc))
 refine bodyPost_ret (v:=Dd.rval Dd.no) (results_cell_row rfl _ _ w.heap.size 136 _ (0,0) _ rfl (set4 HT.out.res rfl _ _ _ _) underlying136 rfl i_did10) rfl HT.out.told
theorem rl_lock1b {w:World} {M:Mp} {bk:Nat} {so:Option Addr} {cap:Nat} {dv:Value} {f:FL} {L:Lp} (h:MmIn w M bk so cap dv f L) (k:Nat) (hk:k<f.s.n) (u:Int) (hp:f.ph k=1) (hv:tellS f.ps u 1 (L.pA (f.nd k))≠0):
  Calls prog 126 #[.pointer (some ⟨M.r,0,none⟩),.pointer (some ⟨M.pr,0,none⟩),.int .i64 (k:Int),.int .i64 u] w (RkPost w M bk dv {f with ps:=doS f.ps u 1 (L.pA (f.nd k)) 0 0} (Dd.rval ⟨1,false,false,false⟩)):=by
 obtain ⟨Z,hZ⟩:∃ Z,Z=(w.alloc (.cells #[.int .i64 0,.int .i64 0,.int .i64 0,.int .i64 0] 136)).alloc (.cells #[.int .i64 0,.int .i64 0,.int .i64 0,.int .i64 0] 136):=⟨_,rfl⟩
 obtain ⟨hF0,hR0,hWZ⟩:=h.start Z hZ
 have i0:(0:Int)≤(k:Int):=by omega
 have i1:(k:Int)<f.s.n:=by omega
 obtain ⟨c8,hh⟩:=h.ml.raw.has k hk
 have c8i:((f.nd k:Nat):Int)<8:=by omega
 obtain ⟨κ,p1,p2,p3,hcl⟩:=(M.l (f.nd k)).four
 obtain ⟨κ',q1,q2,q3,hcg⟩:=M.g.four
 obtain ⟨lq1,lq2,lq3⟩:=h.ml.st.lq _ c8 hh
 obtain ⟨gq1,gq2,gq3⟩:=h.ml.st.gq
 have HE:=Lib.hid (And.intro hk (And.intro hcl (And.intro hcg (And.intro h (And.intro c8 (And.intro hh (And.intro (And.intro lq1 lq2) (And.intro gq1 gq2))))))))
 obtain ⟨-,-,-,-,-,-,-,-,-,-,-,k39,k40,-,-,kn,ko,-,-,-,-⟩:=(h.ml.raw.after ((Wr.refl Nil w).alloc (.cells #[.int .i64 0,.int .i64 0,.int .i64 0,.int .i64 0] 136))).cs hk hcl hcg
 obtain ⟨-,-,-,-,-,-,-,-,-,-,-,-,-,k41,-,-,-,kp,-,-,-⟩:=hF0.drew.raw.cs hk hcl hcg
 rw [show f.ph k=1 from hp] at kp
 have eA:L.pA (f.nd k)=((f.nd k:Nat):Int):=by unfold Lp.pA;rw [h.l1];omega
 have hw1:IntKind.i64.wrap ((f.nd k:Nat):Int)=((f.nd k:Nat):Int):=by rw [IntKind.wrap_i64];omega
 have hFa:Fa w Z.drew M bk so cap dv f w.heap.size (w.heap.size+1) Dd.no:=⟨hF0.drew,hR0.after (w':=Z.drew) ((Wr.refl Nil Z).drew) λ_ _=>id,Nat.le_trans h.hb hWZ.size⟩
 generalize hY:Z.drew=Y at*
 have HF:=Lib.hid hFa
 have cA:=Kf.ra_load hFa.ref u (L.pA (f.nd k)) h.hD h.hws h.hac hFa.bz
 rw [eA] at cA hv ⊢
 obtain ⟨-,c1,-,-,-,-,-,-,-,-,-,-,-,-,-,-,-,-,-,-,-⟩:Cs _ M f.s.n k (f.nd k) (f.own k) κ p1 p2 p3 κ' q1 q2 q3 _ _:=(hFa.fm).raw.cs HE.out.1 HE.out.2.1 HE.out.2.2.1
 rw [h.ml.st.a0] at c1
 generalize tellS f.ps u 1 ((f.nd k:Nat):Int)=v at*
 clear h hk hFa hF0 hR0 hWZ hp hcl hcg c8 hh eA lq1 lq2 lq3 gq1 gq2 gq3
 go_enter func126,ntmps126
 go_upto_region 1 with fail
 go_region
 go_upto_region 3 with fail
 rw [←hZ,hY]
 clear hZ hY k39 k40 kn ko
 go_upto_region 4 with fail
 clear k41 kp
 go_upto_region 22 with (go_at_call 131;(with_reducible refine cA.mono ?_);intro e w2 hq;unfold Kf.RaPost at hq;obtain ⟨rfl,hRS,hW⟩:=hq;have hA:=HF.out.fm.port hRS hW;obtain ⟨a0,a1,a2,a3⟩:=hA.dcell;obtain ⟨b0,b1,b2,b3⟩:=hA.dfrz;have HA:=Lib.hid hA;clear hA hRS hW c1 cA)
 clear a0 a1 a2 a3 b0 b1 b2 b3
 generalize hX:World.setCell _ _ _=X at*
 have hT:=HA.out.setD 0 (.int .i64 1) ⟨1,false,false,false⟩ rfl
 try rw [hX] at hT
 obtain ⟨d0,d1,d2,d3⟩:=(hT).dcell;obtain ⟨y0,y1,y2,y3⟩:=(hT).dfrz;obtain ⟨r0,r1,r2,r3⟩:=(hT).rcell;obtain ⟨t0,t1,t2,t3⟩:=(hT).rfrz
 have HT:=Lib.hid hT
 clear hX hT
 go_wp2
 refine bodyPost_ret (v:=Dd.rval ⟨1,false,false,false⟩) (results_cell_row rfl _ _ w.heap.size 136 _ (0,0) _ rfl (set4 HT.out.res rfl _ _ _ _) underlying136 rfl i_did10) rfl HT.out.told
theorem rl_lock2 {w:World} {M:Mp} {bk:Nat} {so:Option Addr} {cap:Nat} {dv:Value} {f:FL} {L:Lp} (h:MmIn w M bk so cap dv f L) (k:Nat) (hk:k<f.s.n) (u:Int) (hp:f.ph k=2) (he:0≤(f.gl.did (f.ga:Nat) (f.nd k:Nat) u).ev∧(f.gl.did (f.ga:Nat) (f.nd k:Nat) u).ev≤5):
  Calls prog 126 #[.pointer (some ⟨M.r,0,none⟩),.pointer (some ⟨M.pr,0,none⟩),.int .i64 (k:Int),.int .i64 u] w (RkPost w M bk dv {f with G:=(f.gl.step (f.ga:Nat) (f.nd k:Nat) u),ph:=upd f.ph k (2+(f.gl.did (f.ga:Nat) (f.nd k:Nat) u).ev),ps:=(f.gl.step (f.ga:Nat) (f.nd k:Nat) u).ps} (Dd.rval ⟨0,false,(f.gl.did (f.ga:Nat) (f.nd k:Nat) u).enq,false⟩)):=by
 obtain ⟨Z,hZ⟩:∃ Z,Z=(w.alloc (.cells #[.int .i64 0,.int .i64 0,.int .i64 0,.int .i64 0] 136)).alloc (.cells #[.int .i64 0,.int .i64 0,.int .i64 0,.int .i64 0] 136):=⟨_,rfl⟩
 obtain ⟨hF0,hR0,hWZ⟩:=h.start Z hZ
 have i0:(0:Int)≤(k:Int):=by omega
 have i1:(k:Int)<f.s.n:=by omega
 obtain ⟨c8,hh⟩:=h.ml.raw.has k hk
 have c8i:((f.nd k:Nat):Int)<8:=by omega
 obtain ⟨κ,p1,p2,p3,hcl⟩:=(M.l (f.nd k)).four
 obtain ⟨κ',q1,q2,q3,hcg⟩:=M.g.four
 obtain ⟨lq1,lq2,lq3⟩:=h.ml.st.lq _ c8 hh
 obtain ⟨gq1,gq2,gq3⟩:=h.ml.st.gq
 have HE:=Lib.hid (And.intro hk (And.intro hcl (And.intro hcg (And.intro h (And.intro c8 (And.intro hh (And.intro (And.intro lq1 lq2) (And.intro gq1 gq2))))))))
 obtain ⟨-,-,-,-,-,-,-,-,-,-,-,k39,k40,-,-,kn,ko,-,-,-,-⟩:=(h.ml.raw.after ((Wr.refl Nil w).alloc (.cells #[.int .i64 0,.int .i64 0,.int .i64 0,.int .i64 0] 136))).cs hk hcl hcg
 obtain ⟨-,-,-,-,-,-,-,-,-,-,-,-,-,k41,-,-,-,kp,-,-,-⟩:=hF0.drew.raw.cs hk hcl hcg
 rw [show f.ph k=2 from hp] at kp
 have eA:L.pA (f.nd k)=((f.nd k:Nat):Int):=by unfold Lp.pA;rw [h.l1];omega
 have hw1:IntKind.i64.wrap ((f.nd k:Nat):Int)=((f.nd k:Nat):Int):=by rw [IntKind.wrap_i64];omega
 have hFa:Fa w Z.drew M bk so cap dv f w.heap.size (w.heap.size+1) Dd.no:=⟨hF0.drew,hR0.after (w':=Z.drew) ((Wr.refl Nil Z).drew) λ_ _=>id,Nat.le_trans h.hb hWZ.size⟩
 generalize hY:Z.drew=Y at*
 have HF:=Lib.hid hFa
 generalize hx:(f.gl.step (f.ga:Nat) (f.nd k:Nat) u)=xx at*
 generalize hd:(f.gl.did (f.ga:Nat) (f.nd k:Nat) u)=dd at*
 have HD:=Lib.hid (And.intro hx hd)
 clear hx hd
 have hw3:IntKind.i64.wrap (2+dd.ev)=2+dd.ev:=by rw [IntKind.wrap_i64];omega
 obtain ⟨-,-,-,g0,g1,g2,g3,-,-,-,-,-,-,-,-,-,-,-,-,-,-⟩:Cs _ M f.s.n k (f.nd k) (f.own k) κ p1 p2 p3 κ' q1 q2 q3 _ _:=(hFa.fm).raw.cs HE.out.1 HE.out.2.1 HE.out.2.2.1
 clear h hk hFa hF0 hR0 hWZ hp hcl hcg c8 hh eA lq1 lq2 lq3 gq1 gq2 gq3 he
 go_enter func126,ntmps126
 go_upto_region 1 with fail
 go_region
 go_upto_region 3 with fail
 rw [←hZ,hY]
 clear hZ hY k39 k40 kn ko
 go_upto_region 4 with fail
 clear k41 kp
 go_upto_region 17 with (go_at_call 130;have cc:=ri_step (HE.out.2.2.2.1.gri HF.out.fm.raw.gat HF.out.ref HF.out.bz) ((f.nd k:Nat):Int) u;rw [HE.out.2.2.1,HE.out.2.2.2.2.2.2.2.2,HD.out.1,HD.out.2] at cc;(with_reducible refine cc.mono ?_);intro e w6 hq;have hA:=HF.out.fm.gstep HE.out.2.2.2.2.2.2.2 hq;unfold RiPost at hq;obtain ⟨rfl,_,_,_⟩:=hq;dsimp only [Dd.rval];have HA:=Lib.hid hA;clear hA;clear cc)
 clear g0 g1 g2 g3
 generalize hV:w6.alloc _=V at*
 have hb:V.heap[w6.heap.size]? =some (.cells (ridC dd) 136 (0,0)):=by rw [←hV];exact blk_alloc_new _ _
 have hWV:Wr Nil w6 V:=by rw [←hV];exact (Wr.refl _ w6).alloc _
 have hG:=HA.out.after hWV
 have hlt:w.heap.size+1<w6.heap.size:=blk_lt HA.out.did
 have x1:V.cell? ⟨w6.heap.size,1,none⟩=some (.int .i64 (b2i dd.enq)):=blk_cell hb 1
 obtain ⟨d0,d1,d2,d3⟩:=hG.dcell
 obtain ⟨y0,y1,y2,y3⟩:=hG.dfrz
 have HG:=Lib.hid (And.intro hG (And.intro hb hlt))
 clear hV hb hWV hG hlt
 go_upto_region 18 with fail
 generalize hV2:World.setCell _ _ _=V2 at*
 have hG2:=HG.out.1.setD 2 (.int .i64 (b2i dd.enq)) ⟨0,false,dd.enq,false⟩ rfl
 have k2:Wr (One (w.heap.size+1)) V (V.setCell ⟨w.heap.size+1,2,none⟩ (.int .i64 (b2i dd.enq))):=(Wr.refl _ V).setCell _ _ λ_=>rfl
 have hV2':V.setCell ⟨w.heap.size+1,2,none⟩ (.int .i64 (b2i dd.enq))=V2:=hV2
 rw [hV2'] at hG2 k2
 clear hV2 hV2'
 have hb2:=(k2.block _ (blk_lt HG.out.2.1) (λe=>by have:=HG.out.2.2;unfold One at e;omega)).trans HG.out.2.1
 have x0:V2.cell? ⟨w6.heap.size,0,none⟩=some (.int .i64 dd.ev):=blk_cell hb2 0
 obtain ⟨-,-,-,-,-,-,-,-,-,-,-,-,-,c41,-,-,-,rp,-,zp,-⟩:Cs _ M f.s.n k (f.nd k) (f.own k) κ p1 p2 p3 κ' q1 q2 q3 _ _:=(hG2).raw.cs HE.out.1 HE.out.2.1 HE.out.2.2.1
 have HG2:=Lib.hid hG2
 clear hG2 k2 hb2 d0 d1 d2 d3 y0 y1 y2 y3 x1
 go_region
 generalize hX:World.setCell _ _ _=X at*
 have hT:=HG2.out.setP k (2+dd.ev)
 try rw [hX] at hT
 obtain ⟨d0,d1,d2,d3⟩:=(hT).dcell;obtain ⟨y0,y1,y2,y3⟩:=(hT).dfrz;obtain ⟨r0,r1,r2,r3⟩:=(hT).rcell;obtain ⟨t0,t1,t2,t3⟩:=(hT).rfrz
 have HT:=Lib.hid hT.drew
 clear hX hT
 go_wp2
 refine bodyPost_ret (v:=Dd.rval ⟨0,false,dd.enq,false⟩) (results_cell_row rfl _ _ w.heap.size 136 _ (0,0) _ rfl (set4 HT.out.res rfl _ _ _ _) underlying136 rfl i_did10) rfl HT.out.told
theorem rl_lock3 {w:World} {M:Mp} {bk:Nat} {so:Option Addr} {cap:Nat} {dv:Value} {f:FL} {L:Lp} (h:MmIn w M bk so cap dv f L) (k:Nat) (hk:k<f.s.n) (u:Int) (hp:f.ph k=3):
  Calls prog 126 #[.pointer (some ⟨M.r,0,none⟩),.pointer (some ⟨M.pr,0,none⟩),.int .i64 (k:Int),.int .i64 u] w (RkPost w M bk dv {f with ps:=doS f.ps u 2 (L.pA (f.nd k)) 0 1} (Dd.rval ⟨1,false,false,true⟩)):=by
 obtain ⟨Z,hZ⟩:∃ Z,Z=(w.alloc (.cells #[.int .i64 0,.int .i64 0,.int .i64 0,.int .i64 0] 136)).alloc (.cells #[.int .i64 0,.int .i64 0,.int .i64 0,.int .i64 0] 136):=⟨_,rfl⟩
 obtain ⟨hF0,hR0,hWZ⟩:=h.start Z hZ
 have i0:(0:Int)≤(k:Int):=by omega
 have i1:(k:Int)<f.s.n:=by omega
 obtain ⟨c8,hh⟩:=h.ml.raw.has k hk
 have c8i:((f.nd k:Nat):Int)<8:=by omega
 obtain ⟨κ,p1,p2,p3,hcl⟩:=(M.l (f.nd k)).four
 obtain ⟨κ',q1,q2,q3,hcg⟩:=M.g.four
 obtain ⟨lq1,lq2,lq3⟩:=h.ml.st.lq _ c8 hh
 obtain ⟨gq1,gq2,gq3⟩:=h.ml.st.gq
 have HE:=Lib.hid (And.intro hk (And.intro hcl (And.intro hcg (And.intro h (And.intro c8 (And.intro hh (And.intro (And.intro lq1 lq2) (And.intro gq1 gq2))))))))
 obtain ⟨-,-,-,-,-,-,-,-,-,-,-,k39,k40,-,-,kn,ko,-,-,-,-⟩:=(h.ml.raw.after ((Wr.refl Nil w).alloc (.cells #[.int .i64 0,.int .i64 0,.int .i64 0,.int .i64 0] 136))).cs hk hcl hcg
 obtain ⟨-,-,-,-,-,-,-,-,-,-,-,-,-,k41,-,-,-,kp,-,-,-⟩:=hF0.drew.raw.cs hk hcl hcg
 rw [show f.ph k=3 from hp] at kp
 have eA:L.pA (f.nd k)=((f.nd k:Nat):Int):=by unfold Lp.pA;rw [h.l1];omega
 have hw1:IntKind.i64.wrap ((f.nd k:Nat):Int)=((f.nd k:Nat):Int):=by rw [IntKind.wrap_i64];omega
 have hFa:Fa w Z.drew M bk so cap dv f w.heap.size (w.heap.size+1) Dd.no:=⟨hF0.drew,hR0.after (w':=Z.drew) ((Wr.refl Nil Z).drew) λ_ _=>id,Nat.le_trans h.hb hWZ.size⟩
 generalize hY:Z.drew=Y at*
 have HF:=Lib.hid hFa
 have cA:=Kf.ra_store hFa.ref u (L.pA (f.nd k)) 1 (by decide) (by decide) h.hD h.hws h.hac hFa.bz
 rw [eA] at cA ⊢
 obtain ⟨-,c1,-,-,-,-,-,-,-,-,-,-,-,-,-,-,-,-,-,-,-⟩:Cs _ M f.s.n k (f.nd k) (f.own k) κ p1 p2 p3 κ' q1 q2 q3 _ _:=(hFa.fm).raw.cs HE.out.1 HE.out.2.1 HE.out.2.2.1
 rw [h.ml.st.a0] at c1
 clear h hk hFa hF0 hR0 hWZ hp hcl hcg c8 hh eA lq1 lq2 lq3 gq1 gq2 gq3
 go_enter func126,ntmps126
 go_upto_region 1 with fail
 go_region
 go_upto_region 3 with fail
 rw [←hZ,hY]
 clear hZ hY k39 k40 kn ko
 go_upto_region 4 with fail
 clear k41 kp
 go_upto_region 22 with (go_at_call 132;(with_reducible refine cA.mono ?_);intro e w2 hq;unfold Kf.RaPost at hq;obtain ⟨rfl,hRS,hW⟩:=hq;have hA:=HF.out.fm.port hRS hW;obtain ⟨a0,a1,a2,a3⟩:=hA.dcell;obtain ⟨b0,b1,b2,b3⟩:=hA.dfrz;have HA:=Lib.hid hA;clear hA hRS hW c1 cA)
 clear a0 a1 a2 a3 b0 b1 b2 b3
 generalize hX:World.setCell _ _ _=X at*
 have hT:=(HA.out.setD 0 (.int .i64 1) ⟨1,false,false,false⟩ rfl).setD 3 (.int .i64 1) ⟨1,false,false,true⟩ rfl
 try rw [hX] at hT
 obtain ⟨d0,d1,d2,d3⟩:=(hT).dcell;obtain ⟨y0,y1,y2,y3⟩:=(hT).dfrz;obtain ⟨r0,r1,r2,r3⟩:=(hT).rcell;obtain ⟨t0,t1,t2,t3⟩:=(hT).rfrz
 have HT:=Lib.hid hT
 clear hX hT
 go_wp2
 refine bodyPost_ret (v:=Dd.rval ⟨1,false,false,true⟩) (results_cell_row rfl _ _ w.heap.size 136 _ (0,0) _ rfl (set4 HT.out.res rfl _ _ _ _) underlying136 rfl i_did10) rfl HT.out.told
end Go.Proofs.YtkmikkjjnbikdaaGreat

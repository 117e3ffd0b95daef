import Derived.Test.YtkmikkjjnbikdaaGreatCohRfm
namespace Go.Proofs.YtkmikkjjnbikdaaGreat
set_option maxHeartbeats 8000000
open _root_.Go.Proofs.Tryz
open Go.RowKit Go.BigFrame
set_option linter.unusedVariables false
set_option maxRecDepth 100000
theorem i_fld10 (a b c d:Int) (w:World):(Instr.field 136 (.agg #[.int .i64 a,.int .i64 b,.int .i64 c,.int .i64 d]) 0).run prog w= .ok (.int .i64 a) w:=by kernel_rfl
theorem lturn_any {w X:World} {M:Mp} {bk:Nat} {so:Option Addr} {cap:Nat} {dv:Value} {f:FL} {L:Lp} (h:MmIn w M bk so cap dv f L) {k:Nat} (hk:k<f.s.n) {r:Nat} {hv dv':Value} (hS:RsAt X r hv dv' (f.Lc (f.nd k)).s) (x:Int) (hx:x≠1):
  Calls prog 57 #[.pointer (some ⟨r,0,none⟩),.int .i64 (f.own k:Nat),.int .i64 x] X (RsPost X r hv dv' ((f.Lc (f.nd k)).s.turn (f.own k:Nat) x) (turnE (f.Lc (f.nd k)).s (f.own k:Nat))):=by
 obtain ⟨⟨g,W,hin⟩,_,ho,hp⟩:=h.lin k hk
 have h8:=hin.qf.n8
 unfold FL.lk at h8
 rw [Inn.on_s] at h8
 have c:=rs_turn hS (by omega) (by omega) (f.own k:Nat) x hx
 have e1:(f.Lc (f.nd k)).s.rturn (f.own k:Nat) x=(f.Lc (f.nd k)).s.turn (f.own k:Nat) x:=by unfold SS.rturn;rw [if_neg (λe=>by rw [hp] at e;exact absurd e.2 (by decide))]
 have e2:rturnE (f.Lc (f.nd k)).s (f.own k:Nat) x=turnE (f.Lc (f.nd k)).s (f.own k:Nat):=by unfold rturnE;rw [if_neg (λe=>by rw [hp] at e;exact absurd e.2 (by decide))]
 rw [e1,e2] at c
 exact c
theorem gturn_any {w X:World} {M:Mp} {bk:Nat} {so:Option Addr} {cap:Nat} {dv:Value} {f:FL} {L:Lp} (h:MmIn w M bk so cap dv f L) {r:Nat} {hv dv':Value} (hS:RsAt X r hv dv' f.G.s) (t x:Int) (hx:x≠1):
  Calls prog 57 #[.pointer (some ⟨r,0,none⟩),.int .i64 t,.int .i64 x] X (RsPost X r hv dv' (f.G.s.turn t x) (turnE f.G.s t)):=by
 obtain ⟨_,_,h8,hp⟩:=h.gin
 have c:=rs_turn hS (by omega) (by omega) t x hx
 have e1:f.G.s.rturn t x=f.G.s.turn t x:=by unfold SS.rturn;rw [if_neg (λe=>by rw [hp] at e;exact absurd e.2 (by decide))]
 have e2:rturnE f.G.s t x=turnE f.G.s t:=by unfold rturnE;rw [if_neg (λe=>by rw [hp] at e;exact absurd e.2 (by decide))]
 rw [e1,e2] at c
 exact c
theorem rl_unl0a {w:World} {M:Mp} {bk:Nat} {so:Option Addr} {cap:Nat} {dv:Value} {f:FL} {L:Lp} (h:MmIn w M bk so cap dv f L) (k:Nat) (hk:k<f.s.n) (u:Int) (hp:f.ph k=0) (hv:tellS f.ps u 1 (L.pA (f.nd k))<f.bud):
  Calls prog 127 #[.pointer (some ⟨M.r,0,none⟩),.pointer (some ⟨M.pr,0,none⟩),.int .i64 (k:Int),.int .i64 u] w (RkPost w M bk dv {f with got:=upd f.got k (tellS f.ps u 1 (L.pA (f.nd k))),ph:=upd f.ph k 1,Lc:=upd f.Lc (f.nd k) ((f.Lc (f.nd k)).turn (f.own k:Nat) 4),ps:=doS f.ps u 1 (L.pA (f.nd k)) 0 0} (Dd.rval Dd.no)):=by
 obtain ⟨Z,hZ⟩:∃ Z,Z=(w.alloc (.cells #[.int .i64 0,.int .i64 0,.int .i64 0,.int .i64 0] 136)).alloc (.cells #[.int .i64 0,.int .i64 0,.int .i64 0,.int .i64 0] 136):=⟨_,rfl⟩
 obtain ⟨hF0,hR0,hWZ⟩:=h.start Z hZ
 have i0:(0:Int)≤(k:Int):=by omega
 have i1:(k:Int)<f.s.n:=by omega
 obtain ⟨c8,hh⟩:=h.ml.raw.has k hk
 have c8i:((f.nd k:Nat):Int)<8:=by omega
 obtain ⟨κ,p1,p2,p3,hcl⟩:=(M.l (f.nd k)).four
 obtain ⟨κ',q1,q2,q3,hcg⟩:=M.g.four
 obtain ⟨lq1,lq2,lq3⟩:=h.ml.st.lq _ c8 hh
 obtain ⟨gq1,gq2,gq3⟩:=h.ml.st.gq
 have HE:=Lib.hid (And.intro hk (And.intro hcl (And.intro hcg (And.intro h (And.intro c8 (And.intro hh (And.intro (And.intro lq1 lq2) (And.intro gq1 gq2))))))))
 obtain ⟨-,-,-,-,-,-,-,-,-,-,-,k39,k40,-,-,kn,ko,-,-,-,-⟩:=(h.ml.raw.after ((Wr.refl Nil w).alloc (.cells #[.int .i64 0,.int .i64 0,.int .i64 0,.int .i64 0] 136))).cs hk hcl hcg
 obtain ⟨-,-,-,-,-,-,-,-,-,-,-,-,-,k41,-,-,-,kp,-,-,-⟩:=hF0.drew.raw.cs hk hcl hcg
 rw [show f.ph k=0 from hp] at kp
 have eA:L.pA (f.nd k)=((f.nd k:Nat):Int):=by unfold Lp.pA;rw [h.l1];omega
 have hw1:IntKind.i64.wrap ((f.nd k:Nat):Int)=((f.nd k:Nat):Int):=by rw [IntKind.wrap_i64];omega
 have hFa:Fa w Z.drew M bk so cap dv f w.heap.size (w.heap.size+1) Dd.no:=⟨hF0.drew,hR0.after (w':=Z.drew) ((Wr.refl Nil Z).drew) λ_ _=>id,Nat.le_trans h.hb hWZ.size⟩
 generalize hY:Z.drew=Y at*
 have HF:=Lib.hid hFa
 have hT:=ref_tell hFa.ref u 1 (L.pA (f.nd k))
 have cA:=Kf.ra_load hFa.drew.ref u (L.pA (f.nd k)) h.hD h.hws h.hac hFa.drew.bz
 rw [eA] at cA hT hv ⊢
 generalize tellS f.ps u 1 ((f.nd k:Nat):Int)=v at*
 have hB:=h.ml.st.bud
 have hwv:IntKind.i64.wrap v=v:=by rw [IntKind.wrap_i64];omega
 have hvd:decide (v<f.bud)=true:=by simp;omega
 obtain ⟨-,nc1,-,-,-,-,-,-,-,-,-,-,-,-,nc42,-,-,-,-,-,-⟩:Cs _ M f.s.n k (f.nd k) (f.own k) κ p1 p2 p3 κ' q1 q2 q3 _ _:=(hFa.drew.fm).raw.cs HE.out.1 HE.out.2.1 HE.out.2.2.1
 rw [h.ml.st.a0] at nc1
 have HB:=Lib.hid hB
 clear h hk hFa hF0 hR0 hWZ hp hcl hcg c8 hh eA lq1 lq2 lq3 gq1 gq2 gq3 hB hT hv
 go_enter func127,ntmps127
 go_upto_region 1 with fail
 go_region
 go_upto_region 3 with fail
 rw [←hZ,hY]
 clear hZ hY k39 k40 kn ko
 go_upto_region 4 with fail
 clear k41 kp
 go_upto_region 5 with fail
 go_region_held3 (λw'=>w'.cell? ⟨M.r,1,none⟩=some (.int .i64 0)∧w'.cell? ⟨M.r,42,none⟩=some (.slice (some ⟨M.gt,0,none⟩) f.s.n f.s.n)) (first|with_reducible exact ⟨bc1,bc42⟩|with_reducible exact ⟨ac1,ac42⟩|exact ⟨nc1,nc42⟩) (first|(go_at_call 131;(with_reducible refine cA.mono ?_);intro e w2 hq;unfold Kf.RaPost at hq;obtain ⟨rfl,hRS,hW⟩:=hq;have hA:=HF.out.drew.fm.port hRS hW;obtain ⟨-,ac1,-,-,-,-,-,-,-,-,-,-,-,-,ac42,-,-,-,rt,-,zt⟩:Cs _ M f.s.n k (f.nd k) (f.own k) κ p1 p2 p3 κ' q1 q2 q3 _ _:=(hA).raw.cs HE.out.1 HE.out.2.1 HE.out.2.2.1;rw [HE.out.2.2.2.1.ml.st.a0] at ac1;have hB3:=hA.setT k v;obtain ⟨-,bc1,-,-,-,-,-,-,-,-,-,-,-,-,bc42,-,-,-,-,-,-⟩:Cs _ M f.s.n k (f.nd k) (f.own k) κ p1 p2 p3 κ' q1 q2 q3 _ _:=(hB3).raw.cs HE.out.1 HE.out.2.1 HE.out.2.2.1;rw [HE.out.2.2.2.1.ml.st.a0] at bc1;have HA:=Lib.hid hA;clear hA hB3 hRS hW))
 generalize hX:World.setCell _ _ _=X at*
 have hX2:=HA.out.setT k v
 have hX':w2.setCell ⟨M.gt,k,none⟩ (.int .i64 v)=X:=hX
 rw [hX'] at hX2
 clear hX hX'
 clear ac1 ac42 bc1 bc42 rt zt nc1 nc42 cA
 obtain ⟨-,-,-,-,-,-,-,-,-,-,-,-,-,c41,-,-,-,rp,-,zp,-⟩:Cs _ M f.s.n k (f.nd k) (f.own k) κ p1 p2 p3 κ' q1 q2 q3 _ _:=(hX2).raw.cs HE.out.1 HE.out.2.1 HE.out.2.2.1
 have HX:=Lib.hid hX2
 clear hX2
 go_upto_region 7 with fail
 generalize hX:World.setCell _ _ _=X3 at*
 have hX2:=HX.out.setP k 3
 have hX':X.setCell ⟨M.ph,k,none⟩ (.int .i64 3)=X3:=hX
 rw [hX'] at hX2
 clear hX hX'
 clear c41 rp zp
 obtain ⟨-,-,c2,-,-,-,-,-,-,-,-,-,-,c41,c42,-,-,rp,rt,zp,-⟩:Cs _ M f.s.n k (f.nd k) (f.own k) κ p1 p2 p3 κ' q1 q2 q3 _ _:=(hX2).raw.cs HE.out.1 HE.out.2.1 HE.out.2.2.1
 have rt':X3.cell? ⟨M.gt,k,none⟩=some (.int .i64 v):=rt.trans (congrArg (λz=>some (Value.int .i64 z)) (upd_same f.got k v))
 clear rt
 rw [HB.out] at c2
 have HX3:=Lib.hid hX2
 clear hX2
 go_region
 go_upto_region 9 with fail
 clear c42 rt' c2
 generalize hX:World.setCell _ _ _=X4 at*
 have hX2:=HX3.out.setP k 1
 have hX':X3.setCell ⟨M.ph,k,none⟩ (.int .i64 1)=X4:=hX
 rw [hX'] at hX2
 clear hX hX'
 simp only [upd_upd] at hX2
 clear c41 rp zp
 obtain ⟨-,-,-,-,-,-,-,l0,l1,l2,l3,-,-,-,-,-,-,-,-,-,-⟩:Cs _ M f.s.n k (f.nd k) (f.own k) κ p1 p2 p3 κ' q1 q2 q3 _ _:=(hX2).raw.cs HE.out.1 HE.out.2.1 HE.out.2.2.1
 have HX4:=Lib.hid hX2.drew
 clear hX2
 go_wp2_with (first
  |(go_at_call 129;have cc:=ri_seats (HX4.out.raw.lat _ HE.out.2.2.2.2.1 HE.out.2.2.2.2.2.1);rw [HE.out.2.1] at cc;(with_reducible refine cc.mono ?_);rintro e w5 ⟨rfl,hWn⟩;have HX5:=Lib.hid (HX4.out.after hWn);clear cc hWn)
  |(go_at_call 57;have cc:=lturn_any HE.out.2.2.2.1 HE.out.1 (HX5.out.raw.lat _ HE.out.2.2.2.2.1 HE.out.2.2.2.2.2.1).seat 4 (by decide);(with_reducible refine cc.mono ?_);intro e w6 hq;have hS:=HX5.out.lturn HE.out.2.2.2.2.1 HE.out.2.2.2.2.2.1 hq;unfold RsPost at hq;obtain ⟨rfl,_,_⟩:=hq;obtain ⟨d0,d1,d2,d3⟩:=(hS).dcell;obtain ⟨y0,y1,y2,y3⟩:=(hS).dfrz;obtain ⟨r0,r1,r2,r3⟩:=(hS).rcell;obtain ⟨t0,t1,t2,t3⟩:=(hS).rfrz;have HT:=Lib.hid hS;clear hS;clear cc))
 refine bodyPost_ret (v:=Dd.rval Dd.no) (results_cell_row rfl _ _ w.heap.size 136 _ (0,0) _ rfl (set4 HT.out.res rfl _ _ _ _) underlying136 rfl i_did10) rfl HT.out.told
theorem rl_unl0b {w:World} {M:Mp} {bk:Nat} {so:Option Addr} {cap:Nat} {dv:Value} {f:FL} {L:Lp} (h:MmIn w M bk so cap dv f L) (k:Nat) (hk:k<f.s.n) (u:Int) (hp:f.ph k=0) (hv:¬ tellS f.ps u 1 (L.pA (f.nd k))<f.bud):
  Calls prog 127 #[.pointer (some ⟨M.r,0,none⟩),.pointer (some ⟨M.pr,0,none⟩),.int .i64 (k:Int),.int .i64 u] w (RkPost w M bk dv {f with got:=upd f.got k (tellS f.ps u 1 (L.pA (f.nd k))),ph:=upd f.ph k 3,ps:=doS f.ps u 1 (L.pA (f.nd k)) 0 0} (Dd.rval Dd.no)):=by
 obtain ⟨Z,hZ⟩:∃ Z,Z=(w.alloc (.cells #[.int .i64 0,.int .i64 0,.int .i64 0,.int .i64 0] 136)).alloc (.cells #[.int .i64 0,.int .i64 0,.int .i64 0,.int .i64 0] 136):=⟨_,rfl⟩
 obtain ⟨hF0,hR0,hWZ⟩:=h.start Z hZ
 have i0:(0:Int)≤(k:Int):=by omega
 have i1:(k:Int)<f.s.n:=by omega
 obtain ⟨c8,hh⟩:=h.ml.raw.has k hk
 have c8i:((f.nd k:Nat):Int)<8:=by omega
 obtain ⟨κ,p1,p2,p3,hcl⟩:=(M.l (f.nd k)).four
 obtain ⟨κ',q1,q2,q3,hcg⟩:=M.g.four
 obtain ⟨lq1,lq2,lq3⟩:=h.ml.st.lq _ c8 hh
 obtain ⟨gq1,gq2,gq3⟩:=h.ml.st.gq
 have HE:=Lib.hid (And.intro hk (And.intro hcl (And.intro hcg (And.intro h (And.intro c8 (And.intro hh (And.intro (And.intro lq1 lq2) (And.intro gq1 gq2))))))))
 obtain ⟨-,-,-,-,-,-,-,-,-,-,-,k39,k40,-,-,kn,ko,-,-,-,-⟩:=(h.ml.raw.after ((Wr.refl Nil w).alloc (.cells #[.int .i64 0,.int .i64 0,.int .i64 0,.int .i64 0] 136))).cs hk hcl hcg
 obtain ⟨-,-,-,-,-,-,-,-,-,-,-,-,-,k41,-,-,-,kp,-,-,-⟩:=hF0.drew.raw.cs hk hcl hcg
 rw [show f.ph k=0 from hp] at kp
 have eA:L.pA (f.nd k)=((f.nd k:Nat):Int):=by unfold Lp.pA;rw [h.l1];omega
 have hw1:IntKind.i64.wrap ((f.nd k:Nat):Int)=((f.nd k:Nat):Int):=by rw [IntKind.wrap_i64];omega
 have hFa:Fa w Z.drew M bk so cap dv f w.heap.size (w.heap.size+1) Dd.no:=⟨hF0.drew,hR0.after (w':=Z.drew) ((Wr.refl Nil Z).drew) λ_ _=>id,Nat.le_trans h.hb hWZ.size⟩
 generalize hY:Z.drew=Y at*
 have HF:=Lib.hid hFa
 have hT:=ref_tell hFa.ref u 1 (L.pA (f.nd k))
 have cA:=Kf.ra_load hFa.drew.ref u (L.pA (f.nd k)) h.hD h.hws h.hac hFa.drew.bz
 rw [eA] at cA hT hv ⊢
 generalize tellS f.ps u 1 ((f.nd k:Nat):Int)=v at*
 have hB:=h.ml.st.bud
 have hwv:IntKind.i64.wrap v=v:=by rw [IntKind.wrap_i64];omega
 have hvd:decide (v<f.bud)=false:=by simp;omega
 obtain ⟨-,nc1,-,-,-,-,-,-,-,-,-,-,-,-,nc42,-,-,-,-,-,-⟩:Cs _ M f.s.n k (f.nd k) (f.own k) κ p1 p2 p3 κ' q1 q2 q3 _ _:=(hFa.drew.fm).raw.cs HE.out.1 HE.out.2.1 HE.out.2.2.1
 rw [h.ml.st.a0] at nc1
 have HB:=Lib.hid hB
 clear h hk hFa hF0 hR0 hWZ hp hcl hcg c8 hh eA lq1 lq2 lq3 gq1 gq2 gq3 hB hT hv
 go_enter func127,ntmps127
 go_upto_region 1 with fail
 go_region
 go_upto_region 3 with fail
 rw [←hZ,hY]
 clear hZ hY k39 k40 kn ko
 go_upto_region 4 with fail
 clear k41 kp
 go_upto_region 5 with fail
 go_region_held3 (λw'=>w'.cell? ⟨M.r,1,none⟩=some (.int .i64 0)∧w'.cell? ⟨M.r,42,none⟩=some (.slice (some ⟨M.gt,0,none⟩) f.s.n f.s.n)) (first|with_reducible exact ⟨bc1,bc42⟩|with_reducible exact ⟨ac1,ac42⟩|exact ⟨nc1,nc42⟩) (first|(go_at_call 131;(with_reducible refine cA.mono ?_);intro e w2 hq;unfold Kf.RaPost at hq;obtain ⟨rfl,hRS,hW⟩:=hq;have hA:=HF.out.drew.fm.port hRS hW;obtain ⟨-,ac1,-,-,-,-,-,-,-,-,-,-,-,-,ac42,-,-,-,rt,-,zt⟩:Cs _ M f.s.n k (f.nd k) (f.own k) κ p1 p2 p3 κ' q1 q2 q3 _ _:=(hA).raw.cs HE.out.1 HE.out.2.1 HE.out.2.2.1;rw [HE.out.2.2.2.1.ml.st.a0] at ac1;have hB3:=hA.setT k v;obtain ⟨-,bc1,-,-,-,-,-,-,-,-,-,-,-,-,bc42,-,-,-,-,-,-⟩:Cs _ M f.s.n k (f.nd k) (f.own k) κ p1 p2 p3 κ' q1 q2 q3 _ _:=(hB3).raw.cs HE.out.1 HE.out.2.1 HE.out.2.2.1;rw [HE.out.2.2.2.1.ml.st.a0] at bc1;have HA:=Lib.hid hA;clear hA hB3 hRS hW))
 generalize hX:World.setCell _ _ _=X at*
 have hX2:=HA.out.setT k v
 have hX':w2.setCell ⟨M.gt,k,none⟩ (.int .i64 v)=X:=hX
 rw [hX'] at hX2
 clear hX hX'
 clear ac1 ac42 bc1 bc42 rt zt nc1 nc42 cA
 obtain ⟨-,-,-,-,-,-,-,-,-,-,-,-,-,c41,-,-,-,rp,-,zp,-⟩:Cs _ M f.s.n k (f.nd k) (f.own k) κ p1 p2 p3 κ' q1 q2 q3 _ _:=(hX2).raw.cs HE.out.1 HE.out.2.1 HE.out.2.2.1
 have HX:=Lib.hid hX2
 clear hX2
 go_upto_region 7 with fail
 generalize hX:World.setCell _ _ _=X3 at*
 have hX2:=HX.out.setP k 3
 have hX':X.setCell ⟨M.ph,k,none⟩ (.int .i64 3)=X3:=hX
 rw [hX'] at hX2
 clear hX hX'
 clear c41 rp zp
 obtain ⟨-,-,c2,-,-,-,-,-,-,-,-,-,-,c41,c42,-,-,rp,rt,zp,-⟩:Cs _ M f.s.n k (f.nd k) (f.own k) κ p1 p2 p3 κ' q1 q2 q3 _ _:=(hX2).raw.cs HE.out.1 HE.out.2.1 HE.out.2.2.1
 have rt':X3.cell? ⟨M.gt,k,none⟩=some (.int .i64 v):=rt.trans (congrArg (λz=>some (Value.int .i64 z)) (upd_same f.got k v))
 clear rt
 rw [HB.out] at c2
 have HX3:=Lib.hid hX2
 clear hX2
 go_region
 clear c42 rt' c2 c41 rp zp
 have hT:=HX3.out
 obtain ⟨d0,d1,d2,d3⟩:=(hT).dcell;obtain ⟨y0,y1,y2,y3⟩:=(hT).dfrz;obtain ⟨r0,r1,r2,r3⟩:=(hT).rcell;obtain ⟨t0,t1,t2,t3⟩:=(hT).rfrz
 have HT:=Lib.hid hT.drew
 clear hT
 go_wp2
 refine bodyPost_ret (v:=Dd.rval Dd.no) (results_cell_row rfl _ _ w.heap.size 136 _ (0,0) _ rfl (set4 HT.out.res rfl _ _ _ _) underlying136 rfl i_did10) rfl HT.out.told
theorem rl_unl1a {w:World} {M:Mp} {bk:Nat} {so:Option Addr} {cap:Nat} {dv:Value} {f:FL} {L:Lp} (h:MmIn w M bk so cap dv f L) (k:Nat) (hk:k<f.s.n) (u:Int) (hp:f.ph k=1) (he:((f.lk (f.nd k)).did (f.la (f.nd k):Nat) (f.own k:Nat) u).ev=5):
  Calls prog 127 #[.pointer (some ⟨M.r,0,none⟩),.pointer (some ⟨M.pr,0,none⟩),.int .i64 (k:Int),.int .i64 u] w (RkPost w M bk dv {f with Lc:=upd f.Lc (f.nd k) ((f.lk (f.nd k)).step (f.la (f.nd k):Nat) (f.own k:Nat) u),ph:=upd f.ph k 2,ps:=((f.lk (f.nd k)).step (f.la (f.nd k):Nat) (f.own k:Nat) u).ps} (Dd.rval Dd.no)):=by
 obtain ⟨Z,hZ⟩:∃ Z,Z=(w.alloc (.cells #[.int .i64 0,.int .i64 0,.int .i64 0,.int .i64 0] 136)).alloc (.cells #[.int .i64 0,.int .i64 0,.int .i64 0,.int .i64 0] 136):=⟨_,rfl⟩
 obtain ⟨hF0,hR0,hWZ⟩:=h.start Z hZ
 have i0:(0:Int)≤(k:Int):=by omega
 have i1:(k:Int)<f.s.n:=by omega
 obtain ⟨c8,hh⟩:=h.ml.raw.has k hk
 have c8i:((f.nd k:Nat):Int)<8:=by omega
 obtain ⟨κ,p1,p2,p3,hcl⟩:=(M.l (f.nd k)).four
 obtain ⟨κ',q1,q2,q3,hcg⟩:=M.g.four
 obtain ⟨lq1,lq2,lq3⟩:=h.ml.st.lq _ c8 hh
 obtain ⟨gq1,gq2,gq3⟩:=h.ml.st.gq
 have HE:=Lib.hid (And.intro hk (And.intro hcl (And.intro hcg (And.intro h (And.intro c8 (And.intro hh (And.intro (And.intro lq1 lq2) (And.intro gq1 gq2))))))))
 obtain ⟨-,-,-,-,-,-,-,-,-,-,-,k39,k40,-,-,kn,ko,-,-,-,-⟩:=(h.ml.raw.after ((Wr.refl Nil w).alloc (.cells #[.int .i64 0,.int .i64 0,.int .i64 0,.int .i64 0] 136))).cs hk hcl hcg
 obtain ⟨-,-,-,-,-,-,-,-,-,-,-,-,-,k41,-,-,-,kp,-,-,-⟩:=hF0.drew.raw.cs hk hcl hcg
 rw [show f.ph k=1 from hp] at kp
 have eA:L.pA (f.nd k)=((f.nd k:Nat):Int):=by unfold Lp.pA;rw [h.l1];omega
 have hw1:IntKind.i64.wrap ((f.nd k:Nat):Int)=((f.nd k:Nat):Int):=by rw [IntKind.wrap_i64];omega
 have hFa:Fa w Z.drew M bk so cap dv f w.heap.size (w.heap.size+1) Dd.no:=⟨hF0.drew,hR0.after (w':=Z.drew) ((Wr.refl Nil Z).drew) λ_ _=>id,Nat.le_trans h.hb hWZ.size⟩
 generalize hY:Z.drew=Y at*
 have HF:=Lib.hid hFa
 have hfl:=i_fld10
 generalize hx:((f.lk (f.nd k)).step (f.la (f.nd k):Nat) (f.own k:Nat) u)=xx at*
 generalize hd:((f.lk (f.nd k)).did (f.la (f.nd k):Nat) (f.own k:Nat) u)=dd at*
 have HD:=Lib.hid (And.intro hx hd)
 clear hx hd
 obtain ⟨-,-,-,-,-,-,-,-,-,-,-,-,-,c41,-,-,-,rp,-,zp,-⟩:Cs _ M f.s.n k (f.nd k) (f.own k) κ p1 p2 p3 κ' q1 q2 q3 _ _:=(hFa.fm).raw.cs HE.out.1 HE.out.2.1 HE.out.2.2.1
 have hed:decide (dd.ev=5)=true:=by simp [he]
 clear h hk hFa hF0 hR0 hWZ hp hcl hcg c8 hh eA lq1 lq2 lq3 gq1 gq2 gq3
 go_enter func127,ntmps127
 go_upto_region 1 with fail
 go_region
 go_upto_region 3 with fail
 rw [←hZ,hY]
 clear hZ hY k39 k40 kn ko
 go_upto_region 4 with fail
 clear k41 kp
 go_upto_region 12 with fail
 generalize hX:World.setCell _ _ _=X at*
 have hX2:=HF.out.setP k 3
 have hX':Y.setCell ⟨M.ph,k,none⟩ (.int .i64 3)=X:=hX
 rw [hX'] at hX2
 clear hX hX'
 clear c41 rp zp
 obtain ⟨-,-,-,-,-,-,-,l0,l1,l2,l3,-,-,-,-,-,-,-,-,-,-⟩:Cs _ M f.s.n k (f.nd k) (f.own k) κ p1 p2 p3 κ' q1 q2 q3 _ _:=(hX2.fm).raw.cs HE.out.1 HE.out.2.1 HE.out.2.2.1
 have HX:=Lib.hid hX2
 clear hX2
 go_upto_region 13 with (go_at_call 130;have cc:=ri_step (HE.out.2.2.2.1.lri HE.out.1 (HX.out.fm.raw.lat _ HE.out.2.2.2.2.1 HE.out.2.2.2.2.2.1) HX.out.ref HX.out.bz) ((f.own k:Nat):Int) u;rw [HE.out.2.1,HE.out.2.2.2.2.2.2.1.2,HD.out.1,HD.out.2] at cc;(with_reducible refine cc.mono ?_);intro e w6 hq;have hA:=HX.out.fm.lstep HE.out.2.2.2.2.1 HE.out.2.2.2.2.2.1 HE.out.2.2.2.2.2.2.1 hq;unfold RiPost at hq;obtain ⟨rfl,_,_,_⟩:=hq;dsimp only [Dd.rval];obtain ⟨-,-,-,-,-,-,-,-,-,-,-,-,-,c41,-,-,-,rp,-,zp,-⟩:Cs _ M f.s.n k (f.nd k) (f.own k) κ p1 p2 p3 κ' q1 q2 q3 _ _:=(hA).raw.cs HE.out.1 HE.out.2.1 HE.out.2.2.1;have HA:=Lib.hid hA;clear hA;clear cc)
 clear l0 l1 l2 l3
 go_upto_region 28 with fail
 clear c41 rp zp
 generalize hX:World.setCell _ _ _=X at*
 have hT:=HA.out.setP k 2
 simp only [upd_upd] at hT;try rw [hX] at hT
 obtain ⟨d0,d1,d2,d3⟩:=(hT).dcell;obtain ⟨y0,y1,y2,y3⟩:=(hT).dfrz;obtain ⟨r0,r1,r2,r3⟩:=(hT).rcell;obtain ⟨t0,t1,t2,t3⟩:=(hT).rfrz
 have HT:=Lib.hid hT
 clear hX hT
 go_wp2
 refine bodyPost_ret (v:=Dd.rval Dd.no) (results_cell_row rfl _ _ w.heap.size 136 _ (0,0) _ rfl (set4 HT.out.res rfl _ _ _ _) underlying136 rfl i_did10) rfl HT.out.told
theorem rl_unl1b {w:World} {M:Mp} {bk:Nat} {so:Option Addr} {cap:Nat} {dv:Value} {f:FL} {L:Lp} (h:MmIn w M bk so cap dv f L) (k:Nat) (hk:k<f.s.n) (u:Int) (hp:f.ph k=1) (he:((f.lk (f.nd k)).did (f.la (f.nd k):Nat) (f.own k:Nat) u).ev≠5):
  Calls prog 127 #[.pointer (some ⟨M.r,0,none⟩),.pointer (some ⟨M.pr,0,none⟩),.int .i64 (k:Int),.int .i64 u] w (RkPost w M bk dv {f with Lc:=upd f.Lc (f.nd k) ((f.lk (f.nd k)).step (f.la (f.nd k):Nat) (f.own k:Nat) u),ph:=upd f.ph k 3,ps:=((f.lk (f.nd k)).step (f.la (f.nd k):Nat) (f.own k:Nat) u).ps} (Dd.rval Dd.no)):=by
 obtain ⟨Z,hZ⟩:∃ Z,Z=(w.alloc (.cells #[.int .i64 0,.int .i64 0,.int .i64 0,.int .i64 0] 136)).alloc (.cells #[.int .i64 0,.int .i64 0,.int .i64 0,.int .i64 0] 136):=⟨_,rfl⟩
 obtain ⟨hF0,hR0,hWZ⟩:=h.start Z hZ
 have i0:(0:Int)≤(k:Int):=by omega
 have i1:(k:Int)<f.s.n:=by omega
 obtain ⟨c8,hh⟩:=h.ml.raw.has k hk
 have c8i:((f.nd k:Nat):Int)<8:=by omega
 obtain ⟨κ,p1,p2,p3,hcl⟩:=(M.l (f.nd k)).four
 obtain ⟨κ',q1,q2,q3,hcg⟩:=M.g.four
 obtain ⟨lq1,lq2,lq3⟩:=h.ml.st.lq _ c8 hh
 obtain ⟨gq1,gq2,gq3⟩:=h.ml.st.gq
 have HE:=Lib.hid (And.intro hk (And.intro hcl (And.intro hcg (And.intro h (And.intro c8 (And.intro hh (And.intro (And.intro lq1 lq2) (And.intro gq1 gq2))))))))
 obtain ⟨-,-,-,-,-,-,-,-,-,-,-,k39,k40,-,-,kn,ko,-,-,-,-⟩:=(h.ml.raw.after ((Wr.refl Nil w).alloc (.cells #[.int .i64 0,.int .i64 0,.int .i64 0,.int .i64 0] 136))).cs hk hcl hcg
 obtain ⟨-,-,-,-,-,-,-,-,-,-,-,-,-,k41,-,-,-,kp,-,-,-⟩:=hF0.drew.raw.cs hk hcl hcg
 rw [show f.ph k=1 from hp] at kp
 have eA:L.pA (f.nd k)=((f.nd k:Nat):Int):=by unfold Lp.pA;rw [h.l1];omega
 have hw1:IntKind.i64.wrap ((f.nd k:Nat):Int)=((f.nd k:Nat):Int):=by rw [IntKind.wrap_i64];omega
 have hFa:Fa w Z.drew M bk so cap dv f w.heap.size (w.heap.size+1) Dd.no:=⟨hF0.drew,hR0.after (w':=Z.drew) ((Wr.refl Nil Z).drew) λ_ _=>id,Nat.le_trans h.hb hWZ.size⟩
 generalize hY:Z.drew=Y at*
 have HF:=Lib.hid hFa
 have hfl:=i_fld10
 generalize hx:((f.lk (f.nd k)).step (f.la (f.nd k):Nat) (f.own k:Nat) u)=xx at*
 generalize hd:((f.lk (f.nd k)).did (f.la (f.nd k):Nat) (f.own k:Nat) u)=dd at*
 have HD:=Lib.hid (And.intro hx hd)
 clear hx hd
 obtain ⟨-,-,-,-,-,-,-,-,-,-,-,-,-,c41,-,-,-,rp,-,zp,-⟩:Cs _ M f.s.n k (f.nd k) (f.own k) κ p1 p2 p3 κ' q1 q2 q3 _ _:=(hFa.fm).raw.cs HE.out.1 HE.out.2.1 HE.out.2.2.1
 have hed:decide (dd.ev=5)=false:=by simp [he]
 clear h hk hFa hF0 hR0 hWZ hp hcl hcg c8 hh eA lq1 lq2 lq3 gq1 gq2 gq3
 go_enter func127,ntmps127
 go_upto_region 1 with fail
 go_region
 go_upto_region 3 with fail
 rw [←hZ,hY]
 clear hZ hY k39 k40 kn ko
 go_upto_region 4 with fail
 clear k41 kp
 go_upto_region 12 with fail
 generalize hX:World.setCell _ _ _=X at*
 have hX2:=HF.out.setP k 3
 have hX':Y.setCell ⟨M.ph,k,none⟩ (.int .i64 3)=X:=hX
 rw [hX'] at hX2
 clear hX hX'
 clear c41 rp zp
 obtain ⟨-,-,-,-,-,-,-,l0,l1,l2,l3,-,-,-,-,-,-,-,-,-,-⟩:Cs _ M f.s.n k (f.nd k) (f.own k) κ p1 p2 p3 κ' q1 q2 q3 _ _:=(hX2.fm).raw.cs HE.out.1 HE.out.2.1 HE.out.2.2.1
 have HX:=Lib.hid hX2
 clear hX2
 go_wp2_with (go_at_call 130;have cc:=ri_step (HE.out.2.2.2.1.lri HE.out.1 (HX.out.fm.raw.lat _ HE.out.2.2.2.2.1 HE.out.2.2.2.2.2.1) HX.out.ref HX.out.bz) ((f.own k:Nat):Int) u;rw [HE.out.2.1,HE.out.2.2.2.2.2.2.1.2,HD.out.1,HD.out.2] at cc;(with_reducible refine cc.mono ?_);intro e w6 hq;have hA:=HX.out.fm.lstep HE.out.2.2.2.2.1 HE.out.2.2.2.2.2.1 HE.out.2.2.2.2.2.2.1 hq;unfold RiPost at hq;obtain ⟨rfl,_,_,_⟩:=hq;dsimp only [Dd.rval];obtain ⟨d0,d1,d2,d3⟩:=(hA).dcell;obtain ⟨y0,y1,y2,y3⟩:=(hA).dfrz;obtain ⟨r0,r1,r2,r3⟩:=(hA).rcell;obtain ⟨t0,t1,t2,t3⟩:=(hA).rfrz;have HT:=Lib.hid hA;clear hA;clear cc)
 refine bodyPost_ret (v:=Dd.rval Dd.no) (results_cell_row rfl _ _ w.heap.size 136 _ (0,0) _ rfl (set4 HT.out.res rfl _ _ _ _) underlying136 rfl i_did10) rfl HT.out.told
theorem rl_unl2 {w:World} {M:Mp} {bk:Nat} {so:Option Addr} {cap:Nat} {dv:Value} {f:FL} {L:Lp} (h:MmIn w M bk so cap dv f L) (k:Nat) (hk:k<f.s.n) (u:Int) (hp:f.ph k=2) (hg:0≤f.got k∧f.got k≤1000):
  Calls prog 127 #[.pointer (some ⟨M.r,0,none⟩),.pointer (some ⟨M.pr,0,none⟩),.int .i64 (k:Int),.int .i64 u] w (RkPost w M bk dv {f with Lc:=upd f.Lc (f.nd k) ((f.Lc (f.nd k)).turn (f.own k:Nat) 3),ph:=upd f.ph k 5,ps:=doS f.ps u 2 (L.pA (f.nd k)) 0 (f.got k+1)} (Dd.rval Dd.no)):=by
 obtain ⟨Z,hZ⟩:∃ Z,Z=(w.alloc (.cells #[.int .i64 0,.int .i64 0,.int .i64 0,.int .i64 0] 136)).alloc (.cells #[.int .i64 0,.int .i64 0,.int .i64 0,.int .i64 0] 136):=⟨_,rfl⟩
 obtain ⟨hF0,hR0,hWZ⟩:=h.start Z hZ
 have i0:(0:Int)≤(k:Int):=by omega
 have i1:(k:Int)<f.s.n:=by omega
 obtain ⟨c8,hh⟩:=h.ml.raw.has k hk
 have c8i:((f.nd k:Nat):Int)<8:=by omega
 obtain ⟨κ,p1,p2,p3,hcl⟩:=(M.l (f.nd k)).four
 obtain ⟨κ',q1,q2,q3,hcg⟩:=M.g.four
 obtain ⟨lq1,lq2,lq3⟩:=h.ml.st.lq _ c8 hh
 obtain ⟨gq1,gq2,gq3⟩:=h.ml.st.gq
 have HE:=Lib.hid (And.intro hk (And.intro hcl (And.intro hcg (And.intro h (And.intro c8 (And.intro hh (And.intro (And.intro lq1 lq2) (And.intro gq1 gq2))))))))
 obtain ⟨-,-,-,-,-,-,-,-,-,-,-,k39,k40,-,-,kn,ko,-,-,-,-⟩:=(h.ml.raw.after ((Wr.refl Nil w).alloc (.cells #[.int .i64 0,.int .i64 0,.int .i64 0,.int .i64 0] 136))).cs hk hcl hcg
 obtain ⟨-,-,-,-,-,-,-,-,-,-,-,-,-,k41,-,-,-,kp,-,-,-⟩:=hF0.drew.raw.cs hk hcl hcg
 rw [show f.ph k=2 from hp] at kp
 have eA:L.pA (f.nd k)=((f.nd k:Nat):Int):=by unfold Lp.pA;rw [h.l1];omega
 have hw1:IntKind.i64.wrap ((f.nd k:Nat):Int)=((f.nd k:Nat):Int):=by rw [IntKind.wrap_i64];omega
 have hFa:Fa w Z.drew M bk so cap dv f w.heap.size (w.heap.size+1) Dd.no:=⟨hF0.drew,hR0.after (w':=Z.drew) ((Wr.refl Nil Z).drew) λ_ _=>id,Nat.le_trans h.hb hWZ.size⟩
 generalize hY:Z.drew=Y at*
 have HF:=Lib.hid hFa
 have cA:=Kf.ra_store hFa.drew.ref u (L.pA (f.nd k)) (f.got k+1) (by omega) (by omega) h.hD h.hws h.hac hFa.drew.bz
 rw [eA] at cA ⊢
 obtain ⟨-,nc1,-,-,-,-,-,-,-,-,-,-,-,-,nc42,-,-,-,nrt,-,-⟩:Cs _ M f.s.n k (f.nd k) (f.own k) κ p1 p2 p3 κ' q1 q2 q3 _ _:=(hFa.drew.fm).raw.cs HE.out.1 HE.out.2.1 HE.out.2.2.1
 rw [h.ml.st.a0] at nc1
 have hwg:IntKind.i64.wrap (f.got k+1)=f.got k+1:=by rw [IntKind.wrap_i64];omega
 have hwu:IntKind.u32.wrap (f.got k+1)=f.got k+1:=by show (f.got k+1)%4294967296=_;omega
 clear h hk hFa hF0 hR0 hWZ hp hcl hcg c8 hh eA lq1 lq2 lq3 gq1 gq2 gq3
 go_enter func127,ntmps127
 go_upto_region 1 with fail
 go_region
 go_upto_region 3 with fail
 rw [←hZ,hY]
 clear hZ hY k39 k40 kn ko
 go_upto_region 4 with fail
 clear k41 kp
 go_upto_region 15 with fail
 go_region_held3 (λw'=>w'.cell? ⟨M.r,1,none⟩=some (.int .i64 0)∧w'.cell? ⟨M.r,42,none⟩=some (.slice (some ⟨M.gt,0,none⟩) f.s.n f.s.n)∧w'.cell? ⟨M.gt,k,none⟩=some (.int .i64 (f.got k))) (first|with_reducible exact ⟨c1,c42,rt⟩|exact ⟨nc1,nc42,nrt⟩) (first|(go_at_call 132;(with_reducible refine cA.mono ?_);intro e w2 hq;unfold Kf.RaPost at hq;obtain ⟨rfl,hRS,hW⟩:=hq;have hA:=HF.out.drew.fm.port hRS hW;obtain ⟨-,c1,-,-,-,-,-,-,-,-,-,-,-,c41,c42,-,-,rp,rt,zp,-⟩:Cs _ M f.s.n k (f.nd k) (f.own k) κ p1 p2 p3 κ' q1 q2 q3 _ _:=(hA).raw.cs HE.out.1 HE.out.2.1 HE.out.2.2.1;rw [HE.out.2.2.2.1.ml.st.a0] at c1;have HA:=Lib.hid hA;clear hA hRS hW))
 clear c1 c42 rt nc1 nc42 nrt cA
 go_upto_region 17 with fail
 generalize hX:World.setCell _ _ _=X at*
 have hX2:=HA.out.setP k 5
 have hX':w2.setCell ⟨M.ph,k,none⟩ (.int .i64 5)=X:=hX
 rw [hX'] at hX2
 clear hX hX'
 clear c41 rp zp
 obtain ⟨-,-,-,-,-,-,-,l0,l1,l2,l3,-,-,-,-,-,-,-,-,-,-⟩:Cs _ M f.s.n k (f.nd k) (f.own k) κ p1 p2 p3 κ' q1 q2 q3 _ _:=(hX2).raw.cs HE.out.1 HE.out.2.1 HE.out.2.2.1
 have HX:=Lib.hid hX2
 clear hX2
 go_wp2_with (first
  |(go_at_call 129;have cc:=ri_seats (HX.out.raw.lat _ HE.out.2.2.2.2.1 HE.out.2.2.2.2.2.1);rw [HE.out.2.1] at cc;(with_reducible refine cc.mono ?_);rintro e w5 ⟨rfl,hWn⟩;have HX5:=Lib.hid (HX.out.after hWn);clear cc hWn)
  |(go_at_call 57;have cc:=lturn_any HE.out.2.2.2.1 HE.out.1 (HX5.out.raw.lat _ HE.out.2.2.2.2.1 HE.out.2.2.2.2.2.1).seat 3 (by decide);(with_reducible refine cc.mono ?_);intro e w6 hq;have hS:=HX5.out.lturn HE.out.2.2.2.2.1 HE.out.2.2.2.2.2.1 hq;unfold RsPost at hq;obtain ⟨rfl,_,_⟩:=hq;obtain ⟨d0,d1,d2,d3⟩:=(hS).dcell;obtain ⟨y0,y1,y2,y3⟩:=(hS).dfrz;obtain ⟨r0,r1,r2,r3⟩:=(hS).rcell;obtain ⟨t0,t1,t2,t3⟩:=(hS).rfrz;have HT:=Lib.hid hS;clear hS;clear cc))
 refine bodyPost_ret (v:=Dd.rval Dd.no) (results_cell_row rfl _ _ w.heap.size 136 _ (0,0) _ rfl (set4 HT.out.res rfl _ _ _ _) underlying136 rfl i_did10) rfl HT.out.told
theorem rl_unl3 {w:World} {M:Mp} {bk:Nat} {so:Option Addr} {cap:Nat} {dv:Value} {f:FL} {L:Lp} (h:MmIn w M bk so cap dv f L) (k:Nat) (hk:k<f.s.n) (u:Int) (hp:f.ph k=3):
  Calls prog 127 #[.pointer (some ⟨M.r,0,none⟩),.pointer (some ⟨M.pr,0,none⟩),.int .i64 (k:Int),.int .i64 u] w (RkPost w M bk dv {f with G:=f.G.turn (f.nd k:Nat) 3,ph:=upd f.ph k 4,ps:=doS f.ps u 2 (L.pA (f.nd k)) 0 0} (Dd.rval Dd.no)):=by
 obtain ⟨Z,hZ⟩:∃ Z,Z=(w.alloc (.cells #[.int .i64 0,.int .i64 0,.int .i64 0,.int .i64 0] 136)).alloc (.cells #[.int .i64 0,.int .i64 0,.int .i64 0,.int .i64 0] 136):=⟨_,rfl⟩
 obtain ⟨hF0,hR0,hWZ⟩:=h.start Z hZ
 have i0:(0:Int)≤(k:Int):=by omega
 have i1:(k:Int)<f.s.n:=by omega
 obtain ⟨c8,hh⟩:=h.ml.raw.has k hk
 have c8i:((f.nd k:Nat):Int)<8:=by omega
 obtain ⟨κ,p1,p2,p3,hcl⟩:=(M.l (f.nd k)).four
 obtain ⟨κ',q1,q2,q3,hcg⟩:=M.g.four
 obtain ⟨lq1,lq2,lq3⟩:=h.ml.st.lq _ c8 hh
 obtain ⟨gq1,gq2,gq3⟩:=h.ml.st.gq
 have HE:=Lib.hid (And.intro hk (And.intro hcl (And.intro hcg (And.intro h (And.intro c8 (And.intro hh (And.intro (And.intro lq1 lq2) (And.intro gq1 gq2))))))))
 obtain ⟨-,-,-,-,-,-,-,-,-,-,-,k39,k40,-,-,kn,ko,-,-,-,-⟩:=(h.ml.raw.after ((Wr.refl Nil w).alloc (.cells #[.int .i64 0,.int .i64 0,.int .i64 0,.int .i64 0] 136))).cs hk hcl hcg
 obtain ⟨-,-,-,-,-,-,-,-,-,-,-,-,-,k41,-,-,-,kp,-,-,-⟩:=hF0.drew.raw.cs hk hcl hcg
 rw [show f.ph k=3 from hp] at kp
 have eA:L.pA (f.nd k)=((f.nd k:Nat):Int):=by unfold Lp.pA;rw [h.l1];omega
 have hw1:IntKind.i64.wrap ((f.nd k:Nat):Int)=((f.nd k:Nat):Int):=by rw [IntKind.wrap_i64];omega
 have hFa:Fa w Z.drew M bk so cap dv f w.heap.size (w.heap.size+1) Dd.no:=⟨hF0.drew,hR0.after (w':=Z.drew) ((Wr.refl Nil Z).drew) λ_ _=>id,Nat.le_trans h.hb hWZ.size⟩
 generalize hY:Z.drew=Y at*
 have HF:=Lib.hid hFa
 have cA:=Kf.ra_store hFa.ref u (L.pA (f.nd k)) 0 (by decide) (by decide) h.hD h.hws h.hac hFa.bz
 rw [eA] at cA ⊢
 obtain ⟨-,c1,-,-,-,-,-,-,-,-,-,-,-,-,-,-,-,-,-,-,-⟩:Cs _ M f.s.n k (f.nd k) (f.own k) κ p1 p2 p3 κ' q1 q2 q3 _ _:=(hFa.fm).raw.cs HE.out.1 HE.out.2.1 HE.out.2.2.1
 rw [h.ml.st.a0] at c1
 clear h hk hFa hF0 hR0 hWZ hp hcl hcg c8 hh eA lq1 lq2 lq3 gq1 gq2 gq3
 go_enter func127,ntmps127
 go_upto_region 1 with fail
 go_region
 go_upto_region 3 with fail
 rw [←hZ,hY]
 clear hZ hY k39 k40 kn ko
 go_upto_region 4 with fail
 clear k41 kp
 go_upto_region 21 with (go_at_call 132;(with_reducible refine cA.mono ?_);intro e w2 hq;unfold Kf.RaPost at hq;obtain ⟨rfl,hRS,hW⟩:=hq;have hA:=HF.out.fm.port hRS hW;obtain ⟨-,-,-,-,-,-,-,-,-,-,-,-,-,c41,-,-,-,rp,-,zp,-⟩:Cs _ M f.s.n k (f.nd k) (f.own k) κ p1 p2 p3 κ' q1 q2 q3 _ _:=(hA).raw.cs HE.out.1 HE.out.2.1 HE.out.2.2.1;have HA:=Lib.hid hA;clear hA hRS hW c1 cA)
 generalize hX:World.setCell _ _ _=X at*
 have hX2:=HA.out.setP k 4
 have hX':w2.setCell ⟨M.ph,k,none⟩ (.int .i64 4)=X:=hX
 rw [hX'] at hX2
 clear hX hX'
 obtain ⟨-,-,-,g0,g1,g2,g3,-,-,-,-,-,-,-,-,-,-,-,-,-,-⟩:Cs _ M f.s.n k (f.nd k) (f.own k) κ p1 p2 p3 κ' q1 q2 q3 _ _:=(hX2).raw.cs HE.out.1 HE.out.2.1 HE.out.2.2.1
 have HX:=Lib.hid hX2
 clear hX2 c41 zp rp
 go_wp2_with (first
  |(go_at_call 129;have cc:=ri_seats HX.out.raw.gat;rw [HE.out.2.2.1] at cc;(with_reducible refine cc.mono ?_);rintro e w3 ⟨rfl,hWn⟩;have HX3:=Lib.hid (HX.out.after hWn);clear cc hWn)
  |(go_at_call 57;have cc:=gturn_any HE.out.2.2.2.1 HX3.out.raw.gat.seat (f.nd k:Nat) 3 (by decide);(with_reducible refine cc.mono ?_);intro e w4 hq;have hS:=HX3.out.gturn hq;unfold RsPost at hq;obtain ⟨rfl,_,_⟩:=hq;obtain ⟨d0,d1,d2,d3⟩:=(hS).dcell;obtain ⟨y0,y1,y2,y3⟩:=(hS).dfrz;obtain ⟨r0,r1,r2,r3⟩:=(hS).rcell;obtain ⟨t0,t1,t2,t3⟩:=(hS).rfrz;have HT:=Lib.hid hS;clear hS;clear cc))
 refine bodyPost_ret (v:=Dd.rval Dd.no) (results_cell_row rfl _ _ w.heap.size 136 _ (0,0) _ rfl (set4 HT.out.res rfl _ _ _ _) underlying136 rfl i_did10) rfl HT.out.told
theorem rl_unl4a {w:World} {M:Mp} {bk:Nat} {so:Option Addr} {cap:Nat} {dv:Value} {f:FL} {L:Lp} (h:MmIn w M bk so cap dv f L) (k:Nat) (hk:k<f.s.n) (u:Int) (hp:f.ph k=4) (he:(f.gl.did (f.ga:Nat) (f.nd k:Nat) u).ev=3):
  Calls prog 127 #[.pointer (some ⟨M.r,0,none⟩),.pointer (some ⟨M.pr,0,none⟩),.int .i64 (k:Int),.int .i64 u] w (RkPost w M bk dv {f with G:=(f.gl.step (f.ga:Nat) (f.nd k:Nat) u),ph:=upd f.ph k 5,Lc:=upd f.Lc (f.nd k) ((f.Lc (f.nd k)).turn (f.own k:Nat) 3),ps:=(f.gl.step (f.ga:Nat) (f.nd k:Nat) u).ps} (Dd.rval Dd.no)):=by
 obtain ⟨Z,hZ⟩:∃ Z,Z=(w.alloc (.cells #[.int .i64 0,.int .i64 0,.int .i64 0,.int .i64 0] 136)).alloc (.cells #[.int .i64 0,.int .i64 0,.int .i64 0,.int .i64 0] 136):=⟨_,rfl⟩
 obtain ⟨hF0,hR0,hWZ⟩:=h.start Z hZ
 have i0:(0:Int)≤(k:Int):=by omega
 have i1:(k:Int)<f.s.n:=by omega
 obtain ⟨c8,hh⟩:=h.ml.raw.has k hk
 have c8i:((f.nd k:Nat):Int)<8:=by omega
 obtain ⟨κ,p1,p2,p3,hcl⟩:=(M.l (f.nd k)).four
 obtain ⟨κ',q1,q2,q3,hcg⟩:=M.g.four
 obtain ⟨lq1,lq2,lq3⟩:=h.ml.st.lq _ c8 hh
 obtain ⟨gq1,gq2,gq3⟩:=h.ml.st.gq
 have HE:=Lib.hid (And.intro hk (And.intro hcl (And.intro hcg (And.intro h (And.intro c8 (And.intro hh (And.intro (And.intro lq1 lq2) (And.intro gq1 gq2))))))))
 obtain ⟨-,-,-,-,-,-,-,-,-,-,-,k39,k40,-,-,kn,ko,-,-,-,-⟩:=(h.ml.raw.after ((Wr.refl Nil w).alloc (.cells #[.int .i64 0,.int .i64 0,.int .i64 0,.int .i64 0] 136))).cs hk hcl hcg
 obtain ⟨-,-,-,-,-,-,-,-,-,-,-,-,-,k41,-,-,-,kp,-,-,-⟩:=hF0.drew.raw.cs hk hcl hcg
 rw [show f.ph k=4 from hp] at kp
 have eA:L.pA (f.nd k)=((f.nd k:Nat):Int):=by unfold Lp.pA;rw [h.l1];omega
 have hw1:IntKind.i64.wrap ((f.nd k:Nat):Int)=((f.nd k:Nat):Int):=by rw [IntKind.wrap_i64];omega
 have hFa:Fa w Z.drew M bk so cap dv f w.heap.size (w.heap.size+1) Dd.no:=⟨hF0.drew,hR0.after (w':=Z.drew) ((Wr.refl Nil Z).drew) λ_ _=>id,Nat.le_trans h.hb hWZ.size⟩
 generalize hY:Z.drew=Y at*
 have HF:=Lib.hid hFa
 have hfl:=i_fld10
 generalize hx:(f.gl.step (f.ga:Nat) (f.nd k:Nat) u)=xx at*
 generalize hd:(f.gl.did (f.ga:Nat) (f.nd k:Nat) u)=dd at*
 have HD:=Lib.hid (And.intro hx hd)
 clear hx hd
 obtain ⟨-,-,-,g0,g1,g2,g3,-,-,-,-,-,-,-,-,-,-,-,-,-,-⟩:Cs _ M f.s.n k (f.nd k) (f.own k) κ p1 p2 p3 κ' q1 q2 q3 _ _:=(hFa.fm).raw.cs HE.out.1 HE.out.2.1 HE.out.2.2.1
 have hed:decide (dd.ev=3)=true:=by simp [he]
 clear h hk hFa hF0 hR0 hWZ hp hcl hcg c8 hh eA lq1 lq2 lq3 gq1 gq2 gq3
 go_enter func127,ntmps127
 go_upto_region 1 with fail
 go_region
 go_upto_region 3 with fail
 rw [←hZ,hY]
 clear hZ hY k39 k40 kn ko
 go_upto_region 4 with fail
 clear k41 kp
 go_upto_region 25 with (go_at_call 130;have cc:=ri_step (HE.out.2.2.2.1.gri HF.out.fm.raw.gat HF.out.ref HF.out.bz) ((f.nd k:Nat):Int) u;rw [HE.out.2.2.1,HE.out.2.2.2.2.2.2.2.2,HD.out.1,HD.out.2] at cc;(with_reducible refine cc.mono ?_);intro e w6 hq;have hA:=HF.out.fm.gstep HE.out.2.2.2.2.2.2.2 hq;unfold RiPost at hq;obtain ⟨rfl,_,_,_⟩:=hq;dsimp only [Dd.rval];obtain ⟨-,-,-,-,-,-,-,-,-,-,-,-,-,c41,-,-,-,rp,-,zp,-⟩:Cs _ M f.s.n k (f.nd k) (f.own k) κ p1 p2 p3 κ' q1 q2 q3 _ _:=(hA).raw.cs HE.out.1 HE.out.2.1 HE.out.2.2.1;have HA:=Lib.hid hA;clear hA;clear cc)
 clear g0 g1 g2 g3 c41 rp zp
 generalize hX:World.setCell _ _ _=X at*
 have hX2:=HA.out.setP k 5
 have hX':w6.setCell ⟨M.ph,k,none⟩ (.int .i64 5)=X:=hX
 rw [hX'] at hX2
 clear hX hX'
 obtain ⟨-,-,-,-,-,-,-,l0,l1,l2,l3,-,-,-,-,-,-,-,-,-,-⟩:Cs _ M f.s.n k (f.nd k) (f.own k) κ p1 p2 p3 κ' q1 q2 q3 _ _:=(hX2).raw.cs HE.out.1 HE.out.2.1 HE.out.2.2.1
 have HX:=Lib.hid hX2
 clear hX2
 go_wp2_with (first
  |(go_at_call 129;have cc:=ri_seats (HX.out.raw.lat _ HE.out.2.2.2.2.1 HE.out.2.2.2.2.2.1);rw [HE.out.2.1] at cc;(with_reducible refine cc.mono ?_);rintro e w7 ⟨rfl,hWn⟩;have HX5:=Lib.hid (HX.out.after hWn);clear cc hWn)
  |(go_at_call 57;have cc:=lturn_any HE.out.2.2.2.1 HE.out.1 (HX5.out.raw.lat _ HE.out.2.2.2.2.1 HE.out.2.2.2.2.2.1).seat 3 (by decide);(with_reducible refine cc.mono ?_);intro e w8 hq;have hS:=HX5.out.lturn HE.out.2.2.2.2.1 HE.out.2.2.2.2.2.1 hq;unfold RsPost at hq;obtain ⟨rfl,_,_⟩:=hq;obtain ⟨d0,d1,d2,d3⟩:=(hS).dcell;obtain ⟨y0,y1,y2,y3⟩:=(hS).dfrz;obtain ⟨r0,r1,r2,r3⟩:=(hS).rcell;obtain ⟨t0,t1,t2,t3⟩:=(hS).rfrz;have HT:=Lib.hid hS;clear hS;clear cc))
 refine bodyPost_ret (v:=Dd.rval Dd.no) (results_cell_row rfl _ _ w.heap.size 136 _ (0,0) _ rfl (set4 HT.out.res rfl _ _ _ _) underlying136 rfl i_did10) rfl HT.out.told
theorem rl_unl4b {w:World} {M:Mp} {bk:Nat} {so:Option Addr} {cap:Nat} {dv:Value} {f:FL} {L:Lp} (h:MmIn w M bk so cap dv f L) (k:Nat) (hk:k<f.s.n) (u:Int) (hp:f.ph k=4) (he:(f.gl.did (f.ga:Nat) (f.nd k:Nat) u).ev≠3):
  Calls prog 127 #[.pointer (some ⟨M.r,0,none⟩),.pointer (some ⟨M.pr,0,none⟩),.int .i64 (k:Int),.int .i64 u] w (RkPost w M bk dv {f with G:=(f.gl.step (f.ga:Nat) (f.nd k:Nat) u),ps:=(f.gl.step (f.ga:Nat) (f.nd k:Nat) u).ps} (Dd.rval Dd.no)):=by
 obtain ⟨Z,hZ⟩:∃ Z,Z=(w.alloc (.cells #[.int .i64 0,.int .i64 0,.int .i64 0,.int .i64 0] 136)).alloc (.cells #[.int .i64 0,.int .i64 0,.int .i64 0,.int .i64 0] 136):=⟨_,rfl⟩
 obtain ⟨hF0,hR0,hWZ⟩:=h.start Z hZ
 have i0:(0:Int)≤(k:Int):=by omega
 have i1:(k:Int)<f.s.n:=by omega
 obtain ⟨c8,hh⟩:=h.ml.raw.has k hk
 have c8i:((f.nd k:Nat):Int)<8:=by omega
 obtain ⟨κ,p1,p2,p3,hcl⟩:=(M.l (f.nd k)).four
 obtain ⟨κ',q1,q2,q3,hcg⟩:=M.g.four
 obtain ⟨lq1,lq2,lq3⟩:=h.ml.st.lq _ c8 hh
 obtain ⟨gq1,gq2,gq3⟩:=h.ml.st.gq
 have HE:=Lib.hid (And.intro hk (And.intro hcl (And.intro hcg (And.intro h (And.intro c8 (And.intro hh (And.intro (And.intro lq1 lq2) (And.intro gq1 gq2))))))))
 obtain ⟨-,-,-,-,-,-,-,-,-,-,-,k39,k40,-,-,kn,ko,-,-,-,-⟩:=(h.ml.raw.after ((Wr.refl Nil w).alloc (.cells #[.int .i64 0,.int .i64 0,.int .i64 0,.int .i64 0] 136))).cs hk hcl hcg
 obtain ⟨-,-,-,-,-,-,-,-,-,-,-,-,-,k41,-,-,-,kp,-,-,-⟩:=hF0.drew.raw.cs hk hcl hcg
 rw [show f.ph k=4 from hp] at kp
 have eA:L.pA (f.nd k)=((f.nd k:Nat):Int):=by unfold Lp.pA;rw [h.l1];omega
 have hw1:IntKind.i64.wrap ((f.nd k:Nat):Int)=((f.nd k:Nat):Int):=by rw [IntKind.wrap_i64];omega
 have hFa:Fa w Z.drew M bk so cap dv f w.heap.size (w.heap.size+1) Dd.no:=⟨hF0.drew,hR0.after (w':=Z.drew) ((Wr.refl Nil Z).drew) λ_ _=>id,Nat.le_trans h.hb hWZ.size⟩
 generalize hY:Z.drew=Y at*
 have HF:=Lib.hid hFa
 have hfl:=i_fld10
 generalize hx:(f.gl.step (f.ga:Nat) (f.nd k:Nat) u)=xx at*
 generalize hd:(f.gl.did (f.ga:Nat) (f.nd k:Nat) u)=dd at*
 have HD:=Lib.hid (And.intro hx hd)
 clear hx hd
 obtain ⟨-,-,-,g0,g1,g2,g3,-,-,-,-,-,-,-,-,-,-,-,-,-,-⟩:Cs _ M f.s.n k (f.nd k) (f.own k) κ p1 p2 p3 κ' q1 q2 q3 _ _:=(hFa.fm).raw.cs HE.out.1 HE.out.2.1 HE.out.2.2.1
 have hed:decide (dd.ev=3)=false:=by simp [he]
 clear h hk hFa hF0 hR0 hWZ hp hcl hcg c8 hh eA lq1 lq2 lq3 gq1 gq2 gq3
 go_enter func127,ntmps127
 go_upto_region 1 with fail
 go_region
 go_upto_region 3 with fail
 rw [←hZ,hY]
 clear hZ hY k39 k40 kn ko
 go_upto_region 4 with fail
 clear k41 kp
 go_wp2_with (go_at_call 130;have cc:=ri_step (HE.out.2.2.2.1.gri HF.out.fm.raw.gat HF.out.ref HF.out.bz) ((f.nd k:Nat):Int) u;rw [HE.out.2.2.1,HE.out.2.2.2.2.2.2.2.2,HD.out.1,HD.out.2] at cc;(with_reducible refine cc.mono ?_);intro e w6 hq;have hA:=HF.out.fm.gstep HE.out.2.2.2.2.2.2.2 hq;unfold RiPost at hq;obtain ⟨rfl,_,_,_⟩:=hq;dsimp only [Dd.rval];obtain ⟨d0,d1,d2,d3⟩:=(hA).dcell;obtain ⟨y0,y1,y2,y3⟩:=(hA).dfrz;obtain ⟨r0,r1,r2,r3⟩:=(hA).rcell;obtain ⟨t0,t1,t2,t3⟩:=(hA).rfrz;have HT:=Lib.hid hA;clear hA;clear cc)
 refine bodyPost_ret (v:=Dd.rval Dd.no) (results_cell_row rfl _ _ w.heap.size 136 _ (0,0) _ rfl (set4 HT.out.res rfl _ _ _ _) underlying136 rfl i_did10) rfl HT.out.told
theorem rl_unl5 {w:World} {M:Mp} {bk:Nat} {so:Option Addr} {cap:Nat} {dv:Value} {f:FL} {L:Lp} (h:MmIn w M bk so cap dv f L) (k:Nat) (hk:k<f.s.n) (u:Int) (hp:f.ph k=5):
  Calls prog 127 #[.pointer (some ⟨M.r,0,none⟩),.pointer (some ⟨M.pr,0,none⟩),.int .i64 (k:Int),.int .i64 u] w (RkPost w M bk dv {f with Lc:=upd f.Lc (f.nd k) ((f.lk (f.nd k)).step (f.la (f.nd k):Nat) (f.own k:Nat) u),ps:=((f.lk (f.nd k)).step (f.la (f.nd k):Nat) (f.own k:Nat) u).ps} (Dd.rval ⟨((f.lk (f.nd k)).did (f.la (f.nd k):Nat) (f.own k:Nat) u).ev,false,false,false⟩)):=by
 obtain ⟨Z,hZ⟩:∃ Z,Z=(w.alloc (.cells #[.int .i64 0,.int .i64 0,.int .i64 0,.int .i64 0] 136)).alloc (.cells #[.int .i64 0,.int .i64 0,.int .i64 0,.int .i64 0] 136):=⟨_,rfl⟩
 obtain ⟨hF0,hR0,hWZ⟩:=h.start Z hZ
 have i0:(0:Int)≤(k:Int):=by omega
 have i1:(k:Int)<f.s.n:=by omega
 obtain ⟨c8,hh⟩:=h.ml.raw.has k hk
 have c8i:((f.nd k:Nat):Int)<8:=by omega
 obtain ⟨κ,p1,p2,p3,hcl⟩:=(M.l (f.nd k)).four
 obtain ⟨κ',q1,q2,q3,hcg⟩:=M.g.four
 obtain ⟨lq1,lq2,lq3⟩:=h.ml.st.lq _ c8 hh
 obtain ⟨gq1,gq2,gq3⟩:=h.ml.st.gq
 have HE:=Lib.hid (And.intro hk (And.intro hcl (And.intro hcg (And.intro h (And.intro c8 (And.intro hh (And.intro (And.intro lq1 lq2) (And.intro gq1 gq2))))))))
 obtain ⟨-,-,-,-,-,-,-,-,-,-,-,k39,k40,-,-,kn,ko,-,-,-,-⟩:=(h.ml.raw.after ((Wr.refl Nil w).alloc (.cells #[.int .i64 0,.int .i64 0,.int .i64 0,.int .i64 0] 136))).cs hk hcl hcg
 obtain ⟨-,-,-,-,-,-,-,-,-,-,-,-,-,k41,-,-,-,kp,-,-,-⟩:=hF0.drew.raw.cs hk hcl hcg
 rw [show f.ph k=5 from hp] at kp
 have eA:L.pA (f.nd k)=((f.nd k:Nat):Int):=by unfold Lp.pA;rw [h.l1];omega
 have hw1:IntKind.i64.wrap ((f.nd k:Nat):Int)=((f.nd k:Nat):Int):=by rw [IntKind.wrap_i64];omega
 have hFa:Fa w Z.drew M bk so cap dv f w.heap.size (w.heap.size+1) Dd.no:=⟨hF0.drew,hR0.after (w':=Z.drew) ((Wr.refl Nil Z).drew) λ_ _=>id,Nat.le_trans h.hb hWZ.size⟩
 generalize hY:Z.drew=Y at*
 have HF:=Lib.hid hFa
 have hfl:=i_fld10
 generalize hx:((f.lk (f.nd k)).step (f.la (f.nd k):Nat) (f.own k:Nat) u)=xx at*
 generalize hd:((f.lk (f.nd k)).did (f.la (f.nd k):Nat) (f.own k:Nat) u)=dd at*
 have HD:=Lib.hid (And.intro hx hd)
 clear hx hd
 obtain ⟨-,-,-,-,-,-,-,l0,l1,l2,l3,-,-,-,-,-,-,-,-,-,-⟩:Cs _ M f.s.n k (f.nd k) (f.own k) κ p1 p2 p3 κ' q1 q2 q3 _ _:=(hFa.fm).raw.cs HE.out.1 HE.out.2.1 HE.out.2.2.1
 clear h hk hFa hF0 hR0 hWZ hp hcl hcg c8 hh eA lq1 lq2 lq3 gq1 gq2 gq3
 go_enter func127,ntmps127
 go_upto_region 1 with fail
 go_region
 go_upto_region 3 with fail
 rw [←hZ,hY]
 clear hZ hY k39 k40 kn ko
 go_upto_region 4 with fail
 clear k41 kp
 go_upto_region 28 with (go_at_call 130;have cc:=ri_step (HE.out.2.2.2.1.lri HE.out.1 (HF.out.fm.raw.lat _ HE.out.2.2.2.2.1 HE.out.2.2.2.2.2.1) HF.out.ref HF.out.bz) ((f.own k:Nat):Int) u;rw [HE.out.2.1,HE.out.2.2.2.2.2.2.1.2,HD.out.1,HD.out.2] at cc;(with_reducible refine cc.mono ?_);intro e w6 hq;have hA:=HF.out.fm.lstep HE.out.2.2.2.2.1 HE.out.2.2.2.2.2.1 HE.out.2.2.2.2.2.2.1 hq;unfold RiPost at hq;obtain ⟨rfl,_,_,_⟩:=hq;dsimp only [Dd.rval];obtain ⟨a0,a1,a2,a3⟩:=hA.dcell;obtain ⟨b0,b1,b2,b3⟩:=hA.dfrz;have HA:=Lib.hid hA;clear hA;clear cc)
 clear l0 l1 l2 l3 a0 a1 a2 a3 b0 b1 b2 b3
 generalize hX:World.setCell _ _ _=X at*
 have hT:=HA.out.setD 0 (.int .i64 dd.ev) ⟨dd.ev,false,false,false⟩ rfl
 try rw [hX] at hT
 obtain ⟨d0,d1,d2,d3⟩:=(hT).dcell;obtain ⟨y0,y1,y2,y3⟩:=(hT).dfrz;obtain ⟨r0,r1,r2,r3⟩:=(hT).rcell;obtain ⟨t0,t1,t2,t3⟩:=(hT).rfrz
 have HT:=Lib.hid hT
 clear hX hT
 go_wp2
 refine bodyPost_ret (v:=Dd.rval ⟨dd.ev,false,false,false⟩) (results_cell_row rfl _ _ w.heap.size 136 _ (0,0) _ rfl (set4 HT.out.res rfl _ _ _ _) underlying136 rfl i_did10) rfl HT.out.told
end Go.Proofs.YtkmikkjjnbikdaaGreat

import Derived.Test.YtcikfcplagelaaaGreatHierAcq
namespace Go.Proofs.YtcikfcplagelaaaGreat.Kh
set_option maxHeartbeats 8000000
open _root_.Go.Proofs.Tryz
open Go.RowKit Go.BigFrame
set_option linter.unusedVariables false
set_option maxRecDepth 100000
theorem FL.put_put (f:FL) (k:Nat) (a b:Ab):(f.put k a).put k b=f.put k b:=by unfold FL.put;simp only [upd_upd]
theorem fl_lead3 {w:World} {L:Lp} {f:FL} (h:LkAt w L f) (k:Nat) (hk:k<f.s.n) (u:Int) (hs:f.s.st k=1) (hd:f.pc k=3) (hD:f.ps.D.length<4611686018427387904):
  Calls prog 265 #[.pointer (some ⟨L.lb,0,none⟩),.pointer (some ⟨L.tb,k*6,none⟩),.int .i64 u] w (LmPost w L (f.acq L k u) (upd f.s.st k (finS 1 (f.acqD L k u).ev)) (f.acqD L k u).val):=by
 have e1:f.acq L k u=({f with ps:=doS f.ps u 1 (L.cA (f.cl k)) 0 0}:FL).put k ⟨f.cl k,4,f.nd k,f.ahd k,tellS f.ps u 1 (L.cA (f.cl k)),f.wv k⟩:=by unfold FL.acq FL.put;rw [if_neg (by omega),if_neg (by omega),if_neg (by omega),if_pos hd];simp only [upd_id f.cl k rfl,upd_id f.nd k rfl,upd_id f.ahd k rfl,upd_id f.wv k rfl]
 have e2:f.acqD L k u=Dd.no:=by unfold FL.acqD;rw [if_neg (by omega),if_neg (by omega),if_neg (by omega),if_pos hd]
 rw [e1,e2]
 rw [show finS 1 (Dd.ev Dd.no)=1 from by decide]
 clear e1 e2
 have hF:=Fr.start h
 obtain ⟨Z,hZ⟩:∃ Z,Z=w.alloc (.cells #[.int .i64 0,.bool false,.bool false,.bool false] 228):=⟨_,rfl⟩
 rw [←hZ] at hF
 have hkI:(k:Int)<f.s.n:=by omega
 have c3:=hF.lk.raw.cell3
 obtain ⟨p,hp,t0,t1,t2,t3,t4,t5⟩:=hF.lk.place6 hk
 rw [hs] at hp
 rw [hd] at t3
 have N0:Z.drew.cell? ⟨L.tb,k*6,none⟩=some (.int .i64 (f.cl k)):=t0
 have N1:Z.drew.cell? ⟨L.tb,k*6+1,none⟩=some (.int .u32 (f.nd k)):=t1
 have c1:=hF.drew.lk.raw.cell1
 have c2:=hF.drew.lk.raw.cell2
 have hcl:0≤f.cl k∧f.cl k≤7:=hp.cl.2
 have hnd:0≤f.nd k∧f.nd k<4294967296:=hp.nd.2
 rw [hZ] at t3
 clear hkI c3
 have cG:=fl_local hF.drew.lk (f.cl k) hcl
 have cA:=pload_any hF.drew.lk.port u (L.cA (f.cl k)) hD
 have hT0:=h.tell u 1 (L.cA (f.cl k))
 generalize tellS f.ps u 1 (L.cA (f.cl k))=v at*
 have HT0:=Lib.hid (λ(W:World) (g:LkM W L {f with ps:=doS f.ps u 1 (L.cA (f.cl k)) 0 0} f.s.st)=>g.turns (g.raw.setL k 1 ⟨f.cl k,4,f.nd k,f.ahd k,v,f.wv k⟩ v 4 (λp hp=>by rw [hs] at hp;exact hp.last hT0 hd)))
 have HE:=Lib.hid (And.intro h (And.intro hk hF))
 clear h hF hs hd hp t0 t1 t2 t4 t5 hcl hnd hT0
 go_enter func265,ntmps265
 go_wp2
 rw [←hZ]
 clear hZ
 go_region_held3 (λw'=>w'.cell? ⟨L.lb,1,none⟩=some (.pointer (some ⟨L.q.p,0,none⟩))∧w'.cell? ⟨L.tb,k*6,none⟩=some (.int .i64 (f.cl k))) (first|with_reducible exact ⟨d1,y0⟩|with_reducible exact ⟨q1,r0⟩|exact ⟨c1,N0⟩) (first|(go_at_call 261;(with_reducible refine cG.mono ?_);rintro e w' ⟨rfl,rfl⟩)|(go_at_call 146;(with_reducible refine cA.mono ?_);intro e w2 hq;unfold AccPost at hq;obtain ⟨rfl,hP,hW⟩:=hq;have hA:=HE.out.2.2.drew.lk.ports hP hW;have hA3:=Fr.call HE.out.1 HE.out.2.2.drew hA (lf_q hW);have d1:=hA.raw.cell1;have d2:=hA.raw.cell2;obtain ⟨p',hp',y0,y1,y2,y3,y4,y5⟩:=hA.place6 HE.out.2.1;have z3:=hA.raw.tkz (k*6+3);have z4:=hA.raw.tkz (k*6+4);have q1:=hA.raw.far1 (k*6+4) (.int .u32 v);have r0:=(hA.raw.beside (show k*6+4≠k*6 by omega) (.int .u32 v)).trans y0;have hT:=HT0.out _ hA;have hA4:=Fr.call HE.out.1 hA3 hT.1 (lf_t hT.2);obtain ⟨v0,v1,v2,v3⟩:=hA4.cell;obtain ⟨x0,x1,x2,x3⟩:=hA4.frz;have HT:=Lib.hid hA4;clear hA4 hT;clear hA hA3 hP hW hp'))
 go_wp2
 refine bodyPost_ret (v:=Dd.val ⟨0,false,false,false⟩) (results_cell_row rfl _ _ w.heap.size 228 _ (0,0) _ rfl (set4 HT.out.res rfl _ _ _ _) underlying228 rfl i_did) rfl (HT.out.told HE.out.1 ⟨0,false,false,false⟩)
theorem fl_lead4 {w:World} {L:Lp} {f:FL} (h:LkAt w L f) (k:Nat) (hk:k<f.s.n) (u:Int) (hs:f.s.st k=1) (hd:f.pc k=4) (hD:f.ps.D.length<4611686018427387904):
  Calls prog 265 #[.pointer (some ⟨L.lb,0,none⟩),.pointer (some ⟨L.tb,k*6,none⟩),.int .i64 u] w (LmPost w L (f.acq L k u) (upd f.s.st k (finS 1 (f.acqD L k u).ev)) (f.acqD L k u).val):=by
 have e1:f.acq L k u=({f with ps:=doS f.ps u 3 L.a1 0 (f.of k)}:FL).put k ⟨f.cl k,5,f.nd k,tellS f.ps u 3 L.a1,f.of k,f.wv k⟩:=by unfold FL.acq FL.put;rw [if_neg (by omega),if_neg (by omega),if_neg (by omega),if_neg (by omega),if_pos hd];simp only [upd_id f.cl k rfl,upd_id f.nd k rfl,upd_id f.of k rfl,upd_id f.wv k rfl]
 have e2:f.acqD L k u=⟨0,false,true,false⟩:=by unfold FL.acqD;rw [if_neg (by omega),if_neg (by omega),if_neg (by omega),if_neg (by omega),if_pos hd]
 rw [e1,e2]
 rw [show finS 1 (Dd.ev ⟨0,false,true,false⟩)=1 from by decide]
 clear e1 e2
 have hF:=Fr.start h
 obtain ⟨Z,hZ⟩:∃ Z,Z=w.alloc (.cells #[.int .i64 0,.bool false,.bool false,.bool false] 228):=⟨_,rfl⟩
 rw [←hZ] at hF
 have hkI:(k:Int)<f.s.n:=by omega
 have c3:=hF.lk.raw.cell3
 obtain ⟨p,hp,t0,t1,t2,t3,t4,t5⟩:=hF.lk.place6 hk
 rw [hs] at hp
 rw [hd] at t3
 have N0:Z.drew.cell? ⟨L.tb,k*6,none⟩=some (.int .i64 (f.cl k)):=t0
 have N1:Z.drew.cell? ⟨L.tb,k*6+1,none⟩=some (.int .u32 (f.nd k)):=t1
 have c1:=hF.drew.lk.raw.cell1
 have c2:=hF.drew.lk.raw.cell2
 have hcl:0≤f.cl k∧f.cl k≤7:=hp.cl.2
 have hnd:0≤f.nd k∧f.nd k<4294967296:=hp.nd.2
 rw [hZ] at t3
 clear hkI c3
 have HN4:=Lib.hid (λ(q:Pc) (hq:PlI (f.s.st k) (f.ab k) q)=>(hq.la1 hs (by have:(f.ab k).pc=f.pc k:=rfl;omega):q.la=f.of k))
 have N4:Z.drew.cell? ⟨L.tb,k*6+4,none⟩=some (.int .u32 (f.of k)):=by rw [←show p.la=f.of k from hp.la1 rfl (by have:(f.ab k).pc=f.pc k:=rfl;omega)];exact t4
 have hof:0≤f.of k∧f.of k<4294967296:=hp.ofr
 have cA:=pswap_any hF.drew.lk.port u L.a1 (f.of k) hof.1 hof.2 hD
 have hT0:=h.tell u 3 L.a1
 generalize tellS f.ps u 3 L.a1=v at*
 have HT0:=Lib.hid (λ(W:World) (g:LkM W L {f with ps:=doS f.ps u 3 L.a1 0 (f.of k)} f.s.st)=>g.turns (g.raw.setA k 1 ⟨f.cl k,5,f.nd k,v,f.of k,f.wv k⟩ v 5 (λp hp=>by rw [hs] at hp;exact hp.ahead (q:=5) hT0 (by decide) (λ_=>by rw [show (({f with ps:=doS f.ps u 3 L.a1 0 (f.of k)}:FL).ab k).pc=4 from hd];decide) (by decide))))
 clear hof
 have HE:=Lib.hid (And.intro h (And.intro hk hF))
 clear h hF hs hd hp t0 t1 t2 t4 t5 hcl hnd hT0
 go_enter func265,ntmps265
 go_wp2
 rw [←hZ]
 clear hZ
 go_region_held3 (λw'=>w'.cell? ⟨L.lb,1,none⟩=some (.pointer (some ⟨L.q.p,0,none⟩))∧w'.cell? ⟨L.lb,2,none⟩=some (.int .i64 L.a1)∧w'.cell? ⟨L.tb,k*6+4,none⟩=some (.int .u32 (f.of k))) (first|with_reducible exact ⟨d1,d2,y4⟩|with_reducible exact ⟨q1,q2,r4⟩|exact ⟨c1,c2,N4⟩) (first|(go_at_call 218;(with_reducible refine cA.mono ?_);intro e w2 hq;unfold AccPost at hq;obtain ⟨rfl,hP,hW⟩:=hq;have hA:=HE.out.2.2.drew.lk.ports hP hW;have hA3:=Fr.call HE.out.1 HE.out.2.2.drew hA (lf_q hW);have d1:=hA.raw.cell1;have d2:=hA.raw.cell2;obtain ⟨p',hp',y0,y1,y2,y3,y4,y5⟩:=hA.place6 HE.out.2.1;have z3:=hA.raw.tkz (k*6+3);rw [(show p'.la=f.of k from HN4.out _ hp')] at y4;have z2:=hA.raw.tkz (k*6+2);have q1:=hA.raw.far1 (k*6+2) (.int .u32 v);have q2:=hA.raw.far2 (k*6+2) (.int .u32 v);have r4:=(hA.raw.beside (show k*6+2≠k*6+4 by omega) (.int .u32 v)).trans y4;have hT:=HT0.out _ hA;have hA4:=Fr.call HE.out.1 hA3 hT.1 (lf_t hT.2);obtain ⟨v0,v1,v2,v3⟩:=hA4.cell;obtain ⟨x0,x1,x2,x3⟩:=hA4.frz;have HT:=Lib.hid hA4;clear hA4 hT;clear hA hA3 hP hW hp'))
 go_wp2
 refine bodyPost_ret (v:=Dd.val ⟨0,false,true,false⟩) (results_cell_row rfl _ _ w.heap.size 228 _ (0,0) _ rfl (set4 HT.out.res rfl _ _ _ _) underlying228 rfl i_did) rfl (HT.out.told HE.out.1 ⟨0,false,true,false⟩)
theorem fl_lead5 {w:World} {L:Lp} {f:FL} (h:LkAt w L f) (k:Nat) (hk:k<f.s.n) (u:Int) (hs:f.s.st k=1) (hd:f.pc k=5) (hD:f.ps.D.length<4611686018427387904):
  Calls prog 265 #[.pointer (some ⟨L.lb,0,none⟩),.pointer (some ⟨L.tb,k*6,none⟩),.int .i64 u] w (LmPost w L (f.acq L k u) (upd f.s.st k (finS 1 (f.acqD L k u).ev)) (f.acqD L k u).val):=by
 have e1:f.acq L k u=({f with ps:=doS f.ps u 1 (L.nA (f.of k)) 0 0}:FL).put k ⟨f.cl k,6,f.nd k,f.ahd k,f.of k,tellS f.ps u 1 (L.nA (f.of k))⟩:=by unfold FL.acq FL.put;rw [if_neg (by omega),if_neg (by omega),if_neg (by omega),if_neg (by omega),if_neg (by omega),if_pos hd];simp only [upd_id f.cl k rfl,upd_id f.nd k rfl,upd_id f.ahd k rfl,upd_id f.of k rfl]
 have e2:f.acqD L k u=Dd.no:=by unfold FL.acqD;rw [if_neg (by omega),if_neg (by omega),if_neg (by omega),if_neg (by omega),if_neg (by omega),if_pos hd]
 rw [e1,e2]
 rw [show finS 1 (Dd.ev Dd.no)=1 from by decide]
 clear e1 e2
 have hF:=Fr.start h
 obtain ⟨Z,hZ⟩:∃ Z,Z=w.alloc (.cells #[.int .i64 0,.bool false,.bool false,.bool false] 228):=⟨_,rfl⟩
 rw [←hZ] at hF
 have hkI:(k:Int)<f.s.n:=by omega
 have c3:=hF.lk.raw.cell3
 obtain ⟨p,hp,t0,t1,t2,t3,t4,t5⟩:=hF.lk.place6 hk
 rw [hs] at hp
 rw [hd] at t3
 have N0:Z.drew.cell? ⟨L.tb,k*6,none⟩=some (.int .i64 (f.cl k)):=t0
 have N1:Z.drew.cell? ⟨L.tb,k*6+1,none⟩=some (.int .u32 (f.nd k)):=t1
 have c1:=hF.drew.lk.raw.cell1
 have c2:=hF.drew.lk.raw.cell2
 have hcl:0≤f.cl k∧f.cl k≤7:=hp.cl.2
 have hnd:0≤f.nd k∧f.nd k<4294967296:=hp.nd.2
 rw [hZ] at t3
 clear hkI c3
 have HN4:=Lib.hid (λ(q:Pc) (hq:PlI (f.s.st k) (f.ab k) q)=>(hq.la1 hs (by have:(f.ab k).pc=f.pc k:=rfl;omega):q.la=f.of k))
 have N4:Z.drew.cell? ⟨L.tb,k*6+4,none⟩=some (.int .u32 (f.of k)):=by rw [←show p.la=f.of k from hp.la1 rfl (by have:(f.ab k).pc=f.pc k:=rfl;omega)];exact t4
 have hof:0≤f.of k∧f.of k<4294967296:=hp.ofr
 have cG:=fl_word hF.drew.lk (f.of k) hof
 have cA:=pload_any hF.drew.lk.port u (L.nA (f.of k)) hD
 have hT0:=h.tell u 1 (L.nA (f.of k))
 generalize tellS f.ps u 1 (L.nA (f.of k))=v at*
 have HT0:=Lib.hid (λ(W:World) (g:LkM W L {f with ps:=doS f.ps u 1 (L.nA (f.of k)) 0 0} f.s.st)=>g.turns (g.raw.setW k 1 ⟨f.cl k,6,f.nd k,f.ahd k,f.of k,v⟩ v 6 (λp hp=>by rw [hs] at hp;exact hp.read hT0 hd)))
 clear hof
 have HE:=Lib.hid (And.intro h (And.intro hk hF))
 clear h hF hs hd hp t0 t1 t2 t4 t5 hcl hnd hT0
 go_enter func265,ntmps265
 go_wp2
 rw [←hZ]
 clear hZ
 go_region_held3 (λw'=>w'.cell? ⟨L.lb,1,none⟩=some (.pointer (some ⟨L.q.p,0,none⟩))∧w'.cell? ⟨L.tb,k*6+4,none⟩=some (.int .u32 (f.of k))) (first|with_reducible exact ⟨d1,y4⟩|with_reducible exact ⟨q1,r4⟩|exact ⟨c1,N4⟩) (first|(go_at_call 259;(with_reducible refine cG.mono ?_);rintro e w' ⟨rfl,rfl⟩)|(go_at_call 146;(with_reducible refine cA.mono ?_);intro e w2 hq;unfold AccPost at hq;obtain ⟨rfl,hP,hW⟩:=hq;have hA:=HE.out.2.2.drew.lk.ports hP hW;have hA3:=Fr.call HE.out.1 HE.out.2.2.drew hA (lf_q hW);have d1:=hA.raw.cell1;have d2:=hA.raw.cell2;obtain ⟨p',hp',y0,y1,y2,y3,y4,y5⟩:=hA.place6 HE.out.2.1;have z3:=hA.raw.tkz (k*6+3);rw [(show p'.la=f.of k from HN4.out _ hp')] at y4;have z5:=hA.raw.tkz (k*6+5);have q1:=hA.raw.far1 (k*6+5) (.int .u32 v);have r4:=(hA.raw.beside (show k*6+5≠k*6+4 by omega) (.int .u32 v)).trans y4;have hT:=HT0.out _ hA;have hA4:=Fr.call HE.out.1 hA3 hT.1 (lf_t hT.2);obtain ⟨v0,v1,v2,v3⟩:=hA4.cell;obtain ⟨x0,x1,x2,x3⟩:=hA4.frz;have HT:=Lib.hid hA4;clear hA4 hT;clear hA hA3 hP hW hp'))
 go_wp2
 refine bodyPost_ret (v:=Dd.val ⟨0,false,false,false⟩) (results_cell_row rfl _ _ w.heap.size 228 _ (0,0) _ rfl (set4 HT.out.res rfl _ _ _ _) underlying228 rfl i_did) rfl (HT.out.told HE.out.1 ⟨0,false,false,false⟩)
theorem fl_lead6a {w:World} {L:Lp} {f:FL} (h:LkAt w L f) (k:Nat) (hk:k<f.s.n) (u:Int) (hs:f.s.st k=1) (hd:f.pc k=6) (hD:f.ps.D.length<4611686018427387904) (hc:casT f.ps u (L.nA (f.of k)) (f.wv k)=true):
  Calls prog 265 #[.pointer (some ⟨L.lb,0,none⟩),.pointer (some ⟨L.tb,k*6,none⟩),.int .i64 u] w (LmPost w L (f.acq L k u) (upd f.s.st k (finS 1 (f.acqD L k u).ev)) (f.acqD L k u).val):=by
 have e1:f.acq L k u=({f with ps:=doS f.ps u 4 (L.nA (f.of k)) (f.wv k) (wd (wCl (f.wv k)) (wWt (f.wv k)) 1)}:FL).put k ⟨f.cl k,7,f.nd k,f.ahd k,f.of k,f.wv k⟩:=by unfold FL.acq FL.put;rw [if_neg (by omega),if_neg (by omega),if_neg (by omega),if_neg (by omega),if_neg (by omega),if_neg (by omega),if_pos hd,hc];simp only [upd_id f.cl k rfl,upd_id f.nd k rfl,upd_id f.ahd k rfl,upd_id f.of k rfl,upd_id f.wv k rfl,if_true]
 have e2:f.acqD L k u=Dd.no:=by unfold FL.acqD;rw [if_neg (by omega),if_neg (by omega),if_neg (by omega),if_neg (by omega),if_neg (by omega),if_neg (by omega),if_pos hd]
 rw [e1,e2]
 rw [show finS 1 (Dd.ev Dd.no)=1 from by decide]
 clear e1 e2
 have hF:=Fr.start h
 obtain ⟨Z,hZ⟩:∃ Z,Z=w.alloc (.cells #[.int .i64 0,.bool false,.bool false,.bool false] 228):=⟨_,rfl⟩
 rw [←hZ] at hF
 obtain ⟨p,hp,t0,t1,t2,t3,t4,t5⟩:=hF.lk.place6 hk
 rw [hs] at hp
 have hof:0≤f.of k∧f.of k<4294967296:=hp.ofr
 have hwv:0≤f.wv k∧f.wv k<4294967296:=hp.wvr
 rw [show p.la=f.of k from hp.la1 rfl (by have:(f.ab k).pc=f.pc k:=rfl;omega)] at t4
 rw [show p.wa=f.wv k from hp.wa1 rfl hd] at t5
 rw [hd] at t3
 have z3:=hF.lk.raw.tkz (k*6+3)
 have hT1:=hF.lk.turns (hF.lk.raw.set1 k 1 ⟨f.cl k,5,f.nd k,f.ahd k,f.of k,f.wv k⟩ 5 (λp hp=>by rw [hs] at hp;exact hp.next (q:=5) (by decide) (λ_=>by rw [show (f.ab k).pc=6 from hd];decide) (λ_=>by rw [show (f.ab k).pc=6 from hd];decide) (by decide)))
 have N4:=(hF.lk.raw.beside (show k*6+3≠k*6+4 by omega) (.int .i64 5)).trans t4
 have N5:=(hF.lk.raw.beside (show k*6+3≠k*6+5 by omega) (.int .i64 5)).trans t5
 obtain ⟨Z1,hZ1⟩:∃ Z1,Z1=Z.setCell ⟨L.tb,k*6+3,none⟩ (.int .i64 5):=⟨_,rfl⟩
 rw [←hZ1] at hT1 N4 N5
 have hF1:=Fr.call h hF hT1.1 (lf_t hT1.2)
 have c1:=hF1.drew.lk.raw.cell1
 have cG:=fl_word hF1.drew.lk (f.of k) hof
 have cP:=pk_splice (f.wv k) hwv.1 hwv.2
 have hw1:=wd_s hwv
 have cA:=pcas_any (s:=f.ps) hF1.drew.lk.port u (L.nA (f.of k)) (f.wv k) (wd (wCl (f.wv k)) (wWt (f.wv k)) 1) hw1.1 hw1.2 hD
 rw [show (okT f.ps u (L.nA (f.of k))&&casB f.ps.ws (L.nA (f.of k)) (f.wv k))=true from hc] at cA
 replace N4:Z1.drew.cell? ⟨L.tb,k*6+4,none⟩=some (.int .u32 (f.of k)):=N4
 replace N5:Z1.drew.cell? ⟨L.tb,k*6+5,none⟩=some (.int .u32 (f.wv k)):=N5
 have HK:=Lib.hid (λ(Y:World) (kY:Wr (Rng L.q.k0 L.q.k3) Z1.drew Y)=>(And.intro (kY.cell N4 (λe=>by have:=h.far.2.2.2;have e1:L.q.k0≤L.tb:=e.1;omega)) (kY.cell N5 (λe=>by have:=h.far.2.2.2;have e1:L.q.k0≤L.tb:=e.1;omega))))
 have HT0:=Lib.hid (λ(W:World) (g:LkM W L (({f with ps:=doS f.ps u 4 (L.nA (f.of k)) (f.wv k) (wd (wCl (f.wv k)) (wWt (f.wv k)) 1)}:FL).put k ⟨f.cl k,5,f.nd k,f.ahd k,f.of k,f.wv k⟩) (upd f.s.st k 1))=>g.turns (g.raw.set1 k 1 ⟨f.cl k,7,f.nd k,f.ahd k,f.of k,f.wv k⟩ 7 (λp hp=>by rw [upd_same,FL.ab_put,upd_same] at hp;exact hp.next (q:=7) (by decide) (λ_=>(by show (2:Int)≤5;decide)) (λ_=>(by show (4:Int)≤5;decide)) (by decide))))
 have HU:=Lib.hid (And.intro (FL.put_put ({f with ps:=doS f.ps u 4 (L.nA (f.of k)) (f.wv k) (wd (wCl (f.wv k)) (wWt (f.wv k)) 1)}:FL) k ⟨f.cl k,5,f.nd k,f.ahd k,f.of k,f.wv k⟩ ⟨f.cl k,7,f.nd k,f.ahd k,f.of k,f.wv k⟩) (upd_upd f.s.st k (1:Int) 1))
 have HE:=Lib.hid (And.intro h (And.intro hk hF1))
 rw [hZ] at t3 z3
 clear h hF hs hd hp t0 t1 t2 t4 t5 hof hwv hw1 hT1 hF1 hc
 go_enter func265,ntmps265
 go_wp2
 rw [←hZ,←hZ1]
 clear hZ hZ1
 go_region_held3 (λw'=>w'.cell? ⟨L.lb,1,none⟩=some (.pointer (some ⟨L.q.p,0,none⟩))∧w'.cell? ⟨L.tb,k*6+4,none⟩=some (.int .u32 (f.of k))∧w'.cell? ⟨L.tb,k*6+5,none⟩=some (.int .u32 (f.wv k))) (first|with_reducible exact ⟨d1,y4,y5⟩|exact ⟨c1,N4,N5⟩) (first|(go_at_call 259;(with_reducible refine cG.mono ?_);rintro e w' ⟨rfl,rfl⟩)|(go_at_call 269;(with_reducible refine (cP _).mono ?_);rintro e w' ⟨rfl,rfl⟩)|(go_at_call 233;(with_reducible refine cA.mono ?_);intro e w2 hq;unfold AccPost at hq;obtain ⟨rfl,hP,hW⟩:=hq;have hA:=HE.out.2.2.drew.lk.ports hP hW;have hA3:=Fr.call HE.out.1 HE.out.2.2.drew hA (lf_q hW);have d1:=hA.raw.cell1;obtain ⟨y4,y5⟩:=HK.out _ hW;have z3:=hA.raw.tkz (k*6+3);obtain ⟨p',hp',y0,y1,y2,y3,_,_⟩:=hA.place6 (show k<_ from HE.out.2.1);have hT:=HT0.out _ hA;rw [HU.out.1,HU.out.2] at hT;have hA4:=Fr.call HE.out.1 hA3 hT.1 (lf_t hT.2);obtain ⟨v0,v1,v2,v3⟩:=hA4.cell;obtain ⟨x0,x1,x2,x3⟩:=hA4.frz;have HT:=Lib.hid hA4;clear hA4 hT;clear hA hA3 hP hW hp'))
 go_wp2
 refine bodyPost_ret (v:=Dd.val ⟨0,false,false,false⟩) (results_cell_row rfl _ _ w.heap.size 228 _ (0,0) _ rfl (set4 HT.out.res rfl _ _ _ _) underlying228 rfl i_did) rfl (HT.out.told HE.out.1 ⟨0,false,false,false⟩)
theorem fl_lead6b {w:World} {L:Lp} {f:FL} (h:LkAt w L f) (k:Nat) (hk:k<f.s.n) (u:Int) (hs:f.s.st k=1) (hd:f.pc k=6) (hD:f.ps.D.length<4611686018427387904) (hc:casT f.ps u (L.nA (f.of k)) (f.wv k)=false):
  Calls prog 265 #[.pointer (some ⟨L.lb,0,none⟩),.pointer (some ⟨L.tb,k*6,none⟩),.int .i64 u] w (LmPost w L (f.acq L k u) (upd f.s.st k (finS 1 (f.acqD L k u).ev)) (f.acqD L k u).val):=by
 have e1:f.acq L k u=({f with ps:=doS f.ps u 4 (L.nA (f.of k)) (f.wv k) (wd (wCl (f.wv k)) (wWt (f.wv k)) 1)}:FL).put k ⟨f.cl k,5,f.nd k,f.ahd k,f.of k,f.wv k⟩:=by unfold FL.acq FL.put;rw [if_neg (by omega),if_neg (by omega),if_neg (by omega),if_neg (by omega),if_neg (by omega),if_neg (by omega),if_pos hd,hc];simp only [upd_id f.cl k rfl,upd_id f.nd k rfl,upd_id f.ahd k rfl,upd_id f.of k rfl,upd_id f.wv k rfl,if_false,Bool.false_eq_true]
 have e2:f.acqD L k u=Dd.no:=by unfold FL.acqD;rw [if_neg (by omega),if_neg (by omega),if_neg (by omega),if_neg (by omega),if_neg (by omega),if_neg (by omega),if_pos hd]
 rw [e1,e2]
 rw [show finS 1 (Dd.ev Dd.no)=1 from by decide]
 clear e1 e2
 have hF:=Fr.start h
 obtain ⟨Z,hZ⟩:∃ Z,Z=w.alloc (.cells #[.int .i64 0,.bool false,.bool false,.bool false] 228):=⟨_,rfl⟩
 rw [←hZ] at hF
 obtain ⟨p,hp,t0,t1,t2,t3,t4,t5⟩:=hF.lk.place6 hk
 rw [hs] at hp
 have hof:0≤f.of k∧f.of k<4294967296:=hp.ofr
 have hwv:0≤f.wv k∧f.wv k<4294967296:=hp.wvr
 rw [show p.la=f.of k from hp.la1 rfl (by have:(f.ab k).pc=f.pc k:=rfl;omega)] at t4
 rw [show p.wa=f.wv k from hp.wa1 rfl hd] at t5
 rw [hd] at t3
 have z3:=hF.lk.raw.tkz (k*6+3)
 have hT1:=hF.lk.turns (hF.lk.raw.set1 k 1 ⟨f.cl k,5,f.nd k,f.ahd k,f.of k,f.wv k⟩ 5 (λp hp=>by rw [hs] at hp;exact hp.next (q:=5) (by decide) (λ_=>by rw [show (f.ab k).pc=6 from hd];decide) (λ_=>by rw [show (f.ab k).pc=6 from hd];decide) (by decide)))
 have N4:=(hF.lk.raw.beside (show k*6+3≠k*6+4 by omega) (.int .i64 5)).trans t4
 have N5:=(hF.lk.raw.beside (show k*6+3≠k*6+5 by omega) (.int .i64 5)).trans t5
 obtain ⟨Z1,hZ1⟩:∃ Z1,Z1=Z.setCell ⟨L.tb,k*6+3,none⟩ (.int .i64 5):=⟨_,rfl⟩
 rw [←hZ1] at hT1 N4 N5
 have hF1:=Fr.call h hF hT1.1 (lf_t hT1.2)
 have c1:=hF1.drew.lk.raw.cell1
 have cG:=fl_word hF1.drew.lk (f.of k) hof
 have cP:=pk_splice (f.wv k) hwv.1 hwv.2
 have hw1:=wd_s hwv
 have cA:=pcas_any (s:=f.ps) hF1.drew.lk.port u (L.nA (f.of k)) (f.wv k) (wd (wCl (f.wv k)) (wWt (f.wv k)) 1) hw1.1 hw1.2 hD
 rw [show (okT f.ps u (L.nA (f.of k))&&casB f.ps.ws (L.nA (f.of k)) (f.wv k))=false from hc] at cA
 replace N4:Z1.drew.cell? ⟨L.tb,k*6+4,none⟩=some (.int .u32 (f.of k)):=N4
 replace N5:Z1.drew.cell? ⟨L.tb,k*6+5,none⟩=some (.int .u32 (f.wv k)):=N5
 have HK:=Lib.hid (λ(Y:World) (kY:Wr (Rng L.q.k0 L.q.k3) Z1.drew Y)=>(And.intro (kY.cell N4 (λe=>by have:=h.far.2.2.2;have e1:L.q.k0≤L.tb:=e.1;omega)) (kY.cell N5 (λe=>by have:=h.far.2.2.2;have e1:L.q.k0≤L.tb:=e.1;omega))))
 have HT0:=Lib.hid (λ(W:World) (g:LkM W L (({f with ps:=doS f.ps u 4 (L.nA (f.of k)) (f.wv k) (wd (wCl (f.wv k)) (wWt (f.wv k)) 1)}:FL).put k ⟨f.cl k,5,f.nd k,f.ahd k,f.of k,f.wv k⟩) (upd f.s.st k 1))=>g)
 have HE:=Lib.hid (And.intro h (And.intro hk hF1))
 rw [hZ] at t3 z3
 clear h hF hs hd hp t0 t1 t2 t4 t5 hof hwv hw1 hT1 hF1 hc
 go_enter func265,ntmps265
 go_wp2
 rw [←hZ,←hZ1]
 clear hZ hZ1
 go_region_held3 (λw'=>w'.cell? ⟨L.lb,1,none⟩=some (.pointer (some ⟨L.q.p,0,none⟩))∧w'.cell? ⟨L.tb,k*6+4,none⟩=some (.int .u32 (f.of k))∧w'.cell? ⟨L.tb,k*6+5,none⟩=some (.int .u32 (f.wv k))) (first|with_reducible exact ⟨d1,y4,y5⟩|exact ⟨c1,N4,N5⟩) (first|(go_at_call 259;(with_reducible refine cG.mono ?_);rintro e w' ⟨rfl,rfl⟩)|(go_at_call 269;(with_reducible refine (cP _).mono ?_);rintro e w' ⟨rfl,rfl⟩)|(go_at_call 233;(with_reducible refine cA.mono ?_);intro e w2 hq;unfold AccPost at hq;obtain ⟨rfl,hP,hW⟩:=hq;have hA:=HE.out.2.2.drew.lk.ports hP hW;have hA3:=Fr.call HE.out.1 HE.out.2.2.drew hA (lf_q hW);have d1:=hA.raw.cell1;obtain ⟨y4,y5⟩:=HK.out _ hW;have hT:=HT0.out _ hA;have hA4:=Fr.call HE.out.1 hA3 hT (lf_nil (Wr.refl _ _));obtain ⟨v0,v1,v2,v3⟩:=hA4.cell;obtain ⟨x0,x1,x2,x3⟩:=hA4.frz;have HT:=Lib.hid hA4;clear hA4 hT;clear hA hA3 hP hW))
 go_wp2
 refine bodyPost_ret (v:=Dd.val ⟨0,false,false,false⟩) (results_cell_row rfl _ _ w.heap.size 228 _ (0,0) _ rfl (set4 HT.out.res rfl _ _ _ _) underlying228 rfl i_did) rfl (HT.out.told HE.out.1 ⟨0,false,false,false⟩)
theorem fl_lead {w:World} {L:Lp} {f:FL} (h:LkAt w L f) (k:Nat) (hk:k<f.s.n) (u:Int) (hs:f.s.st k=1) (hd:f.pc k=3∨f.pc k=4∨f.pc k=5∨f.pc k=6) (hD:f.ps.D.length<4611686018427387904):
  Calls prog 265 #[.pointer (some ⟨L.lb,0,none⟩),.pointer (some ⟨L.tb,k*6,none⟩),.int .i64 u] w (LmPost w L (f.acq L k u) (upd f.s.st k (finS 1 (f.acqD L k u).ev)) (f.acqD L k u).val):=by
 rcases hd with hd|hd|hd|hd
 ·exact fl_lead3 h k hk u hs hd hD
 ·exact fl_lead4 h k hk u hs hd hD
 ·exact fl_lead5 h k hk u hs hd hD
 ·cases hc:casT f.ps u (L.nA (f.of k)) (f.wv k)
  ·exact fl_lead6b h k hk u hs hd hD hc
  ·exact fl_lead6a h k hk u hs hd hD hc
theorem fl_acqL {w:World} {L:Lp} {f:FL} (h:LkAt w L f) (k:Nat) (hk:k<f.s.n) (u:Int) (hs:f.s.st k=1) (hd:f.pc k=3∨f.pc k=4∨f.pc k=5∨f.pc k=6) (hD:f.ps.D.length<4611686018427387904):
  Calls prog 257 #[.pointer (some ⟨L.lb,0,none⟩),.int .i64 (k:Int),.int .i64 u] w (LmPost w L (f.acq L k u) (upd f.s.st k (finS 1 (f.acqD L k u).ev)) (f.acqD L k u).val):=by
 have hF:=Fr.start h
 obtain ⟨Z,hZ⟩:∃ Z,Z=w.alloc (.cells #[.int .i64 0,.bool false,.bool false,.bool false] 228):=⟨_,rfl⟩
 rw [←hZ] at hF
 have hkI:(k:Int)<f.s.n:=by omega
 have c3:=hF.lk.raw.cell3
 obtain ⟨p,hp,t0,t1,t2,t3,t4,t5⟩:=hF.lk.place6 hk
 have cE:=fl_lead hF.lk k hk u hs hd hD
 have n0:¬ f.pc k=0:=by omega
 have n1:¬ f.pc k=1:=by omega
 have n2:¬ f.pc k=2:=by omega
 have n7:¬ f.pc k=7:=by omega
 rw [hZ] at c3 t3
 generalize (upd f.s.st k (finS 1 (f.acqD L k u).ev))=σ' at*
 generalize f.acq L k u=g at*
 generalize f.acqD L k u=d at*
 have HE:=Lib.hid (And.intro h hF)
 clear h hF hs hd hp t0 t1 t2 t4 t5
 generalize f.pc k=y at*
 go_enter func257,ntmps257
 go_wp2_with (first
  |(go_at_call 265;rw [←hZ];(with_reducible refine cE.mono ?_);intro e w2 hq;unfold LmPost at hq;obtain ⟨rfl,hB,hW⟩:=hq;dsimp only [Dd.val];have hB3:=Fr.call HE.out.1 HE.out.2 hB hW;obtain ⟨v0,v1,v2,v3⟩:=hB3.cell;obtain ⟨x0,x1,x2,x3⟩:=hB3.frz;have HT:=Lib.hid hB3;clear hB hB3 hW))
 refine bodyPost_ret (v:=Dd.val d) (results_cell_row rfl _ _ w.heap.size 228 _ (0,0) _ rfl (set4 HT.out.res rfl _ _ _ _) underlying228 rfl i_did) rfl (HT.out.told HE.out.1 d)
theorem fl_acq {w:World} {L:Lp} {f:FL} (h:LkAt w L f) (k:Nat) (hk:k<f.s.n) (u:Int) (hs:f.s.st k=1) (hD:f.ps.D.length<4611686018427387904):
  Calls prog 257 #[.pointer (some ⟨L.lb,0,none⟩),.int .i64 (k:Int),.int .i64 u] w (LmPost w L (f.acq L k u) (upd f.s.st k (finS 1 (f.acqD L k u).ev)) (f.acqD L k u).val):=by
 obtain ⟨p,hp⟩:=h.raw.pli hk
 have r:0≤f.pc k∧f.pc k≤7:=hp.st.2
 have:f.pc k=0∨f.pc k=1∨f.pc k=2∨(f.pc k=3∨f.pc k=4∨f.pc k=5∨f.pc k=6)∨f.pc k=7:=by omega
 rcases this with hd|hd|hd|hd|hd
 ·exact fl_acq0 h k hk u hs hd hD
 ·exact fl_acq1 h k hk u hs hd hD
 ·exact fl_acq2 h k hk u hs hd hD
 ·exact fl_acqL h k hk u hs hd hD
 ·by_cases hv:wWt (tellS f.ps u 1 (L.nA (f.ahd k)))=0
  ·exact fl_acq7a h k hk u hs hd hD hv
  ·exact fl_acq7b h k hk u hs hd hD hv
theorem fl_rel0 {w:World} {L:Lp} {f:FL} (h:LkAt w L f) (k:Nat) (hk:k<f.s.n) (u:Int) (hs:f.s.st k=3) (hd:f.pc k=0) (hD:f.ps.D.length<4611686018427387904):
  Calls prog 258 #[.pointer (some ⟨L.lb,0,none⟩),.int .i64 (k:Int),.int .i64 u] w (LmPost w L (f.rel L k u) (upd f.s.st k (finS 3 (f.relD L k u).ev)) (f.relD L k u).val):=by
 have e1:f.rel L k u=({f with ps:=doS f.ps u 1 (L.nA (f.nd k)) 0 0}:FL).put k ⟨f.cl k,1,f.nd k,f.ahd k,f.of k,tellS f.ps u 1 (L.nA (f.nd k))⟩:=by unfold FL.rel FL.put;rw [if_pos hd];simp only [upd_id f.cl k rfl,upd_id f.nd k rfl,upd_id f.ahd k rfl,upd_id f.of k rfl]
 have e2:f.relD L k u=Dd.no:=by unfold FL.relD;rw [if_pos hd]
 rw [e1,e2]
 rw [show finS 3 (Dd.ev Dd.no)=3 from by decide]
 clear e1 e2
 have hF:=Fr.start h
 obtain ⟨Z,hZ⟩:∃ Z,Z=w.alloc (.cells #[.int .i64 0,.bool false,.bool false,.bool false] 228):=⟨_,rfl⟩
 rw [←hZ] at hF
 have hkI:(k:Int)<f.s.n:=by omega
 have c3:=hF.lk.raw.cell3
 obtain ⟨p,hp,t0,t1,t2,t3,t4,t5⟩:=hF.lk.place6 hk
 rw [hs] at hp
 rw [hd] at t3
 have N0:Z.drew.cell? ⟨L.tb,k*6,none⟩=some (.int .i64 (f.cl k)):=t0
 have N1:Z.drew.cell? ⟨L.tb,k*6+1,none⟩=some (.int .u32 (f.nd k)):=t1
 have c1:=hF.drew.lk.raw.cell1
 have c2:=hF.drew.lk.raw.cell2
 have hcl:0≤f.cl k∧f.cl k≤7:=hp.cl.2
 have hnd:0≤f.nd k∧f.nd k<4294967296:=hp.nd.2
 rw [hZ] at c3 t3
 have cG:=fl_word hF.drew.lk (f.nd k) hnd
 have cA:=pload_any hF.drew.lk.port u (L.nA (f.nd k)) hD
 have hT0:=h.tell u 1 (L.nA (f.nd k))
 generalize tellS f.ps u 1 (L.nA (f.nd k))=v at*
 have HT0:=Lib.hid (λ(W:World) (g:LkM W L {f with ps:=doS f.ps u 1 (L.nA (f.nd k)) 0 0} f.s.st)=>g.turns (g.raw.setW k 3 ⟨f.cl k,1,f.nd k,f.ahd k,f.of k,v⟩ v 1 (λp hp=>by rw [hs] at hp;exact hp.view hT0)))
 have HE:=Lib.hid (And.intro h (And.intro hk hF))
 clear h hF hs hd hp t0 t1 t2 t4 t5 hcl hnd hT0
 go_enter func258,ntmps258
 go_wp2
 rw [←hZ]
 clear hZ
 go_region_held3 (λw'=>w'.cell? ⟨L.lb,1,none⟩=some (.pointer (some ⟨L.q.p,0,none⟩))∧w'.cell? ⟨L.tb,k*6+1,none⟩=some (.int .u32 (f.nd k))) (first|with_reducible exact ⟨d1,y1⟩|with_reducible exact ⟨q1,r1⟩|exact ⟨c1,N1⟩) (first|(go_at_call 259;(with_reducible refine cG.mono ?_);rintro e w' ⟨rfl,rfl⟩)|(go_at_call 146;(with_reducible refine cA.mono ?_);intro e w2 hq;unfold AccPost at hq;obtain ⟨rfl,hP,hW⟩:=hq;have hA:=HE.out.2.2.drew.lk.ports hP hW;have hA3:=Fr.call HE.out.1 HE.out.2.2.drew hA (lf_q hW);have d1:=hA.raw.cell1;have d2:=hA.raw.cell2;obtain ⟨p',hp',y0,y1,y2,y3,y4,y5⟩:=hA.place6 HE.out.2.1;have z3:=hA.raw.tkz (k*6+3);have z5:=hA.raw.tkz (k*6+5);have q1:=hA.raw.far1 (k*6+5) (.int .u32 v);have r1:=(hA.raw.beside (show k*6+5≠k*6+1 by omega) (.int .u32 v)).trans y1;have hT:=HT0.out _ hA;have hA4:=Fr.call HE.out.1 hA3 hT.1 (lf_t hT.2);obtain ⟨v0,v1,v2,v3⟩:=hA4.cell;obtain ⟨x0,x1,x2,x3⟩:=hA4.frz;have HT:=Lib.hid hA4;clear hA4 hT;clear hA hA3 hP hW hp'))
 go_wp2
 refine bodyPost_ret (v:=Dd.val ⟨0,false,false,false⟩) (results_cell_row rfl _ _ w.heap.size 228 _ (0,0) _ rfl (set4 HT.out.res rfl _ _ _ _) underlying228 rfl i_did) rfl (HT.out.told HE.out.1 ⟨0,false,false,false⟩)
theorem fl_rel1b {w:World} {L:Lp} {f:FL} (h:LkAt w L f) (k:Nat) (hk:k<f.s.n) (u:Int) (hs:f.s.st k=3) (hd:f.pc k=1) (hD:f.ps.D.length<4611686018427387904) (hc:casT f.ps u (L.nA (f.nd k)) (f.wv k)=false):
  Calls prog 258 #[.pointer (some ⟨L.lb,0,none⟩),.int .i64 (k:Int),.int .i64 u] w (LmPost w L (f.rel L k u) (upd f.s.st k (finS 3 (f.relD L k u).ev)) (f.relD L k u).val):=by
 have e1:f.rel L k u=({f with ps:=doS f.ps u 4 (L.nA (f.nd k)) (f.wv k) (wd (wCl (f.wv k)) 0 (wSp (f.wv k)))}:FL).put k ⟨f.cl k,0,f.nd k,f.ahd k,f.of k,f.wv k⟩:=by unfold FL.rel FL.put;rw [if_neg (by omega),hc,if_neg (by decide)];simp only [upd_id f.cl k rfl,upd_id f.nd k rfl,upd_id f.ahd k rfl,upd_id f.of k rfl,upd_id f.wv k rfl]
 have e2:f.relD L k u=Dd.no:=by unfold FL.relD;rw [if_neg (by omega),hc,if_neg (by decide)]
 rw [e1,e2]
 rw [show finS 3 (Dd.ev Dd.no)=3 from by decide]
 clear e1 e2
 have hF:=Fr.start h
 obtain ⟨Z,hZ⟩:∃ Z,Z=w.alloc (.cells #[.int .i64 0,.bool false,.bool false,.bool false] 228):=⟨_,rfl⟩
 rw [←hZ] at hF
 have hkI:(k:Int)<f.s.n:=by omega
 have c3:=hF.lk.raw.cell3
 obtain ⟨p,hp,t0,t1,t2,t3,t4,t5⟩:=hF.lk.place6 hk
 rw [hs] at hp
 rw [hd] at t3
 have N0:Z.drew.cell? ⟨L.tb,k*6,none⟩=some (.int .i64 (f.cl k)):=t0
 have N1:Z.drew.cell? ⟨L.tb,k*6+1,none⟩=some (.int .u32 (f.nd k)):=t1
 have c1:=hF.drew.lk.raw.cell1
 have c2:=hF.drew.lk.raw.cell2
 have hcl:0≤f.cl k∧f.cl k≤7:=hp.cl.2
 have hnd:0≤f.nd k∧f.nd k<4294967296:=hp.nd.2
 rw [hZ] at c3 t3
 have HN5:=Lib.hid (λ(q:Pc) (hq:PlI (f.s.st k) (f.ab k) q)=>(hq.wa3 hs hd:q.wa=f.wv k))
 have N5:Z.drew.cell? ⟨L.tb,k*6+5,none⟩=some (.int .u32 (f.wv k)):=by rw [←show p.wa=f.wv k from hp.wa3 rfl hd];exact t5
 have hwv:0≤f.wv k∧f.wv k<4294967296:=hp.wvr
 have cG:=fl_word hF.drew.lk (f.nd k) hnd
 have cP:=pk_free (f.wv k) hwv.1 hwv.2
 have hw1:=wd_f hwv
 have cA:=pcas_any hF.drew.lk.port u (L.nA (f.nd k)) (f.wv k) (wd (wCl (f.wv k)) 0 (wSp (f.wv k))) hw1.1 hw1.2 hD
 rw [show (okT f.ps u (L.nA (f.nd k))&&casB f.ps.ws (L.nA (f.nd k)) (f.wv k))=false from hc] at cA
 have HT0:=Lib.hid (λ(W:World) (g:LkM W L {f with ps:=doS f.ps u 4 (L.nA (f.nd k)) (f.wv k) (wd (wCl (f.wv k)) 0 (wSp (f.wv k)))} f.s.st)=>g.turns (g.raw.set1 k 3 ⟨f.cl k,0,f.nd k,f.ahd k,f.of k,f.wv k⟩ 0 (λp hp=>by rw [hs] at hp;exact hp.again)))
 clear hw1 hwv hc
 have HE:=Lib.hid (And.intro h (And.intro hk hF))
 clear h hF hs hd hp t0 t1 t2 t4 t5 hcl hnd
 go_enter func258,ntmps258
 go_wp2
 rw [←hZ]
 clear hZ
 go_region_held3 (λw'=>w'.cell? ⟨L.lb,1,none⟩=some (.pointer (some ⟨L.q.p,0,none⟩))∧w'.cell? ⟨L.tb,k*6+1,none⟩=some (.int .u32 (f.nd k))∧w'.cell? ⟨L.tb,k*6+5,none⟩=some (.int .u32 (f.wv k))) (first|with_reducible exact ⟨d1,y1,y5⟩|exact ⟨c1,N1,N5⟩) (first|(go_at_call 259;(with_reducible refine cG.mono ?_);rintro e w' ⟨rfl,rfl⟩)|(go_at_call 266;(with_reducible refine (cP _).mono ?_);rintro e w' ⟨rfl,rfl⟩)|(go_at_call 233;(with_reducible refine cA.mono ?_);intro e w2 hq;unfold AccPost at hq;obtain ⟨rfl,hP,hW⟩:=hq;have hA:=HE.out.2.2.drew.lk.ports hP hW;have hA3:=Fr.call HE.out.1 HE.out.2.2.drew hA (lf_q hW);have d1:=hA.raw.cell1;have d2:=hA.raw.cell2;obtain ⟨p',hp',y0,y1,y2,y3,y4,y5⟩:=hA.place6 HE.out.2.1;have z3:=hA.raw.tkz (k*6+3);rw [(show p'.wa=f.wv k from HN5.out _ hp')] at y5;have hT:=HT0.out _ hA;have hA4:=Fr.call HE.out.1 hA3 hT.1 (lf_t hT.2);obtain ⟨v0,v1,v2,v3⟩:=hA4.cell;obtain ⟨x0,x1,x2,x3⟩:=hA4.frz;have HT:=Lib.hid hA4;clear hA4 hT;clear hA hA3 hP hW hp'))
 go_wp2
 refine bodyPost_ret (v:=Dd.val ⟨0,false,false,false⟩) (results_cell_row rfl _ _ w.heap.size 228 _ (0,0) _ rfl (set4 HT.out.res rfl _ _ _ _) underlying228 rfl i_did) rfl (HT.out.told HE.out.1 ⟨0,false,false,false⟩)
theorem fl_rel1a {w:World} {L:Lp} {f:FL} (h:LkAt w L f) (k:Nat) (hk:k<f.s.n) (u:Int) (hs:f.s.st k=3) (hd:f.pc k=1) (hD:f.ps.D.length<4611686018427387904) (hc:casT f.ps u (L.nA (f.nd k)) (f.wv k)=true):
  Calls prog 258 #[.pointer (some ⟨L.lb,0,none⟩),.int .i64 (k:Int),.int .i64 u] w (LmPost w L (f.rel L k u) (upd f.s.st k (finS 3 (f.relD L k u).ev)) (f.relD L k u).val):=by
 have e1:f.rel L k u=({f with ps:=doS f.ps u 4 (L.nA (f.nd k)) (f.wv k) (wd (wCl (f.wv k)) 0 (wSp (f.wv k)))}:FL).put k ⟨f.cl k,0,f.ahd k,f.ahd k,f.of k,f.wv k⟩:=by unfold FL.rel FL.put;rw [if_neg (by omega),hc,if_pos rfl];simp only [upd_id f.cl k rfl,upd_id f.ahd k rfl,upd_id f.of k rfl,upd_id f.wv k rfl]
 have e2:f.relD L k u=⟨3,false,false,false⟩:=by unfold FL.relD;rw [if_neg (by omega),hc,if_pos rfl]
 rw [e1,e2]
 rw [show finS 3 (Dd.ev ⟨3,false,false,false⟩)=0 from by decide]
 clear e1 e2
 have hF:=Fr.start h
 obtain ⟨Z,hZ⟩:∃ Z,Z=w.alloc (.cells #[.int .i64 0,.bool false,.bool false,.bool false] 228):=⟨_,rfl⟩
 rw [←hZ] at hF
 have hkI:(k:Int)<f.s.n:=by omega
 have c3:=hF.lk.raw.cell3
 obtain ⟨p,hp,t0,t1,t2,t3,t4,t5⟩:=hF.lk.place6 hk
 rw [hs] at hp
 rw [hd] at t3
 have N0:Z.drew.cell? ⟨L.tb,k*6,none⟩=some (.int .i64 (f.cl k)):=t0
 have N1:Z.drew.cell? ⟨L.tb,k*6+1,none⟩=some (.int .u32 (f.nd k)):=t1
 have c1:=hF.drew.lk.raw.cell1
 have c2:=hF.drew.lk.raw.cell2
 have hcl:0≤f.cl k∧f.cl k≤7:=hp.cl.2
 have hnd:0≤f.nd k∧f.nd k<4294967296:=hp.nd.2
 rw [hZ] at c3 t3
 have HN5:=Lib.hid (λ(q:Pc) (hq:PlI (f.s.st k) (f.ab k) q)=>(hq.wa3 hs hd:q.wa=f.wv k))
 have N5:Z.drew.cell? ⟨L.tb,k*6+5,none⟩=some (.int .u32 (f.wv k)):=by rw [←show p.wa=f.wv k from hp.wa3 rfl hd];exact t5
 have hwv:0≤f.wv k∧f.wv k<4294967296:=hp.wvr
 have cG:=fl_word hF.drew.lk (f.nd k) hnd
 have cP:=pk_free (f.wv k) hwv.1 hwv.2
 have hw1:=wd_f hwv
 have cA:=pcas_any hF.drew.lk.port u (L.nA (f.nd k)) (f.wv k) (wd (wCl (f.wv k)) 0 (wSp (f.wv k))) hw1.1 hw1.2 hD
 rw [show (okT f.ps u (L.nA (f.nd k))&&casB f.ps.ws (L.nA (f.nd k)) (f.wv k))=true from hc] at cA
 have HT0:=Lib.hid (λ(W:World) (g:LkM W L {f with ps:=doS f.ps u 4 (L.nA (f.nd k)) (f.wv k) (wd (wCl (f.wv k)) 0 (wSp (f.wv k)))} f.s.st)=>g.turns (g.raw.set6 k 0 ⟨f.cl k,0,f.ahd k,f.ahd k,f.of k,f.wv k⟩ (f.cl k) (f.ahd k) 0 0 0 0 (λp hp=>by rw [hs] at hp;exact hp.gone)))
 have HN2:=Lib.hid (λ(q:Pc) (hq:PlI (f.s.st k) (f.ab k) q)=>(hq.ah2 (.inr hs):q.ah=f.ahd k))
 clear hw1 hwv hc
 have HE:=Lib.hid (And.intro h (And.intro hk hF))
 clear h hF hs hd hp t0 t1 t2 t4 t5 hcl hnd
 go_enter func258,ntmps258
 go_wp2
 rw [←hZ]
 clear hZ
 go_region_held3 (λw'=>w'.cell? ⟨L.lb,1,none⟩=some (.pointer (some ⟨L.q.p,0,none⟩))∧w'.cell? ⟨L.tb,k*6+1,none⟩=some (.int .u32 (f.nd k))∧w'.cell? ⟨L.tb,k*6+5,none⟩=some (.int .u32 (f.wv k))) (first|with_reducible exact ⟨d1,y1,y5⟩|exact ⟨c1,N1,N5⟩) (first|(go_at_call 259;(with_reducible refine cG.mono ?_);rintro e w' ⟨rfl,rfl⟩)|(go_at_call 266;(with_reducible refine (cP _).mono ?_);rintro e w' ⟨rfl,rfl⟩)|(go_at_call 233;(with_reducible refine cA.mono ?_);intro e w2 hq;unfold AccPost at hq;obtain ⟨rfl,hP,hW⟩:=hq;have hA:=HE.out.2.2.drew.lk.ports hP hW;have hA3:=Fr.call HE.out.1 HE.out.2.2.drew hA (lf_q hW);have d1:=hA.raw.cell1;have d2:=hA.raw.cell2;obtain ⟨p',hp',y0,y1,y2,y3,y4,y5⟩:=hA.place6 HE.out.2.1;have z3:=hA.raw.tkz (k*6+3);rw [(show p'.wa=f.wv k from HN5.out _ hp')] at y5;have hAd:=hA.after ((Wr.refl Nil w2).drew);have hA3d:=hA3.drew;obtain ⟨pd,hpd,Y0,Y1,Y2,Y3,Y4,Y5⟩:=hAd.place6 HE.out.2.1;rw [(show pd.ah=f.ahd k from HN2.out _ hpd)] at Y2;have Z0:=hAd.raw.tkz (k*6);have Z1:=hAd.raw.tkz (k*6+1);have Z2:=hAd.raw.tkz (k*6+2);have Z3:=hAd.raw.tkz (k*6+3);have Z4:=hAd.raw.tkz (k*6+4);have Z5:=hAd.raw.tkz (k*6+5);have hT:=HT0.out _ hAd;obtain ⟨V,hV⟩:∃ V,V=((((((w2.drew.setCell ⟨L.tb,k*6,none⟩ (.int .i64 (f.cl k))).setCell ⟨L.tb,k*6+1,none⟩ (.int .u32 (f.ahd k))).setCell ⟨L.tb,k*6+2,none⟩ (.int .u32 0)).setCell ⟨L.tb,k*6+3,none⟩ (.int .i64 0)).setCell ⟨L.tb,k*6+4,none⟩ (.int .u32 0)).setCell ⟨L.tb,k*6+5,none⟩ (.int .u32 0)):=⟨_,rfl⟩;rw [←hV] at hT;have hA4:=Fr.call HE.out.1 hA3d hT.1 (lf_t hT.2);obtain ⟨v0,v1,v2,v3⟩:=hA4.cell;obtain ⟨x0,x1,x2,x3⟩:=hA4.frz;have HT:=Lib.hid hA4;clear hA4 hT;clear hA hA3 hA3d hAd hP hW hp' hpd))
 go_wp2
 refine wp_region_tail 11 (by kernel_rfl) (by kernel_rfl) ?_
 simp only [List.take_succ_cons,List.take_zero,List.drop_succ_cons,List.drop_zero]
 repeat still_step
 refine wpStill_nil ?_
 generalize w2.drew=Y at*
 go_step
 go_step
 rw [←hV]
 clear hV Y0 Y1 Y2 Y3 Y4 Y5 Z0 Z1 Z2 Z3 Z4 Z5
 go_wp2
 refine bodyPost_ret (v:=Dd.val ⟨3,false,false,false⟩) (results_cell_row rfl _ _ w.heap.size 228 _ (0,0) _ rfl (set4 HT.out.res rfl _ _ _ _) underlying228 rfl i_did) rfl (HT.out.told HE.out.1 ⟨3,false,false,false⟩)
theorem fl_rel {w:World} {L:Lp} {f:FL} (h:LkAt w L f) (k:Nat) (hk:k<f.s.n) (u:Int) (hs:f.s.st k=3) (hD:f.ps.D.length<4611686018427387904):
  Calls prog 258 #[.pointer (some ⟨L.lb,0,none⟩),.int .i64 (k:Int),.int .i64 u] w (LmPost w L (f.rel L k u) (upd f.s.st k (finS 3 (f.relD L k u).ev)) (f.relD L k u).val):=by
 obtain ⟨p,hp⟩:=h.raw.pli hk
 have r:0≤f.pc k:=hp.st.2.1
 have r1:f.pc k≤1:=hp.rel hs
 have:f.pc k=0∨f.pc k=1:=by omega
 rcases this with hd|hd
 ·exact fl_rel0 h k hk u hs hd hD
 ·cases hc:casT f.ps u (L.nA (f.nd k)) (f.wv k)
  ·exact fl_rel1b h k hk u hs hd hD hc
  ·exact fl_rel1a h k hk u hs hd hD hc
end Go.Proofs.YtcikfcplagelaaaGreat.Kh

import Derived.Test.YtcikfcplagelaaaGreatHierFol
namespace Go.Proofs.YtcikfcplagelaaaGreat.Kh
set_option maxHeartbeats 8000000
open _root_.Go.Proofs.Tryz
open Go.RowKit Go.BigFrame
set_option linter.unusedVariables false
set_option maxRecDepth 100000
theorem fl_acq0 {w:World} {L:Lp} {f:FL} (h:LkAt w L f) (k:Nat) (hk:k<f.s.n) (u:Int) (hs:f.s.st k=1) (hd:f.pc k=0) (hD:f.ps.D.length<4611686018427387904):
  Calls prog 257 #[.pointer (some ⟨L.lb,0,none⟩),.int .i64 (k:Int),.int .i64 u] w (LmPost w L (f.acq L k u) (upd f.s.st k (finS 1 (f.acqD L k u).ev)) (f.acqD L k u).val):=by
 have e1:f.acq L k u=({f with ps:=doS f.ps u 2 (L.nA (f.nd k)) 0 (wd (f.cl k) 1 0)}:FL).put k ⟨f.cl k,1,f.nd k,f.ahd k,f.of k,f.wv k⟩:=by unfold FL.acq FL.put;rw [if_pos hd];simp only [upd_id f.cl k rfl,upd_id f.nd k rfl,upd_id f.ahd k rfl,upd_id f.of k rfl,upd_id f.wv k rfl]
 have e2:f.acqD L k u=Dd.no:=by unfold FL.acqD;rw [if_pos hd]
 rw [e1,e2]
 rw [show finS 1 (Dd.ev Dd.no)=1 from by decide]
 clear e1 e2
 have hF:=Fr.start h
 obtain ⟨Z,hZ⟩:∃ Z,Z=w.alloc (.cells #[.int .i64 0,.bool false,.bool false,.bool false] 228):=⟨_,rfl⟩
 rw [←hZ] at hF
 have hkI:(k:Int)<f.s.n:=by omega
 have c3:=hF.lk.raw.cell3
 obtain ⟨p,hp,t0,t1,t2,t3,t4,t5⟩:=hF.lk.place6 hk
 rw [hs] at hp
 rw [hd] at t3
 have N0:Z.drew.cell? ⟨L.tb,k*6,none⟩=some (.int .i64 (f.cl k)):=t0
 have N1:Z.drew.cell? ⟨L.tb,k*6+1,none⟩=some (.int .u32 (f.nd k)):=t1
 have c1:=hF.drew.lk.raw.cell1
 have c2:=hF.drew.lk.raw.cell2
 have hcl:0≤f.cl k∧f.cl k≤7:=hp.cl.2
 have hnd:0≤f.nd k∧f.nd k<4294967296:=hp.nd.2
 rw [hZ] at c3 t3
 have cG:=fl_word hF.drew.lk (f.nd k) hnd
 have cP:=pk_busy (f.cl k) hcl
 have wr:=wd_rng (c:=f.cl k) (x:=1) (y:=0) (by omega) (.inr rfl) (.inl rfl)
 have cA:=pstore_any hF.drew.lk.port u (L.nA (f.nd k)) (wd (f.cl k) 1 0) wr.1 wr.2 hD
 have HT0:=Lib.hid (λ(W:World) (g:LkM W L {f with ps:=doS f.ps u 2 (L.nA (f.nd k)) 0 (wd (f.cl k) 1 0)} f.s.st)=>g.turns (g.raw.set1 k 1 ⟨f.cl k,1,f.nd k,f.ahd k,f.of k,f.wv k⟩ 1 (λp hp=>by rw [hs] at hp;exact hp.next (q:=1) (by decide) (λx=>by omega) (λx=>by omega) (by decide))))
 clear wr
 have HE:=Lib.hid (And.intro h (And.intro hk hF))
 clear h hF hs hd hp t0 t1 t2 t4 t5 hcl hnd
 go_enter func257,ntmps257
 go_wp2
 rw [←hZ]
 clear hZ
 go_region_held3 (λw'=>w'.cell? ⟨L.lb,1,none⟩=some (.pointer (some ⟨L.q.p,0,none⟩))∧w'.cell? ⟨L.tb,k*6,none⟩=some (.int .i64 (f.cl k))∧w'.cell? ⟨L.tb,k*6+1,none⟩=some (.int .u32 (f.nd k))) (first|with_reducible exact ⟨d1,y0,y1⟩|exact ⟨c1,N0,N1⟩) (first|(go_at_call 259;(with_reducible refine cG.mono ?_);rintro e w' ⟨rfl,rfl⟩)|(go_at_call 109;(with_reducible refine (cP _).mono ?_);rintro e w' ⟨rfl,rfl⟩)|(go_at_call 158;(with_reducible refine cA.mono ?_);intro e w2 hq;unfold AccPost at hq;obtain ⟨rfl,hP,hW⟩:=hq;have hA:=HE.out.2.2.drew.lk.ports hP hW;have hA3:=Fr.call HE.out.1 HE.out.2.2.drew hA (lf_q hW);have d1:=hA.raw.cell1;have d2:=hA.raw.cell2;obtain ⟨p',hp',y0,y1,y2,y3,y4,y5⟩:=hA.place6 HE.out.2.1;have z3:=hA.raw.tkz (k*6+3);have hT:=HT0.out _ hA;have hA4:=Fr.call HE.out.1 hA3 hT.1 (lf_t hT.2);obtain ⟨v0,v1,v2,v3⟩:=hA4.cell;obtain ⟨x0,x1,x2,x3⟩:=hA4.frz;have HT:=Lib.hid hA4;clear hA4 hT;clear hA hA3 hP hW hp'))
 go_wp2
 refine bodyPost_ret (v:=Dd.val ⟨0,false,false,false⟩) (results_cell_row rfl _ _ w.heap.size 228 _ (0,0) _ rfl (set4 HT.out.res rfl _ _ _ _) underlying228 rfl i_did) rfl (HT.out.told HE.out.1 ⟨0,false,false,false⟩)
theorem fl_acq1 {w:World} {L:Lp} {f:FL} (h:LkAt w L f) (k:Nat) (hk:k<f.s.n) (u:Int) (hs:f.s.st k=1) (hd:f.pc k=1) (hD:f.ps.D.length<4611686018427387904):
  Calls prog 257 #[.pointer (some ⟨L.lb,0,none⟩),.int .i64 (k:Int),.int .i64 u] w (LmPost w L (f.acq L k u) (upd f.s.st k (finS 1 (f.acqD L k u).ev)) (f.acqD L k u).val):=by
 have e1:f.acq L k u=({f with ps:=doS f.ps u 3 (L.cA (f.cl k)) 0 (f.nd k)}:FL).put k ⟨f.cl k,if tellS f.ps u 3 (L.cA (f.cl k))=0 then 3 else 2,f.nd k,tellS f.ps u 3 (L.cA (f.cl k)),f.of k,f.wv k⟩:=by unfold FL.acq FL.put;rw [if_neg (by omega),if_pos hd];simp only [upd_id f.cl k rfl,upd_id f.nd k rfl,upd_id f.of k rfl,upd_id f.wv k rfl]
 have e2:f.acqD L k u=⟨0,true,false,false⟩:=by unfold FL.acqD;rw [if_neg (by omega),if_pos hd]
 rw [e1,e2]
 rw [show finS 1 (Dd.ev ⟨0,true,false,false⟩)=1 from by decide]
 clear e1 e2
 have hF:=Fr.start h
 obtain ⟨Z,hZ⟩:∃ Z,Z=w.alloc (.cells #[.int .i64 0,.bool false,.bool false,.bool false] 228):=⟨_,rfl⟩
 rw [←hZ] at hF
 have hkI:(k:Int)<f.s.n:=by omega
 have c3:=hF.lk.raw.cell3
 obtain ⟨p,hp,t0,t1,t2,t3,t4,t5⟩:=hF.lk.place6 hk
 rw [hs] at hp
 rw [hd] at t3
 have N0:Z.drew.cell? ⟨L.tb,k*6,none⟩=some (.int .i64 (f.cl k)):=t0
 have N1:Z.drew.cell? ⟨L.tb,k*6+1,none⟩=some (.int .u32 (f.nd k)):=t1
 have c1:=hF.drew.lk.raw.cell1
 have c2:=hF.drew.lk.raw.cell2
 have hcl:0≤f.cl k∧f.cl k≤7:=hp.cl.2
 have hnd:0≤f.nd k∧f.nd k<4294967296:=hp.nd.2
 rw [hZ] at c3 t3
 have cG:=fl_local hF.drew.lk (f.cl k) hcl
 have cA:=pswap_any hF.drew.lk.port u (L.cA (f.cl k)) (f.nd k) hnd.1 hnd.2 hD
 have hT0:=h.tell u 3 (L.cA (f.cl k))
 generalize tellS f.ps u 3 (L.cA (f.cl k))=v at*
 have HC:=Lib.hid (λ(W:World) (g:LkM W L {f with ps:=doS f.ps u 3 (L.cA (f.cl k)) 0 (f.nd k)} f.s.st)=>fl_enter g k hk hs v hT0)
 have HQ:RowKit.Hid (k<(({f with ps:=doS f.ps u 3 (L.cA (f.cl k)) 0 (f.nd k)}:FL).put k ⟨f.cl k,if v=0 then 3 else 2,f.nd k,v,f.of k,f.wv k⟩).s.n∧(({f with ps:=doS f.ps u 3 (L.cA (f.cl k)) 0 (f.nd k)}:FL).put k ⟨f.cl k,if v=0 then 3 else 2,f.nd k,v,f.of k,f.wv k⟩).cl k=f.cl k∧(({f with ps:=doS f.ps u 3 (L.cA (f.cl k)) 0 (f.nd k)}:FL).put k ⟨f.cl k,if v=0 then 3 else 2,f.nd k,v,f.of k,f.wv k⟩).nd k=f.nd k):=Lib.hid ⟨hk,upd_same _ _ _,upd_same _ _ _⟩
 dsimp only at HC
 obtain ⟨g,hg⟩:∃ g:FL,g=(({f with ps:=doS f.ps u 3 (L.cA (f.cl k)) 0 (f.nd k)}:FL).put k ⟨f.cl k,if v=0 then 3 else 2,f.nd k,v,f.of k,f.wv k⟩):=⟨_,rfl⟩
 obtain ⟨σ',hσ⟩:∃ σ':Nat→Int,σ'=upd f.s.st k 1:=⟨_,rfl⟩
 rw [←hg,←hσ] at HC
 rw [←hg] at HQ
 rw [←hg,←hσ]
 clear hg hσ
 have HE:=Lib.hid (And.intro h (And.intro hk hF))
 clear h hF hs hd hp t0 t1 t2 t4 t5 hcl hnd hT0
 go_enter func257,ntmps257
 go_wp2
 rw [←hZ]
 clear hZ
 go_region_held3 (λw'=>w'.cell? ⟨L.lb,1,none⟩=some (.pointer (some ⟨L.q.p,0,none⟩))∧w'.cell? ⟨L.tb,k*6,none⟩=some (.int .i64 (f.cl k))∧w'.cell? ⟨L.tb,k*6+1,none⟩=some (.int .u32 (f.nd k))) (first|with_reducible exact ⟨d1,y0,y1⟩|with_reducible exact ⟨q1,r0,r1⟩|exact ⟨c1,N0,N1⟩) (first|(go_at_call 261;(with_reducible refine cG.mono ?_);rintro e w' ⟨rfl,rfl⟩)|(go_at_call 218;(with_reducible refine cA.mono ?_);intro e w2 hq;unfold AccPost at hq;obtain ⟨rfl,hP,hW⟩:=hq;have hA:=HE.out.2.2.drew.lk.ports hP hW;have hA3:=Fr.call HE.out.1 HE.out.2.2.drew hA (lf_q hW);have d1:=hA.raw.cell1;have d2:=hA.raw.cell2;obtain ⟨p',hp',y0,y1,y2,y3,y4,y5⟩:=hA.place6 HE.out.2.1;have z3:=hA.raw.tkz (k*6+3);have HA:=Lib.hid hA3;have cE:=HC.out _ hA;clear hA hA3 hP hW hp')|(go_at_call 260;(with_reducible refine cE.mono ?_);intro e w3 hq;unfold FiPost at hq;obtain ⟨rfl,hB,hW2⟩:=hq;have hB3:=Fr.call HE.out.1 HA.out hB hW2;obtain ⟨v0,v1,v2,v3⟩:=hB3.cell;obtain ⟨x0,x1,x2,x3⟩:=hB3.frz;have q1:=hB.raw.cell1;obtain ⟨pB,hpB,r0,r1,_,_⟩:=hB.place6 HQ.out.1;rw [HQ.out.2.1] at r0;rw [HQ.out.2.2] at r1;have HT:=Lib.hid hB3;clear hB hB3 hW2 hpB))
 go_wp2
 refine bodyPost_ret (v:=Dd.val ⟨0,true,false,false⟩) (results_cell_row rfl _ _ w.heap.size 228 _ (0,0) _ rfl (set4 HT.out.res rfl _ _ _ _) underlying228 rfl i_did) rfl (HT.out.told HE.out.1 ⟨0,true,false,false⟩)
theorem fl_acq2 {w:World} {L:Lp} {f:FL} (h:LkAt w L f) (k:Nat) (hk:k<f.s.n) (u:Int) (hs:f.s.st k=1) (hd:f.pc k=2) (hD:f.ps.D.length<4611686018427387904):
  Calls prog 257 #[.pointer (some ⟨L.lb,0,none⟩),.int .i64 (k:Int),.int .i64 u] w (LmPost w L (f.acq L k u) (upd f.s.st k (finS 1 (f.acqD L k u).ev)) (f.acqD L k u).val):=by
 have e1:f.acq L k u=({f with ps:=doS f.ps u 1 (L.nA (f.ahd k)) 0 0}:FL).put k ⟨f.cl k,if wCl (tellS f.ps u 1 (L.nA (f.ahd k)))=f.cl k∧wSp (tellS f.ps u 1 (L.nA (f.ahd k)))=0 then (if wWt (tellS f.ps u 1 (L.nA (f.ahd k)))=0 then 0 else 2) else 3,f.nd k,f.ahd k,f.of k,f.wv k⟩:=by unfold FL.acq FL.put;rw [if_neg (by omega),if_neg (by omega),if_pos hd];simp only [upd_id f.cl k rfl,upd_id f.nd k rfl,upd_id f.ahd k rfl,upd_id f.of k rfl,upd_id f.wv k rfl]
 have e2:f.acqD L k u=(if (wCl (tellS f.ps u 1 (L.nA (f.ahd k)))=f.cl k∧wSp (tellS f.ps u 1 (L.nA (f.ahd k)))=0)∧wWt (tellS f.ps u 1 (L.nA (f.ahd k)))=0 then (⟨1,false,false,false⟩:Dd) else Dd.no):=by unfold FL.acqD;rw [if_neg (by omega),if_neg (by omega),if_pos hd]
 rw [e1,e2]
 clear e1 e2
 have hF:=Fr.start h
 obtain ⟨Z,hZ⟩:∃ Z,Z=w.alloc (.cells #[.int .i64 0,.bool false,.bool false,.bool false] 228):=⟨_,rfl⟩
 rw [←hZ] at hF
 have hkI:(k:Int)<f.s.n:=by omega
 have c3:=hF.lk.raw.cell3
 obtain ⟨p,hp,t0,t1,t2,t3,t4,t5⟩:=hF.lk.place6 hk
 rw [hs] at hp
 rw [hd] at t3
 have N0:Z.drew.cell? ⟨L.tb,k*6,none⟩=some (.int .i64 (f.cl k)):=t0
 have N1:Z.drew.cell? ⟨L.tb,k*6+1,none⟩=some (.int .u32 (f.nd k)):=t1
 have c1:=hF.drew.lk.raw.cell1
 have c2:=hF.drew.lk.raw.cell2
 have hcl:0≤f.cl k∧f.cl k≤7:=hp.cl.2
 have hnd:0≤f.nd k∧f.nd k<4294967296:=hp.nd.2
 rw [hZ] at c3 t3
 have HN2:=Lib.hid (λ(q:Pc) (hq:PlI (f.s.st k) (f.ab k) q)=>(hq.ah1 hs (by have:(f.ab k).pc=f.pc k:=rfl;omega):q.ah=f.ahd k))
 have N2:Z.drew.cell? ⟨L.tb,k*6+2,none⟩=some (.int .u32 (f.ahd k)):=by rw [←show p.ah=f.ahd k from hp.ah1 rfl (by have:(f.ab k).pc=f.pc k:=rfl;omega)];exact t2
 have hah:0≤f.ahd k∧f.ahd k<4294967296:=hp.ahr
 have cG:=fl_word hF.drew.lk (f.ahd k) hah
 have cA:=pload_any hF.drew.lk.port u (L.nA (f.ahd k)) hD
 have hT0:=h.tell u 1 (L.nA (f.ahd k))
 generalize tellS f.ps u 1 (L.nA (f.ahd k))=v at*
 have HC:=Lib.hid (λ(W:World) (g:LkM W L {f with ps:=doS f.ps u 1 (L.nA (f.ahd k)) 0 0} f.s.st)=>fl_follow g k hk hs hd v hT0)
 have HQ:RowKit.Hid (k<(({f with ps:=doS f.ps u 1 (L.nA (f.ahd k)) 0 0}:FL).put k ⟨f.cl k,if wCl v=f.cl k∧wSp v=0 then (if wWt v=0 then 0 else 2) else 3,f.nd k,f.ahd k,f.of k,f.wv k⟩).s.n):=Lib.hid hk
 obtain ⟨d,hdd⟩:∃ d:Dd,d=(if (wCl v=f.cl k∧wSp v=0)∧wWt v=0 then (⟨1,false,false,false⟩:Dd) else Dd.no):=⟨_,rfl⟩
 dsimp only at HC
 obtain ⟨g,hg⟩:∃ g:FL,g=(({f with ps:=doS f.ps u 1 (L.nA (f.ahd k)) 0 0}:FL).put k ⟨f.cl k,if wCl v=f.cl k∧wSp v=0 then (if wWt v=0 then 0 else 2) else 3,f.nd k,f.ahd k,f.of k,f.wv k⟩):=⟨_,rfl⟩
 rw [←hdd] at HC
 rw [←hdd]
 obtain ⟨σ',hσ⟩:∃ σ':Nat→Int,σ'=upd f.s.st k (finS 1 d.ev):=⟨_,rfl⟩
 rw [←hg,←hσ] at HC
 rw [←hg] at HQ
 have HB2:RowKit.Hid (∀ (Y:World),LkM Y L g σ'→Y.cell? ⟨L.tb,k*6+2,none⟩=some (.int .u32 (f.ahd k))):=Lib.hid (by
  intro Y hY
  obtain ⟨q,hq,_,_,r2,_⟩:=hY.place6 HQ.out
  have ea:(g.ab k).ahd=f.ahd k:=by rw [hg];exact upd_same _ _ _
  rw [show q.ah=f.ahd k from by
   rw [←ea]
   rw [hσ,upd_same] at hq
   by_cases hz:(wCl v=f.cl k∧wSp v=0)∧wWt v=0
   ·rw [hdd,if_pos hz] at hq;exact hq.ah2 (.inl (by decide))
   ·rw [hdd,if_neg hz] at hq
    refine hq.ah1 (by decide) ?_
    have:(g.ab k).pc=if wCl v=f.cl k∧wSp v=0 then (if wWt v=0 then 0 else 2) else 3:=by rw [hg];exact upd_same _ _ _
    rw [this]
    by_cases h1:wCl v=f.cl k∧wSp v=0
    ·rw [if_pos h1,if_neg (λq=>hz ⟨h1,q⟩)];decide
    ·rw [if_neg h1];decide] at r2
  exact r2)
 rw [←hg,←hσ]
 clear hg hσ hdd hah
 have HE:=Lib.hid (And.intro h (And.intro hk hF))
 clear h hF hs hd hp t0 t1 t2 t4 t5 hcl hnd hT0
 go_enter func257,ntmps257
 go_wp2
 rw [←hZ]
 clear hZ
 go_region_held3 (λw'=>w'.cell? ⟨L.lb,1,none⟩=some (.pointer (some ⟨L.q.p,0,none⟩))∧w'.cell? ⟨L.tb,k*6+2,none⟩=some (.int .u32 (f.ahd k))) (first|with_reducible exact ⟨d1,y2⟩|with_reducible exact ⟨q1,q2⟩|with_reducible exact ⟨r1,r2⟩|exact ⟨c1,N2⟩) (first|(go_at_call 259;(with_reducible refine cG.mono ?_);rintro e w' ⟨rfl,rfl⟩)|(go_at_call 146;(with_reducible refine cA.mono ?_);intro e w2 hq;unfold AccPost at hq;obtain ⟨rfl,hP,hW⟩:=hq;have hA:=HE.out.2.2.drew.lk.ports hP hW;have hA3:=Fr.call HE.out.1 HE.out.2.2.drew hA (lf_q hW);have d1:=hA.raw.cell1;have d2:=hA.raw.cell2;obtain ⟨p',hp',y0,y1,y2,y3,y4,y5⟩:=hA.place6 HE.out.2.1;have z3:=hA.raw.tkz (k*6+3);rw [(show p'.ah=f.ahd k from HN2.out _ hp')] at y2;have HA:=Lib.hid hA3;have cE:=HC.out _ hA;clear hA hA3 hP hW hp')|(go_at_call 262;(with_reducible refine cE.mono ?_);intro e w3 hq;unfold LmPost at hq;obtain ⟨rfl,hB,hW2⟩:=hq;dsimp only [Dd.val];have hB3:=Fr.call HE.out.1 HA.out hB hW2;obtain ⟨v0,v1,v2,v3⟩:=hB3.cell;obtain ⟨x0,x1,x2,x3⟩:=hB3.frz;have q1:=hB.raw.cell1;have q2:=HB2.out _ hB;have hC:=(hB3.told HE.out.1 d).2.1;have r1:=hC.raw.cell1;have r2:=HB2.out _ hC;have HT:=Lib.hid hB3;clear hB hB3 hW2 hC))
 go_wp2
 refine bodyPost_ret (v:=Dd.val d) (results_cell_row rfl _ _ w.heap.size 228 _ (0,0) _ rfl (set4 HT.out.res rfl _ _ _ _) underlying228 rfl i_did) rfl (HT.out.told HE.out.1 d)
theorem fl_acq7a {w:World} {L:Lp} {f:FL} (h:LkAt w L f) (k:Nat) (hk:k<f.s.n) (u:Int) (hs:f.s.st k=1) (hd:f.pc k=7) (hD:f.ps.D.length<4611686018427387904) (hv:wWt (tellS f.ps u 1 (L.nA (f.ahd k)))=0):
  Calls prog 257 #[.pointer (some ⟨L.lb,0,none⟩),.int .i64 (k:Int),.int .i64 u] w (LmPost w L (f.acq L k u) (upd f.s.st k (finS 1 (f.acqD L k u).ev)) (f.acqD L k u).val):=by
 have e1:f.acq L k u=({f with ps:=doS f.ps u 1 (L.nA (f.ahd k)) 0 0}:FL).put k ⟨f.cl k,0,f.nd k,f.ahd k,f.of k,f.wv k⟩:=by unfold FL.acq FL.put;rw [if_neg (by omega),if_neg (by omega),if_neg (by omega),if_neg (by omega),if_neg (by omega),if_neg (by omega),if_neg (by omega),if_pos hv];simp only [upd_id f.cl k rfl,upd_id f.nd k rfl,upd_id f.ahd k rfl,upd_id f.of k rfl,upd_id f.wv k rfl]
 have e2:f.acqD L k u=⟨1,false,false,true⟩:=by unfold FL.acqD;rw [if_neg (by omega),if_neg (by omega),if_neg (by omega),if_neg (by omega),if_neg (by omega),if_neg (by omega),if_neg (by omega),if_pos hv]
 rw [e1,e2]
 rw [show finS 1 (Dd.ev ⟨1,false,false,true⟩)=2 from by decide]
 clear e1 e2
 have hF:=Fr.start h
 obtain ⟨Z,hZ⟩:∃ Z,Z=w.alloc (.cells #[.int .i64 0,.bool false,.bool false,.bool false] 228):=⟨_,rfl⟩
 rw [←hZ] at hF
 have hkI:(k:Int)<f.s.n:=by omega
 have c3:=hF.lk.raw.cell3
 obtain ⟨p,hp,t0,t1,t2,t3,t4,t5⟩:=hF.lk.place6 hk
 rw [hs] at hp
 rw [hd] at t3
 have N0:Z.drew.cell? ⟨L.tb,k*6,none⟩=some (.int .i64 (f.cl k)):=t0
 have N1:Z.drew.cell? ⟨L.tb,k*6+1,none⟩=some (.int .u32 (f.nd k)):=t1
 have c1:=hF.drew.lk.raw.cell1
 have c2:=hF.drew.lk.raw.cell2
 have hcl:0≤f.cl k∧f.cl k≤7:=hp.cl.2
 have hnd:0≤f.nd k∧f.nd k<4294967296:=hp.nd.2
 rw [hZ] at c3 t3
 have HN2:=Lib.hid (λ(q:Pc) (hq:PlI (f.s.st k) (f.ab k) q)=>(hq.ah1 hs (by have:(f.ab k).pc=f.pc k:=rfl;omega):q.ah=f.ahd k))
 have N2:Z.drew.cell? ⟨L.tb,k*6+2,none⟩=some (.int .u32 (f.ahd k)):=by rw [←show p.ah=f.ahd k from hp.ah1 rfl (by have:(f.ab k).pc=f.pc k:=rfl;omega)];exact t2
 have hah:0≤f.ahd k∧f.ahd k<4294967296:=hp.ahr
 have cG:=fl_word hF.drew.lk (f.ahd k) hah
 have cA:=pload_any hF.drew.lk.port u (L.nA (f.ahd k)) hD
 have hT0:=h.tell u 1 (L.nA (f.ahd k))
 generalize tellS f.ps u 1 (L.nA (f.ahd k))=v at*
 have cW:=pk_wt v hT0 false (by rw [hv];rfl)
 have HC:=Lib.hid (λ(W:World) (g:LkM W L {f with ps:=doS f.ps u 1 (L.nA (f.ahd k)) 0 0} f.s.st)=>fl_has g k hk hs (show 2≤f.pc k by omega) ⟨1,false,false,true⟩)
 dsimp only [Dd.val] at HC
 clear hah hv
 have HE:=Lib.hid (And.intro h (And.intro hk hF))
 clear h hF hs hd hp t0 t1 t2 t4 t5 hcl hnd hT0
 go_enter func257,ntmps257
 go_wp2
 rw [←hZ]
 clear hZ
 go_region_held3 (λw'=>w'.cell? ⟨L.lb,1,none⟩=some (.pointer (some ⟨L.q.p,0,none⟩))∧w'.cell? ⟨L.tb,k*6+2,none⟩=some (.int .u32 (f.ahd k))) (first|with_reducible exact ⟨d1,y2⟩|exact ⟨c1,N2⟩) (first|(go_at_call 259;(with_reducible refine cG.mono ?_);rintro e w' ⟨rfl,rfl⟩)|(go_at_call 263;(with_reducible refine (cW _).mono ?_);rintro e w' ⟨rfl,rfl⟩)|(go_at_call 146;(with_reducible refine cA.mono ?_);intro e w2 hq;unfold AccPost at hq;obtain ⟨rfl,hP,hW⟩:=hq;have hA:=HE.out.2.2.drew.lk.ports hP hW;have hA3:=Fr.call HE.out.1 HE.out.2.2.drew hA (lf_q hW);have d1:=hA.raw.cell1;have d2:=hA.raw.cell2;obtain ⟨p',hp',y0,y1,y2,y3,y4,y5⟩:=hA.place6 HE.out.2.1;have z3:=hA.raw.tkz (k*6+3);rw [(show p'.ah=f.ahd k from HN2.out _ hp')] at y2;have HA:=Lib.hid hA3;have cE:=HC.out _ hA;clear hA hA3 hP hW hp'))
 go_wp2_with ((go_at_call 264;(with_reducible refine cE.mono ?_);intro e w3 hq;unfold LmPost at hq;obtain ⟨rfl,hB,hW2⟩:=hq;have hB3:=Fr.call HE.out.1 HA.out hB hW2;obtain ⟨v0,v1,v2,v3⟩:=hB3.cell;obtain ⟨x0,x1,x2,x3⟩:=hB3.frz;have HT:=Lib.hid hB3;clear hB hB3 hW2))
 refine bodyPost_ret (v:=Dd.val ⟨1,false,false,true⟩) (results_cell_row rfl _ _ w.heap.size 228 _ (0,0) _ rfl (set4 HT.out.res rfl _ _ _ _) underlying228 rfl i_did) rfl (HT.out.told HE.out.1 ⟨1,false,false,true⟩)
theorem fl_acq7b {w:World} {L:Lp} {f:FL} (h:LkAt w L f) (k:Nat) (hk:k<f.s.n) (u:Int) (hs:f.s.st k=1) (hd:f.pc k=7) (hD:f.ps.D.length<4611686018427387904) (hv:wWt (tellS f.ps u 1 (L.nA (f.ahd k)))≠0):
  Calls prog 257 #[.pointer (some ⟨L.lb,0,none⟩),.int .i64 (k:Int),.int .i64 u] w (LmPost w L (f.acq L k u) (upd f.s.st k (finS 1 (f.acqD L k u).ev)) (f.acqD L k u).val):=by
 have e1:f.acq L k u=({f with ps:=doS f.ps u 1 (L.nA (f.ahd k)) 0 0}:FL).put k ⟨f.cl k,7,f.nd k,f.ahd k,f.of k,f.wv k⟩:=by unfold FL.acq FL.put;rw [if_neg (by omega),if_neg (by omega),if_neg (by omega),if_neg (by omega),if_neg (by omega),if_neg (by omega),if_neg (by omega),if_neg hv];simp only [upd_id f.cl k rfl,upd_id f.nd k rfl,upd_id f.ahd k rfl,upd_id f.of k rfl,upd_id f.wv k rfl]
 have e2:f.acqD L k u=Dd.no:=by unfold FL.acqD;rw [if_neg (by omega),if_neg (by omega),if_neg (by omega),if_neg (by omega),if_neg (by omega),if_neg (by omega),if_neg (by omega),if_neg hv]
 rw [e1,e2]
 rw [show finS 1 (Dd.ev Dd.no)=1 from by decide]
 clear e1 e2
 have hF:=Fr.start h
 obtain ⟨Z,hZ⟩:∃ Z,Z=w.alloc (.cells #[.int .i64 0,.bool false,.bool false,.bool false] 228):=⟨_,rfl⟩
 rw [←hZ] at hF
 have hkI:(k:Int)<f.s.n:=by omega
 have c3:=hF.lk.raw.cell3
 obtain ⟨p,hp,t0,t1,t2,t3,t4,t5⟩:=hF.lk.place6 hk
 rw [hs] at hp
 rw [hd] at t3
 have N0:Z.drew.cell? ⟨L.tb,k*6,none⟩=some (.int .i64 (f.cl k)):=t0
 have N1:Z.drew.cell? ⟨L.tb,k*6+1,none⟩=some (.int .u32 (f.nd k)):=t1
 have c1:=hF.drew.lk.raw.cell1
 have c2:=hF.drew.lk.raw.cell2
 have hcl:0≤f.cl k∧f.cl k≤7:=hp.cl.2
 have hnd:0≤f.nd k∧f.nd k<4294967296:=hp.nd.2
 rw [hZ] at c3 t3
 have HN2:=Lib.hid (λ(q:Pc) (hq:PlI (f.s.st k) (f.ab k) q)=>(hq.ah1 hs (by have:(f.ab k).pc=f.pc k:=rfl;omega):q.ah=f.ahd k))
 have N2:Z.drew.cell? ⟨L.tb,k*6+2,none⟩=some (.int .u32 (f.ahd k)):=by rw [←show p.ah=f.ahd k from hp.ah1 rfl (by have:(f.ab k).pc=f.pc k:=rfl;omega)];exact t2
 have hah:0≤f.ahd k∧f.ahd k<4294967296:=hp.ahr
 have cG:=fl_word hF.drew.lk (f.ahd k) hah
 have cA:=pload_any hF.drew.lk.port u (L.nA (f.ahd k)) hD
 have hT0:=h.tell u 1 (L.nA (f.ahd k))
 generalize tellS f.ps u 1 (L.nA (f.ahd k))=v at*
 have cW:=pk_wt v hT0 true (by symm;apply decide_eq_true;unfold wWt at hv ⊢;omega)
 have HT0:=Lib.hid (λ(W:World) (g:LkM W L {f with ps:=doS f.ps u 1 (L.nA (f.ahd k)) 0 0} f.s.st)=>g.turn0 (g.raw.set0 k 1 ⟨f.cl k,7,f.nd k,f.ahd k,f.of k,f.wv k⟩ (λq hq=>by rw [hs] at hq;rw [show ({f with ps:=doS f.ps u 1 (L.nA (f.ahd k)) 0 0}:FL).ab k=⟨f.cl k,7,f.nd k,f.ahd k,f.of k,f.wv k⟩ from by unfold FL.ab;rw [←hd]] at hq;exact hq)))
 clear hah hv
 have HE:=Lib.hid (And.intro h (And.intro hk hF))
 clear h hF hs hd hp t0 t1 t2 t4 t5 hcl hnd hT0
 go_enter func257,ntmps257
 go_wp2
 rw [←hZ]
 clear hZ
 go_region_held3 (λw'=>w'.cell? ⟨L.lb,1,none⟩=some (.pointer (some ⟨L.q.p,0,none⟩))∧w'.cell? ⟨L.tb,k*6+2,none⟩=some (.int .u32 (f.ahd k))) (first|with_reducible exact ⟨d1,y2⟩|exact ⟨c1,N2⟩) (first|(go_at_call 259;(with_reducible refine cG.mono ?_);rintro e w' ⟨rfl,rfl⟩)|(go_at_call 263;(with_reducible refine (cW _).mono ?_);rintro e w' ⟨rfl,rfl⟩)|(go_at_call 146;(with_reducible refine cA.mono ?_);intro e w2 hq;unfold AccPost at hq;obtain ⟨rfl,hP,hW⟩:=hq;have hA:=HE.out.2.2.drew.lk.ports hP hW;have hA3:=Fr.call HE.out.1 HE.out.2.2.drew hA (lf_q hW);have d1:=hA.raw.cell1;have d2:=hA.raw.cell2;obtain ⟨p',hp',y0,y1,y2,y3,y4,y5⟩:=hA.place6 HE.out.2.1;have z3:=hA.raw.tkz (k*6+3);rw [(show p'.ah=f.ahd k from HN2.out _ hp')] at y2;have hT:=HT0.out _ hA;have hA4:=Fr.call HE.out.1 hA3 hT (lf_nil (Wr.refl _ _));obtain ⟨v0,v1,v2,v3⟩:=hA4.cell;obtain ⟨x0,x1,x2,x3⟩:=hA4.frz;have HT:=Lib.hid hA4;clear hA4 hT;clear hA hA3 hP hW hp'))
 go_wp2
 refine bodyPost_ret (v:=Dd.val ⟨0,false,false,false⟩) (results_cell_row rfl _ _ w.heap.size 228 _ (0,0) _ rfl (set4 HT.out.res rfl _ _ _ _) underlying228 rfl i_did) rfl (HT.out.told HE.out.1 ⟨0,false,false,false⟩)
end Go.Proofs.YtcikfcplagelaaaGreat.Kh

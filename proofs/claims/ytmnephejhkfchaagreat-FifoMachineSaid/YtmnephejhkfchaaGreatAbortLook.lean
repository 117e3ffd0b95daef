import Derived.Test.YtmnephejhkfchaaGreatAbortAcq
namespace Go.Proofs.YtmnephejhkfchaaGreat.Ka
set_option maxHeartbeats 8000000
open _root_.Go.Proofs.Tryz
open Go.RowKit Go.BigFrame
set_option linter.unusedVariables false
set_option maxRecDepth 100000
theorem fl_lookA {w:World} {L:Lp} {f:FL} (h:LkAt w L f) (k:Nat) (hk:k<f.s.n) (u x:Int) (hs:f.s.st k=1) (hd:f.pc k=7) (hD:f.ps.D.length<4611686018427387904) (hv:tellS f.ps u 1 (L.sA (f.nd k))≠0):
  Calls prog 185 #[.pointer (some ⟨L.lb,0,none⟩),.int .i64 (k:Int),.int .i64 u,.int .i64 x] w (LmPost w L (f.acq L k u x) (upd f.s.st k (finS 1 (f.acqD L k u x).ev)) (f.acqD L k u x).val):=by
 have e1:f.acq L k u x={f with pc:=upd f.pc k 1,nd:=upd f.nd k (f.nd k),oth:=upd f.oth k (f.oth k),tr:=upd f.tr k 0,ps:=doS f.ps u 1 (L.sA (f.nd k)) 0 0}:=by unfold FL.acq;rw [if_neg (by omega),if_neg (by omega),if_neg (by omega),if_neg (by omega),if_neg (by omega),if_neg (by omega),if_pos hd,if_pos hv,if_pos hv,upd_id f.nd k rfl,upd_id f.oth k rfl]
 have e2:f.acqD L k u x=⟨1,false,false,false⟩:=by unfold FL.acqD;rw [if_neg (by omega),if_neg (by omega),if_neg (by omega),if_neg (by omega),if_neg (by omega),if_neg (by omega),if_pos hd,if_pos hv]
 rw [e1,e2]
 rw [show finS 1 (Dd.ev ⟨1,false,false,false⟩)=2 from by decide]
 clear e1 e2
 have hF:=Fr.start h
 obtain ⟨Z,hZ⟩:∃ Z,Z=w.alloc (.cells #[.int .i64 0,.bool false,.bool false,.bool false] 102):=⟨_,rfl⟩
 rw [←hZ] at hF
 have hkI:(k:Int)<f.s.n:=by omega
 have c4:=hF.lk.raw.cell4
 obtain ⟨p,hp,t0,t1,t2,t3⟩:=hF.lk.raw.place4 hk
 rw [hs,hd] at hp
 rw [hd] at t0
 have n2:Z.drew.cell? ⟨L.tb,k*4+2,none⟩=some (.int .u32 (f.nd k)):=by rw [←hp.n0 (by decide)];exact t2
 have c1:=hF.drew.lk.raw.cell1
 have c3:=hF.drew.lk.raw.cell3
 rw [hZ] at c4 t0
 have cG:=fl_state hF.drew.lk (f.nd k) hp.nr
 have cA:=pload_any hF.drew.lk.port u (L.sA (f.nd k)) hD
 have HC:=Lib.hid (λ(W:World) (g:LkM W L {f with ps:=doS f.ps u 1 (L.sA (f.nd k)) 0 0} f.s.st)=>fl_has g k hk (show f.pc k≠1 by omega) (f.oth k) hp.orr)
 have HN:=Lib.hid (λ(q:Pc) (hq:PlI (f.s.st k) (f.pc k) (f.nd k) (f.oth k) (f.tr k) f.ea q)=>hq.n0 (by omega))
 generalize tellS f.ps u 1 (L.sA (f.nd k))=v at*
 have b1:(v != 0)=true:=by simpa [bne,BEq.beq] using hv
 have HE:=Lib.hid (And.intro h (And.intro hk hF))
 clear h hF hs hd hp t1 t2 t3 hv
 go_enter func185,ntmps185
 go_wp2
 rw [←hZ]
 clear hZ
 go_region_held3 (λw'=>w'.cell? ⟨L.lb,1,none⟩=some (.pointer (some ⟨L.q.p,0,none⟩))∧w'.cell? ⟨L.tb,k*4+2,none⟩=some (.int .u32 (f.nd k))) (first|exact ⟨c1,n2⟩|exact ⟨d1,y2⟩) (first|(go_at_call 182;(with_reducible refine cG.mono ?_);rintro e w' ⟨rfl,rfl⟩)|(go_at_call 85;(with_reducible refine cA.mono ?_);intro e w2 hq;unfold AccPost at hq;obtain ⟨rfl,hP,hW⟩:=hq;have hA:=HE.out.2.2.drew.lk.ports hP hW;have hA3:=Fr.call HE.out.1 HE.out.2.2.drew hA (lf_q hW);have d1:=hA.raw.cell1;have d3:=hA.raw.cell3;obtain ⟨p',hp',y0,y1,y2,y3⟩:=hA.raw.place4 HE.out.2.1;rw [(show p'.nd=f.nd k from HN.out _ hp')] at y2;have HA:=Lib.hid hA3;have cE:=HC.out _ hA;clear hA hA3 hP hW hp'))
 go_wp2_with (first|(go_at_call 190;(with_reducible refine cE.mono ?_);intro e w3 hq;unfold LmPost at hq;obtain ⟨rfl,hB,hW2⟩:=hq;dsimp only [Dd.val];have hB3:=Fr.call HE.out.1 HA.out hB hW2;obtain ⟨v0,v1,v2,v3⟩:=hB3.cell;obtain ⟨x0,x1,x2,x3⟩:=hB3.frz;have HT:=Lib.hid hB3;clear hB hB3 hW2))
 refine bodyPost_ret (v:=Dd.val ⟨1,false,false,false⟩) (results_cell_row rfl _ _ w.heap.size 102 _ (0,0) _ rfl (set4 HT.out.res rfl _ _ _ _) underlying102 rfl i_did) rfl (HT.out.told HE.out.1 ⟨1,false,false,false⟩)
theorem fl_lookB {w:World} {L:Lp} {f:FL} (h:LkAt w L f) (k:Nat) (hk:k<f.s.n) (u x:Int) (hs:f.s.st k=1) (hd:f.pc k=7) (hD:f.ps.D.length<4611686018427387904) (hv:tellS f.ps u 1 (L.sA (f.nd k))=0) (hq:f.due k x):
  Calls prog 185 #[.pointer (some ⟨L.lb,0,none⟩),.int .i64 (k:Int),.int .i64 u,.int .i64 x] w (LmPost w L (f.acq L k u x) (upd f.s.st k (finS 1 (f.acqD L k u x).ev)) (f.acqD L k u x).val):=by
 have e1:f.acq L k u x={f with pc:=upd f.pc k 8,nd:=upd f.nd k (f.nd k),oth:=upd f.oth k (f.oth k),tr:=upd f.tr k (f.tr k),ps:=doS f.ps u 1 (L.sA (f.nd k)) 0 0}:=by unfold FL.acq;rw [if_neg (by omega),if_neg (by omega),if_neg (by omega),if_neg (by omega),if_neg (by omega),if_neg (by omega),if_pos hd,if_neg (λq=>q hv),if_pos hq,if_neg (λq=>q hv),upd_id f.nd k rfl,upd_id f.oth k rfl]
 have e2:f.acqD L k u x=Dd.no:=by unfold FL.acqD;rw [if_neg (by omega),if_neg (by omega),if_neg (by omega),if_neg (by omega),if_neg (by omega),if_neg (by omega),if_pos hd,if_neg (λq=>q hv)]
 rw [e1,e2]
 rw [show finS 1 (Dd.ev Dd.no)=1 from by decide]
 clear e1 e2
 have hF:=Fr.start h
 obtain ⟨Z,hZ⟩:∃ Z,Z=w.alloc (.cells #[.int .i64 0,.bool false,.bool false,.bool false] 102):=⟨_,rfl⟩
 rw [←hZ] at hF
 have hkI:(k:Int)<f.s.n:=by omega
 have c4:=hF.lk.raw.cell4
 obtain ⟨p,hp,t0,t1,t2,t3⟩:=hF.lk.raw.place4 hk
 rw [hs,hd] at hp
 rw [hd] at t0
 have n2:Z.drew.cell? ⟨L.tb,k*4+2,none⟩=some (.int .u32 (f.nd k)):=by rw [←hp.n0 (by decide)];exact t2
 have c1:=hF.drew.lk.raw.cell1
 have c3:=hF.drew.lk.raw.cell3
 rw [hZ] at c4 t0
 have hdn:f.s.dl k≠-1:=by have:=hq.1;omega
 have hge:f.s.dl k≤x:=hq.2
 have cG:=fl_state hF.drew.lk (f.nd k) hp.nr
 have cA:=pload_any hF.drew.lk.port u (L.sA (f.nd k)) hD
 rw [hv] at cA
 have HT0:=Lib.hid (λ(W:World) (g:LkM W L {f with ps:=doS f.ps u 1 (L.sA (f.nd k)) 0 0} f.s.st)=>g.turns (g.raw.set1 k 1 8 (f.nd k) (f.oth k) (f.tr k) (λp hp=>by rw [hs,hd] at hp;exact hp.next (by decide) (by decide) (by decide)) 7 rfl))
 have HD:RowKit.Hid (∀ W:World,SeatAt W L.p L.b f.s→Calls prog 191 #[.pointer (some ⟨L.p,0,none⟩),.int .i64 (k:Int)] W λe w'=>e= .returned (.int .i64 (f.s.dl k))∧W=w'):=Lib.hid (λW g=>by
  have:=se_deadline g (k:Int)
  unfold SS.dlI at this
  rw [if_pos (show 0≤(k:Int)∧(k:Int)<f.s.n by omega),Int.toNat_natCast,if_pos hs] at this
  exact this)
 have HN:=Lib.hid (λ(q:Pc) (hq:PlI (f.s.st k) (f.pc k) (f.nd k) (f.oth k) (f.tr k) f.ea q)=>hq.n0 (by omega))
 have HE:=Lib.hid (And.intro h (And.intro hk hF))
 clear h hF hs hd hp t1 t2 t3 hv
 generalize f.s.dl k=dl at*
 have b1:(dl != -1)=true:=by simpa [bne,BEq.beq] using hdn
 have b2:decide (dl≤x)=true:=decide_eq_true hge
 clear hq hdn hge
 go_enter func185,ntmps185
 go_wp2
 rw [←hZ]
 clear hZ
 go_region_held3 (λw'=>w'.cell? ⟨L.lb,1,none⟩=some (.pointer (some ⟨L.q.p,0,none⟩))∧w'.cell? ⟨L.tb,k*4+2,none⟩=some (.int .u32 (f.nd k))) (first|exact ⟨c1,n2⟩|exact ⟨d1,y2⟩) (first|(go_at_call 182;(with_reducible refine cG.mono ?_);rintro e w' ⟨rfl,rfl⟩)|(go_at_call 85;(with_reducible refine cA.mono ?_);intro e w2 hq;unfold AccPost at hq;obtain ⟨rfl,hP,hW⟩:=hq;have hA:=HE.out.2.2.drew.lk.ports hP hW;have hA3:=Fr.call HE.out.1 HE.out.2.2.drew hA (lf_q hW);have d1:=hA.raw.cell1;have d3:=hA.raw.cell3;obtain ⟨p',hp',y0,y1,y2,y3⟩:=hA.raw.place4 HE.out.2.1;rw [(show p'.nd=f.nd k from HN.out _ hp')] at y2;have hT:=HT0.out _ hA;have cD:=HD.out _ hA.raw.seat;have d0:=hA.raw.cell0;have z0:=hA.raw.tkz (k*4);have hA4:=Fr.call HE.out.1 hA3 hT.1 (lf_t hT.2);obtain ⟨v0,v1,v2,v3⟩:=hA4.cell;obtain ⟨x0,x1,x2,x3⟩:=hA4.frz;have HT:=Lib.hid hA4;clear hA4 hT;clear hA hA3 hP hW hp'))
 go_wp2_with (first|(go_at_call 191;(with_reducible refine cD.mono ?_);rintro e w' ⟨rfl,rfl⟩))
 refine bodyPost_ret (v:=Dd.val ⟨0,false,false,false⟩) (results_cell_row rfl _ _ w.heap.size 102 _ (0,0) _ rfl (set4 HT.out.res rfl _ _ _ _) underlying102 rfl i_did) rfl (HT.out.told HE.out.1 ⟨0,false,false,false⟩)
theorem fl_lookC {w:World} {L:Lp} {f:FL} (h:LkAt w L f) (k:Nat) (hk:k<f.s.n) (u x:Int) (hs:f.s.st k=1) (hd:f.pc k=7) (hD:f.ps.D.length<4611686018427387904) (hv:tellS f.ps u 1 (L.sA (f.nd k))=0) (hq:¬ f.due k x) (hdn:f.s.dl k≠-1):
  Calls prog 185 #[.pointer (some ⟨L.lb,0,none⟩),.int .i64 (k:Int),.int .i64 u,.int .i64 x] w (LmPost w L (f.acq L k u x) (upd f.s.st k (finS 1 (f.acqD L k u x).ev)) (f.acqD L k u x).val):=by
 have e1:f.acq L k u x={f with pc:=upd f.pc k 7,nd:=upd f.nd k (f.nd k),oth:=upd f.oth k (f.oth k),tr:=upd f.tr k (f.tr k),ps:=doS f.ps u 1 (L.sA (f.nd k)) 0 0}:=by unfold FL.acq;rw [if_neg (by omega),if_neg (by omega),if_neg (by omega),if_neg (by omega),if_neg (by omega),if_neg (by omega),if_pos hd,if_neg (λq=>q hv),if_neg hq,if_neg (λq=>q hv),upd_id f.nd k rfl,upd_id f.oth k rfl]
 have e2:f.acqD L k u x=Dd.no:=by unfold FL.acqD;rw [if_neg (by omega),if_neg (by omega),if_neg (by omega),if_neg (by omega),if_neg (by omega),if_neg (by omega),if_pos hd,if_neg (λq=>q hv)]
 rw [e1,e2]
 rw [show finS 1 (Dd.ev Dd.no)=1 from by decide]
 clear e1 e2
 have hF:=Fr.start h
 obtain ⟨Z,hZ⟩:∃ Z,Z=w.alloc (.cells #[.int .i64 0,.bool false,.bool false,.bool false] 102):=⟨_,rfl⟩
 rw [←hZ] at hF
 have hkI:(k:Int)<f.s.n:=by omega
 have c4:=hF.lk.raw.cell4
 obtain ⟨p,hp,t0,t1,t2,t3⟩:=hF.lk.raw.place4 hk
 rw [hs,hd] at hp
 rw [hd] at t0
 have n2:Z.drew.cell? ⟨L.tb,k*4+2,none⟩=some (.int .u32 (f.nd k)):=by rw [←hp.n0 (by decide)];exact t2
 have c1:=hF.drew.lk.raw.cell1
 have c3:=hF.drew.lk.raw.cell3
 rw [hZ] at c4 t0
 have hge:¬ f.s.dl k≤x:=λq=>hq ⟨by have:=h.raw.np.2.2 k;omega,q⟩
 have cG:=fl_state hF.drew.lk (f.nd k) hp.nr
 have cA:=pload_any hF.drew.lk.port u (L.sA (f.nd k)) hD
 rw [hv] at cA
 have HT0:=Lib.hid (λ(W:World) (g:LkM W L {f with ps:=doS f.ps u 1 (L.sA (f.nd k)) 0 0} f.s.st)=>g.turn0 (g.raw.set0 k 1 7 (f.nd k) (f.oth k) (f.tr k) (λp hp=>by rw [hs,hd] at hp;exact hp)))
 have HD:RowKit.Hid (∀ W:World,SeatAt W L.p L.b f.s→Calls prog 191 #[.pointer (some ⟨L.p,0,none⟩),.int .i64 (k:Int)] W λe w'=>e= .returned (.int .i64 (f.s.dl k))∧W=w'):=Lib.hid (λW g=>by
  have:=se_deadline g (k:Int)
  unfold SS.dlI at this
  rw [if_pos (show 0≤(k:Int)∧(k:Int)<f.s.n by omega),Int.toNat_natCast,if_pos hs] at this
  exact this)
 have HN:=Lib.hid (λ(q:Pc) (hq:PlI (f.s.st k) (f.pc k) (f.nd k) (f.oth k) (f.tr k) f.ea q)=>hq.n0 (by omega))
 have HE:=Lib.hid (And.intro h (And.intro hk hF))
 clear h hF hs hd hp t1 t2 t3 hv
 generalize f.s.dl k=dl at*
 have b1:(dl != -1)=true:=by simpa [bne,BEq.beq] using hdn
 have b2:decide (dl≤x)=false:=decide_eq_false hge
 clear hdn hge hq
 go_enter func185,ntmps185
 go_wp2
 rw [←hZ]
 clear hZ
 go_region_held3 (λw'=>w'.cell? ⟨L.lb,1,none⟩=some (.pointer (some ⟨L.q.p,0,none⟩))∧w'.cell? ⟨L.tb,k*4+2,none⟩=some (.int .u32 (f.nd k))) (first|exact ⟨c1,n2⟩|exact ⟨d1,y2⟩) (first|(go_at_call 182;(with_reducible refine cG.mono ?_);rintro e w' ⟨rfl,rfl⟩)|(go_at_call 85;(with_reducible refine cA.mono ?_);intro e w2 hq;unfold AccPost at hq;obtain ⟨rfl,hP,hW⟩:=hq;have hA:=HE.out.2.2.drew.lk.ports hP hW;have hA3:=Fr.call HE.out.1 HE.out.2.2.drew hA (lf_q hW);have d1:=hA.raw.cell1;have d3:=hA.raw.cell3;obtain ⟨p',hp',y0,y1,y2,y3⟩:=hA.raw.place4 HE.out.2.1;rw [(show p'.nd=f.nd k from HN.out _ hp')] at y2;have hT:=HT0.out _ hA;have cD:=HD.out _ hA.raw.seat;have d0:=hA.raw.cell0;have z0:=hA.raw.tkz (k*4);have hA4:Fr w w.heap.size w2 L _ _:=⟨hT,hA3.wr,hA3.res,hA3.new⟩;obtain ⟨v0,v1,v2,v3⟩:=hA4.cell;obtain ⟨x0,x1,x2,x3⟩:=hA4.frz;have HT:=Lib.hid hA4;clear hA4 hT;clear hA hA3 hP hW hp'))
 go_wp2_with (first|(go_at_call 191;(with_reducible refine cD.mono ?_);rintro e w' ⟨rfl,rfl⟩))
 refine bodyPost_ret (v:=Dd.val ⟨0,false,false,false⟩) (results_cell_row rfl _ _ w.heap.size 102 _ (0,0) _ rfl (set4 HT.out.res rfl _ _ _ _) underlying102 rfl i_did) rfl (HT.out.told HE.out.1 ⟨0,false,false,false⟩)
theorem fl_lookD {w:World} {L:Lp} {f:FL} (h:LkAt w L f) (k:Nat) (hk:k<f.s.n) (u x:Int) (hs:f.s.st k=1) (hd:f.pc k=7) (hD:f.ps.D.length<4611686018427387904) (hv:tellS f.ps u 1 (L.sA (f.nd k))=0) (hq:¬ f.due k x) (hdn:f.s.dl k= -1):
  Calls prog 185 #[.pointer (some ⟨L.lb,0,none⟩),.int .i64 (k:Int),.int .i64 u,.int .i64 x] w (LmPost w L (f.acq L k u x) (upd f.s.st k (finS 1 (f.acqD L k u x).ev)) (f.acqD L k u x).val):=by
 have e1:f.acq L k u x={f with pc:=upd f.pc k 7,nd:=upd f.nd k (f.nd k),oth:=upd f.oth k (f.oth k),tr:=upd f.tr k (f.tr k),ps:=doS f.ps u 1 (L.sA (f.nd k)) 0 0}:=by unfold FL.acq;rw [if_neg (by omega),if_neg (by omega),if_neg (by omega),if_neg (by omega),if_neg (by omega),if_neg (by omega),if_pos hd,if_neg (λq=>q hv),if_neg hq,if_neg (λq=>q hv),upd_id f.nd k rfl,upd_id f.oth k rfl]
 have e2:f.acqD L k u x=Dd.no:=by unfold FL.acqD;rw [if_neg (by omega),if_neg (by omega),if_neg (by omega),if_neg (by omega),if_neg (by omega),if_neg (by omega),if_pos hd,if_neg (λq=>q hv)]
 rw [e1,e2]
 rw [show finS 1 (Dd.ev Dd.no)=1 from by decide]
 clear e1 e2
 have hF:=Fr.start h
 obtain ⟨Z,hZ⟩:∃ Z,Z=w.alloc (.cells #[.int .i64 0,.bool false,.bool false,.bool false] 102):=⟨_,rfl⟩
 rw [←hZ] at hF
 have hkI:(k:Int)<f.s.n:=by omega
 have c4:=hF.lk.raw.cell4
 obtain ⟨p,hp,t0,t1,t2,t3⟩:=hF.lk.raw.place4 hk
 rw [hs,hd] at hp
 rw [hd] at t0
 have n2:Z.drew.cell? ⟨L.tb,k*4+2,none⟩=some (.int .u32 (f.nd k)):=by rw [←hp.n0 (by decide)];exact t2
 have c1:=hF.drew.lk.raw.cell1
 have c3:=hF.drew.lk.raw.cell3
 rw [hZ] at c4 t0
 have cG:=fl_state hF.drew.lk (f.nd k) hp.nr
 have cA:=pload_any hF.drew.lk.port u (L.sA (f.nd k)) hD
 rw [hv] at cA
 have HT0:=Lib.hid (λ(W:World) (g:LkM W L {f with ps:=doS f.ps u 1 (L.sA (f.nd k)) 0 0} f.s.st)=>g.turn0 (g.raw.set0 k 1 7 (f.nd k) (f.oth k) (f.tr k) (λp hp=>by rw [hs,hd] at hp;exact hp)))
 have HD:RowKit.Hid (∀ W:World,SeatAt W L.p L.b f.s→Calls prog 191 #[.pointer (some ⟨L.p,0,none⟩),.int .i64 (k:Int)] W λe w'=>e= .returned (.int .i64 (f.s.dl k))∧W=w'):=Lib.hid (λW g=>by
  have:=se_deadline g (k:Int)
  unfold SS.dlI at this
  rw [if_pos (show 0≤(k:Int)∧(k:Int)<f.s.n by omega),Int.toNat_natCast,if_pos hs] at this
  exact this)
 have HN:=Lib.hid (λ(q:Pc) (hq:PlI (f.s.st k) (f.pc k) (f.nd k) (f.oth k) (f.tr k) f.ea q)=>hq.n0 (by omega))
 have HE:=Lib.hid (And.intro h (And.intro hk hF))
 clear h hF hs hd hp t1 t2 t3 hv hq
 rw [hdn] at HD
 clear hdn
 go_enter func185,ntmps185
 go_wp2
 rw [←hZ]
 clear hZ
 go_region_held3 (λw'=>w'.cell? ⟨L.lb,1,none⟩=some (.pointer (some ⟨L.q.p,0,none⟩))∧w'.cell? ⟨L.tb,k*4+2,none⟩=some (.int .u32 (f.nd k))) (first|exact ⟨c1,n2⟩|exact ⟨d1,y2⟩) (first|(go_at_call 182;(with_reducible refine cG.mono ?_);rintro e w' ⟨rfl,rfl⟩)|(go_at_call 85;(with_reducible refine cA.mono ?_);intro e w2 hq;unfold AccPost at hq;obtain ⟨rfl,hP,hW⟩:=hq;have hA:=HE.out.2.2.drew.lk.ports hP hW;have hA3:=Fr.call HE.out.1 HE.out.2.2.drew hA (lf_q hW);have d1:=hA.raw.cell1;have d3:=hA.raw.cell3;obtain ⟨p',hp',y0,y1,y2,y3⟩:=hA.raw.place4 HE.out.2.1;rw [(show p'.nd=f.nd k from HN.out _ hp')] at y2;have hT:=HT0.out _ hA;have cD:=HD.out _ hA.raw.seat;have d0:=hA.raw.cell0;have z0:=hA.raw.tkz (k*4);have hA4:Fr w w.heap.size w2 L _ _:=⟨hT,hA3.wr,hA3.res,hA3.new⟩;obtain ⟨v0,v1,v2,v3⟩:=hA4.cell;obtain ⟨x0,x1,x2,x3⟩:=hA4.frz;have HT:=Lib.hid hA4;clear hA4 hT;clear hA hA3 hP hW hp'))
 go_wp2_with (first|(go_at_call 191;(with_reducible refine cD.mono ?_);rintro e w' ⟨rfl,rfl⟩))
 refine bodyPost_ret (v:=Dd.val ⟨0,false,false,false⟩) (results_cell_row rfl _ _ w.heap.size 102 _ (0,0) _ rfl (set4 HT.out.res rfl _ _ _ _) underlying102 rfl i_did) rfl (HT.out.told HE.out.1 ⟨0,false,false,false⟩)
theorem fl_look {w:World} {L:Lp} {f:FL} (h:LkAt w L f) (k:Nat) (hk:k<f.s.n) (u x:Int) (hs:f.s.st k=1) (hd:f.pc k=7) (hD:f.ps.D.length<4611686018427387904):
  Calls prog 185 #[.pointer (some ⟨L.lb,0,none⟩),.int .i64 (k:Int),.int .i64 u,.int .i64 x] w (LmPost w L (f.acq L k u x) (upd f.s.st k (finS 1 (f.acqD L k u x).ev)) (f.acqD L k u x).val):=by
 by_cases hv:tellS f.ps u 1 (L.sA (f.nd k))=0
 ·by_cases hq:f.due k x
  ·exact fl_lookB h k hk u x hs hd hD hv hq
  ·by_cases hdn:f.s.dl k= -1
   ·exact fl_lookD h k hk u x hs hd hD hv hq hdn
   ·exact fl_lookC h k hk u x hs hd hD hv hq hdn
 ·exact fl_lookA h k hk u x hs hd hD hv
theorem fl_giveA {w:World} {L:Lp} {f:FL} (h:LkAt w L f) (k:Nat) (hk:k<f.s.n) (u x:Int) (hs:f.s.st k=1) (hd:f.pc k=8) (hD:f.ps.D.length<4611686018427387904) (hv:casT f.ps u (L.sA (f.nd k)) 0=true):
  Calls prog 186 #[.pointer (some ⟨L.lb,0,none⟩),.int .i64 (k:Int),.int .i64 u] w (LmPost w L (f.acq L k u x) (upd f.s.st k (finS 1 (f.acqD L k u x).ev)) (f.acqD L k u x).val):=by
 have e1:f.acq L k u x={f with pc:=upd f.pc k 1,nd:=upd f.nd k (f.nd k),oth:=upd f.oth k (f.oth k),tr:=upd f.tr k 0,ps:=doS f.ps u 4 (L.sA (f.nd k)) 0 2}:=by unfold FL.acq;rw [if_neg (by omega),if_neg (by omega),if_neg (by omega),if_neg (by omega),if_neg (by omega),if_neg (by omega),if_neg (by omega),upd_id f.nd k rfl,upd_id f.oth k rfl]
 have e2:f.acqD L k u x=⟨2,false,false,false⟩:=by unfold FL.acqD;rw [if_neg (by omega),if_neg (by omega),if_neg (by omega),if_neg (by omega),if_neg (by omega),if_neg (by omega),if_neg (by omega),if_pos hv]
 rw [e1,e2]
 rw [show finS 1 (Dd.ev ⟨2,false,false,false⟩)=0 from by decide]
 clear e1 e2
 have hF:=Fr.start h
 obtain ⟨Z,hZ⟩:∃ Z,Z=w.alloc (.cells #[.int .i64 0,.bool false,.bool false,.bool false] 102):=⟨_,rfl⟩
 rw [←hZ] at hF
 have hkI:(k:Int)<f.s.n:=by omega
 have c4:=hF.lk.raw.cell4
 obtain ⟨p,hp,t0,t1,t2,t3⟩:=hF.lk.raw.place4 hk
 rw [hs,hd] at hp
 rw [hd] at t0
 have n2:Z.drew.cell? ⟨L.tb,k*4+2,none⟩=some (.int .u32 (f.nd k)):=by rw [←hp.n0 (by decide)];exact t2
 have c1:=hF.drew.lk.raw.cell1
 have c3:=hF.drew.lk.raw.cell3
 rw [hZ] at c4 t0
 have cG:=fl_state hF.drew.lk (f.nd k) hp.nr
 have cA:=pcas_any hF.drew.lk.port u (L.sA (f.nd k)) 0 2 (by decide) (by decide) hD
 change Calls _ _ _ _ (AccPost _ _ _ (.bool (casT f.ps u (L.sA (f.nd k)) 0)) _) at cA
 rw [hv] at cA
 have HC:=Lib.hid (λ(W:World) (g:LkM W L {f with ps:=doS f.ps u 4 (L.sA (f.nd k)) 0 2} f.s.st)=>fl_ends g k hk (f.nd k) hp.nr 2)
 have HN:=Lib.hid (λ(q:Pc) (hq:PlI (f.s.st k) (f.pc k) (f.nd k) (f.oth k) (f.tr k) f.ea q)=>hq.n0 (by omega))
 have HE:=Lib.hid (And.intro h (And.intro hk hF))
 clear h hF hs hd hp t1 t2 t3 hv
 go_enter func186,ntmps186
 go_wp2
 rw [←hZ]
 clear hZ
 go_region_held3 (λw'=>w'.cell? ⟨L.lb,1,none⟩=some (.pointer (some ⟨L.q.p,0,none⟩))∧w'.cell? ⟨L.tb,k*4+2,none⟩=some (.int .u32 (f.nd k))) (first|exact ⟨c1,n2⟩|exact ⟨d1,y2⟩) (first|(go_at_call 182;(with_reducible refine cG.mono ?_);rintro e w' ⟨rfl,rfl⟩)|(go_at_call 171;(with_reducible refine cA.mono ?_);intro e w2 hq;unfold AccPost at hq;obtain ⟨rfl,hP,hW⟩:=hq;have hA:=HE.out.2.2.drew.lk.ports hP hW;have hA3:=Fr.call HE.out.1 HE.out.2.2.drew hA (lf_q hW);have d1:=hA.raw.cell1;have d3:=hA.raw.cell3;obtain ⟨p',hp',y0,y1,y2,y3⟩:=hA.raw.place4 HE.out.2.1;rw [(show p'.nd=f.nd k from HN.out _ hp')] at y2;have HA:=Lib.hid hA3;have cE:=HC.out _ hA;clear hA hA3 hP hW hp'))
 go_wp2_with (first|(go_at_call 188;(with_reducible refine cE.mono ?_);intro e w3 hq;unfold LmPost at hq;obtain ⟨rfl,hB,hW2⟩:=hq;dsimp only [Dd.val];have hB3:=Fr.call HE.out.1 HA.out hB hW2;obtain ⟨v0,v1,v2,v3⟩:=hB3.cell;obtain ⟨x0,x1,x2,x3⟩:=hB3.frz;have HT:=Lib.hid hB3;clear hB hB3 hW2))
 refine bodyPost_ret (v:=Dd.val ⟨2,false,false,false⟩) (results_cell_row rfl _ _ w.heap.size 102 _ (0,0) _ rfl (set4 HT.out.res rfl _ _ _ _) underlying102 rfl i_did) rfl (HT.out.told HE.out.1 ⟨2,false,false,false⟩)
theorem fl_giveB {w:World} {L:Lp} {f:FL} (h:LkAt w L f) (k:Nat) (hk:k<f.s.n) (u x:Int) (hs:f.s.st k=1) (hd:f.pc k=8) (hD:f.ps.D.length<4611686018427387904) (hv:casT f.ps u (L.sA (f.nd k)) 0=false):
  Calls prog 186 #[.pointer (some ⟨L.lb,0,none⟩),.int .i64 (k:Int),.int .i64 u] w (LmPost w L (f.acq L k u x) (upd f.s.st k (finS 1 (f.acqD L k u x).ev)) (f.acqD L k u x).val):=by
 have e1:f.acq L k u x={f with pc:=upd f.pc k 1,nd:=upd f.nd k (f.nd k),oth:=upd f.oth k (f.oth k),tr:=upd f.tr k 0,ps:=doS f.ps u 4 (L.sA (f.nd k)) 0 2}:=by unfold FL.acq;rw [if_neg (by omega),if_neg (by omega),if_neg (by omega),if_neg (by omega),if_neg (by omega),if_neg (by omega),if_neg (by omega),upd_id f.nd k rfl,upd_id f.oth k rfl]
 have e2:f.acqD L k u x=⟨1,false,false,false⟩:=by unfold FL.acqD;rw [if_neg (by omega),if_neg (by omega),if_neg (by omega),if_neg (by omega),if_neg (by omega),if_neg (by omega),if_neg (by omega),if_neg (by rw [hv];decide)]
 rw [e1,e2]
 rw [show finS 1 (Dd.ev ⟨1,false,false,false⟩)=2 from by decide]
 clear e1 e2
 have hF:=Fr.start h
 obtain ⟨Z,hZ⟩:∃ Z,Z=w.alloc (.cells #[.int .i64 0,.bool false,.bool false,.bool false] 102):=⟨_,rfl⟩
 rw [←hZ] at hF
 have hkI:(k:Int)<f.s.n:=by omega
 have c4:=hF.lk.raw.cell4
 obtain ⟨p,hp,t0,t1,t2,t3⟩:=hF.lk.raw.place4 hk
 rw [hs,hd] at hp
 rw [hd] at t0
 have n2:Z.drew.cell? ⟨L.tb,k*4+2,none⟩=some (.int .u32 (f.nd k)):=by rw [←hp.n0 (by decide)];exact t2
 have c1:=hF.drew.lk.raw.cell1
 have c3:=hF.drew.lk.raw.cell3
 rw [hZ] at c4 t0
 have cG:=fl_state hF.drew.lk (f.nd k) hp.nr
 have cA:=pcas_any hF.drew.lk.port u (L.sA (f.nd k)) 0 2 (by decide) (by decide) hD
 change Calls _ _ _ _ (AccPost _ _ _ (.bool (casT f.ps u (L.sA (f.nd k)) 0)) _) at cA
 rw [hv] at cA
 have HC:=Lib.hid (λ(W:World) (g:LkM W L {f with ps:=doS f.ps u 4 (L.sA (f.nd k)) 0 2} f.s.st)=>fl_has g k hk (show f.pc k≠1 by omega) (f.oth k) hp.orr)
 have HN:=Lib.hid (λ(q:Pc) (hq:PlI (f.s.st k) (f.pc k) (f.nd k) (f.oth k) (f.tr k) f.ea q)=>hq.n0 (by omega))
 have HE:=Lib.hid (And.intro h (And.intro hk hF))
 clear h hF hs hd hp t1 t2 t3 hv
 go_enter func186,ntmps186
 go_wp2
 rw [←hZ]
 clear hZ
 go_region_held3 (λw'=>w'.cell? ⟨L.lb,1,none⟩=some (.pointer (some ⟨L.q.p,0,none⟩))∧w'.cell? ⟨L.tb,k*4+2,none⟩=some (.int .u32 (f.nd k))) (first|exact ⟨c1,n2⟩|exact ⟨d1,y2⟩) (first|(go_at_call 182;(with_reducible refine cG.mono ?_);rintro e w' ⟨rfl,rfl⟩)|(go_at_call 171;(with_reducible refine cA.mono ?_);intro e w2 hq;unfold AccPost at hq;obtain ⟨rfl,hP,hW⟩:=hq;have hA:=HE.out.2.2.drew.lk.ports hP hW;have hA3:=Fr.call HE.out.1 HE.out.2.2.drew hA (lf_q hW);have d1:=hA.raw.cell1;have d3:=hA.raw.cell3;obtain ⟨p',hp',y0,y1,y2,y3⟩:=hA.raw.place4 HE.out.2.1;rw [(show p'.nd=f.nd k from HN.out _ hp')] at y2;have HA:=Lib.hid hA3;have cE:=HC.out _ hA;clear hA hA3 hP hW hp'))
 go_wp2_with (first|(go_at_call 190;(with_reducible refine cE.mono ?_);intro e w3 hq;unfold LmPost at hq;obtain ⟨rfl,hB,hW2⟩:=hq;dsimp only [Dd.val];have hB3:=Fr.call HE.out.1 HA.out hB hW2;obtain ⟨v0,v1,v2,v3⟩:=hB3.cell;obtain ⟨x0,x1,x2,x3⟩:=hB3.frz;have HT:=Lib.hid hB3;clear hB hB3 hW2))
 refine bodyPost_ret (v:=Dd.val ⟨1,false,false,false⟩) (results_cell_row rfl _ _ w.heap.size 102 _ (0,0) _ rfl (set4 HT.out.res rfl _ _ _ _) underlying102 rfl i_did) rfl (HT.out.told HE.out.1 ⟨1,false,false,false⟩)
theorem fl_give {w:World} {L:Lp} {f:FL} (h:LkAt w L f) (k:Nat) (hk:k<f.s.n) (u x:Int) (hs:f.s.st k=1) (hd:f.pc k=8) (hD:f.ps.D.length<4611686018427387904):
  Calls prog 186 #[.pointer (some ⟨L.lb,0,none⟩),.int .i64 (k:Int),.int .i64 u] w (LmPost w L (f.acq L k u x) (upd f.s.st k (finS 1 (f.acqD L k u x).ev)) (f.acqD L k u x).val):=by
 cases hv:casT f.ps u (L.sA (f.nd k)) 0
 ·exact fl_giveB h k hk u x hs hd hD hv
 ·exact fl_giveA h k hk u x hs hd hD hv
end Go.Proofs.YtmnephejhkfchaaGreat.Ka

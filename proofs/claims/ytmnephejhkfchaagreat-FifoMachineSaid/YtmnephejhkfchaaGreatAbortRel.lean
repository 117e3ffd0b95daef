import Derived.Test.YtmnephejhkfchaaGreatAbortAcq
namespace Go.Proofs.YtmnephejhkfchaaGreat.Ka
set_option maxHeartbeats 8000000
open _root_.Go.Proofs.Tryz
open Go.RowKit Go.BigFrame
set_option linter.unusedVariables false
set_option maxRecDepth 100000
theorem fl_rel1 {w:World} {L:Lp} {f:FL} (h:LkAt w L f) (k:Nat) (hk:k<f.s.n) (u:Int) (hs:f.s.st k=3) (hd:f.pc k=1) (hD:f.ps.D.length<4611686018427387904):
  Calls prog 179 #[.pointer (some ⟨L.lb,0,none⟩),.int .i64 (k:Int),.int .i64 u] w (LmPost w L (f.rel L k u) (upd f.s.st k (finS 3 (f.relD k).ev)) (f.relD k).val):=by
 have e1:f.rel L k u={f with pc:=upd f.pc k (if tellS f.ps u 1 (L.nA (f.nd k))=0 then 2 else 4),nd:=upd f.nd k (f.nd k),oth:=upd f.oth k (tellS f.ps u 1 (L.nA (f.nd k))),tr:=upd f.tr k (f.tr k),ps:=doS f.ps u 1 (L.nA (f.nd k)) 0 0}:=by unfold FL.rel;rw [if_pos hd,upd_id f.nd k rfl,upd_id f.tr k rfl]
 have e2:f.relD k=Dd.no:=by unfold FL.relD;rw [if_pos (by omega)]
 rw [e1,e2]
 rw [show finS 3 (Dd.ev Dd.no)=3 from by decide]
 clear e1 e2
 have hF:=Fr.start h
 obtain ⟨Z,hZ⟩:∃ Z,Z=w.alloc (.cells #[.int .i64 0,.bool false,.bool false,.bool false] 102):=⟨_,rfl⟩
 rw [←hZ] at hF
 have hkI:(k:Int)<f.s.n:=by omega
 have c4:=hF.lk.raw.cell4
 obtain ⟨p,hp,t0,t1,t2,t3⟩:=hF.lk.raw.place4 hk
 rw [hs,hd] at hp
 rw [hd] at t0
 have n2:Z.drew.cell? ⟨L.tb,k*4+2,none⟩=some (.int .u32 (f.nd k)):=by rw [←hp.n1 (.inr rfl)];exact t2
 have c1:=hF.drew.lk.raw.cell1
 have c3:=hF.drew.lk.raw.cell3
 rw [hZ] at c4 t0
 have cG:=fl_next hF.drew.lk (f.nd k) hp.nr
 have cA:=pload_any hF.drew.lk.port u (L.nA (f.nd k)) hD
 have hT0:=h.tell u 1 (L.nA (f.nd k))
 generalize tellS f.ps u 1 (L.nA (f.nd k))=v at*
 obtain ⟨g,hg⟩:∃ g:FL,g={f with pc:=upd f.pc k (if v=0 then 2 else 4),nd:=upd f.nd k (f.nd k),oth:=upd f.oth k v,tr:=upd f.tr k (f.tr k),ps:=doS f.ps u 1 (L.nA (f.nd k)) 0 0}:=⟨_,rfl⟩
 obtain ⟨σ',hσ⟩:∃ σ':Nat→Int,σ'=upd f.s.st k 3:=⟨_,rfl⟩
 rw [←hg,←hσ]
 have HC:RowKit.Hid (∀ W:World,LkM W L {f with ps:=doS f.ps u 1 (L.nA (f.nd k)) 0 0} f.s.st→Calls prog 187 #[.pointer (some ⟨L.tb,k*4,none⟩),.int .u32 v] W (FiPost W L g σ')):=Lib.hid (λW q=>by
  rw [hg,hσ];exact fl_finds q k hk hs 2 (.inl ⟨hd,rfl⟩) v hT0)
 have HN:=Lib.hid (λ(q:Pc) (hq:PlI (f.s.st k) (f.pc k) (f.nd k) (f.oth k) (f.tr k) f.ea q)=>hq.n1 (.inr hs))
 have HQ:RowKit.Hid (k<g.s.n∧∀ q:Pc,PlI (σ' k) (g.pc k) (g.nd k) (g.oth k) (g.tr k) g.ea q→q.nd=f.nd k):=Lib.hid (by
  rw [hg,hσ]
  refine ⟨hk,λq hq=> ?_⟩
  have:=hq.n1 (.inr (upd_same _ _ _))
  rw [this]
  exact upd_same _ _ _)
 have HE:=Lib.hid (And.intro h (And.intro hk hF))
 clear h hF hs hd hp t1 t2 t3 hT0 hg hσ
 go_enter func179,ntmps179
 go_wp2
 rw [←hZ]
 clear hZ
 go_region_held3 (λw'=>w'.cell? ⟨L.lb,1,none⟩=some (.pointer (some ⟨L.q.p,0,none⟩))∧w'.cell? ⟨L.tb,k*4+2,none⟩=some (.int .u32 (f.nd k))) (first|with_reducible exact ⟨d1,y2⟩|with_reducible exact ⟨q1,q2⟩|exact ⟨c1,n2⟩) (first|(go_at_call 183;(with_reducible refine cG.mono ?_);rintro e w' ⟨rfl,rfl⟩)|(go_at_call 85;(with_reducible refine cA.mono ?_);intro e w2 hq;unfold AccPost at hq;obtain ⟨rfl,hP,hW⟩:=hq;have hA:=HE.out.2.2.drew.lk.ports hP hW;have hA3:=Fr.call HE.out.1 HE.out.2.2.drew hA (lf_q hW);have d1:=hA.raw.cell1;have d3:=hA.raw.cell3;obtain ⟨p',hp',y0,y1,y2,y3⟩:=hA.raw.place4 HE.out.2.1;rw [(show p'.nd=f.nd k from HN.out _ hp')] at y2;have HA:=Lib.hid hA3;have cE:=HC.out _ hA;clear hA hA3 hP hW hp')|(go_at_call 187;(with_reducible refine cE.mono ?_);intro e w3 hq;unfold FiPost at hq;obtain ⟨rfl,hB,hW2⟩:=hq;have hB3:=Fr.call HE.out.1 HA.out hB hW2;have q1:=hB.raw.cell1;obtain ⟨pB,hpB,_,_,q2,_⟩:=hB.raw.place4 HQ.out.1;rw [HQ.out.2 pB hpB] at q2;obtain ⟨v0,v1,v2,v3⟩:=hB3.cell;obtain ⟨x0,x1,x2,x3⟩:=hB3.frz;have HT:=Lib.hid hB3;clear hB hB3 hW2 hpB))
 go_wp2
 refine bodyPost_ret (v:=Dd.val ⟨0,false,false,false⟩) (results_cell_row rfl _ _ w.heap.size 102 _ (0,0) _ rfl (set4 HT.out.res rfl _ _ _ _) underlying102 rfl i_did) rfl (HT.out.told HE.out.1 ⟨0,false,false,false⟩)
theorem fl_rel3 {w:World} {L:Lp} {f:FL} (h:LkAt w L f) (k:Nat) (hk:k<f.s.n) (u:Int) (hs:f.s.st k=3) (hd:f.pc k=3) (hD:f.ps.D.length<4611686018427387904):
  Calls prog 179 #[.pointer (some ⟨L.lb,0,none⟩),.int .i64 (k:Int),.int .i64 u] w (LmPost w L (f.rel L k u) (upd f.s.st k (finS 3 (f.relD k).ev)) (f.relD k).val):=by
 have e1:f.rel L k u={f with pc:=upd f.pc k (if tellS f.ps u 1 (L.nA (f.nd k))=0 then 3 else 4),nd:=upd f.nd k (f.nd k),oth:=upd f.oth k (tellS f.ps u 1 (L.nA (f.nd k))),tr:=upd f.tr k (f.tr k),ps:=doS f.ps u 1 (L.nA (f.nd k)) 0 0}:=by unfold FL.rel;rw [if_neg (by omega),if_neg (by omega),if_pos hd,upd_id f.nd k rfl,upd_id f.tr k rfl]
 have e2:f.relD k=Dd.no:=by unfold FL.relD;rw [if_pos (by omega)]
 rw [e1,e2]
 rw [show finS 3 (Dd.ev Dd.no)=3 from by decide]
 clear e1 e2
 have hF:=Fr.start h
 obtain ⟨Z,hZ⟩:∃ Z,Z=w.alloc (.cells #[.int .i64 0,.bool false,.bool false,.bool false] 102):=⟨_,rfl⟩
 rw [←hZ] at hF
 have hkI:(k:Int)<f.s.n:=by omega
 have c4:=hF.lk.raw.cell4
 obtain ⟨p,hp,t0,t1,t2,t3⟩:=hF.lk.raw.place4 hk
 rw [hs,hd] at hp
 rw [hd] at t0
 have n2:Z.drew.cell? ⟨L.tb,k*4+2,none⟩=some (.int .u32 (f.nd k)):=by rw [←hp.n1 (.inr rfl)];exact t2
 have c1:=hF.drew.lk.raw.cell1
 have c3:=hF.drew.lk.raw.cell3
 rw [hZ] at c4 t0
 have cG:=fl_next hF.drew.lk (f.nd k) hp.nr
 have cA:=pload_any hF.drew.lk.port u (L.nA (f.nd k)) hD
 have hT0:=h.tell u 1 (L.nA (f.nd k))
 generalize tellS f.ps u 1 (L.nA (f.nd k))=v at*
 obtain ⟨g,hg⟩:∃ g:FL,g={f with pc:=upd f.pc k (if v=0 then 3 else 4),nd:=upd f.nd k (f.nd k),oth:=upd f.oth k v,tr:=upd f.tr k (f.tr k),ps:=doS f.ps u 1 (L.nA (f.nd k)) 0 0}:=⟨_,rfl⟩
 obtain ⟨σ',hσ⟩:∃ σ':Nat→Int,σ'=upd f.s.st k 3:=⟨_,rfl⟩
 rw [←hg,←hσ]
 have HC:RowKit.Hid (∀ W:World,LkM W L {f with ps:=doS f.ps u 1 (L.nA (f.nd k)) 0 0} f.s.st→Calls prog 187 #[.pointer (some ⟨L.tb,k*4,none⟩),.int .u32 v] W (FiPost W L g σ')):=Lib.hid (λW q=>by
  rw [hg,hσ];exact fl_finds q k hk hs 3 (.inr ⟨hd,rfl⟩) v hT0)
 have HN:=Lib.hid (λ(q:Pc) (hq:PlI (f.s.st k) (f.pc k) (f.nd k) (f.oth k) (f.tr k) f.ea q)=>hq.n1 (.inr hs))
 have HQ:RowKit.Hid (k<g.s.n∧∀ q:Pc,PlI (σ' k) (g.pc k) (g.nd k) (g.oth k) (g.tr k) g.ea q→q.nd=f.nd k):=Lib.hid (by
  rw [hg,hσ]
  refine ⟨hk,λq hq=> ?_⟩
  have:=hq.n1 (.inr (upd_same _ _ _))
  rw [this]
  exact upd_same _ _ _)
 have HE:=Lib.hid (And.intro h (And.intro hk hF))
 clear h hF hs hd hp t1 t2 t3 hT0 hg hσ
 go_enter func179,ntmps179
 go_wp2
 rw [←hZ]
 clear hZ
 go_region_held3 (λw'=>w'.cell? ⟨L.lb,1,none⟩=some (.pointer (some ⟨L.q.p,0,none⟩))∧w'.cell? ⟨L.tb,k*4+2,none⟩=some (.int .u32 (f.nd k))) (first|with_reducible exact ⟨d1,y2⟩|with_reducible exact ⟨q1,q2⟩|exact ⟨c1,n2⟩) (first|(go_at_call 183;(with_reducible refine cG.mono ?_);rintro e w' ⟨rfl,rfl⟩)|(go_at_call 85;(with_reducible refine cA.mono ?_);intro e w2 hq;unfold AccPost at hq;obtain ⟨rfl,hP,hW⟩:=hq;have hA:=HE.out.2.2.drew.lk.ports hP hW;have hA3:=Fr.call HE.out.1 HE.out.2.2.drew hA (lf_q hW);have d1:=hA.raw.cell1;have d3:=hA.raw.cell3;obtain ⟨p',hp',y0,y1,y2,y3⟩:=hA.raw.place4 HE.out.2.1;rw [(show p'.nd=f.nd k from HN.out _ hp')] at y2;have HA:=Lib.hid hA3;have cE:=HC.out _ hA;clear hA hA3 hP hW hp')|(go_at_call 187;(with_reducible refine cE.mono ?_);intro e w3 hq;unfold FiPost at hq;obtain ⟨rfl,hB,hW2⟩:=hq;have hB3:=Fr.call HE.out.1 HA.out hB hW2;have q1:=hB.raw.cell1;obtain ⟨pB,hpB,_,_,q2,_⟩:=hB.raw.place4 HQ.out.1;rw [HQ.out.2 pB hpB] at q2;obtain ⟨v0,v1,v2,v3⟩:=hB3.cell;obtain ⟨x0,x1,x2,x3⟩:=hB3.frz;have HT:=Lib.hid hB3;clear hB hB3 hW2 hpB))
 go_wp2
 refine bodyPost_ret (v:=Dd.val ⟨0,false,false,false⟩) (results_cell_row rfl _ _ w.heap.size 102 _ (0,0) _ rfl (set4 HT.out.res rfl _ _ _ _) underlying102 rfl i_did) rfl (HT.out.told HE.out.1 ⟨0,false,false,false⟩)
theorem fl_rel2A {w:World} {L:Lp} {f:FL} (h:LkAt w L f) (k:Nat) (hk:k<f.s.n) (u:Int) (hs:f.s.st k=3) (hd:f.pc k=2) (hD:f.ps.D.length<4611686018427387904) (hv:casT f.ps u L.a1 (f.nd k)=true):
  Calls prog 179 #[.pointer (some ⟨L.lb,0,none⟩),.int .i64 (k:Int),.int .i64 u] w (LmPost w L (f.rel L k u) (upd f.s.st k (finS 3 (f.relD k).ev)) (f.relD k).val):=by
 have e1:f.rel L k u={f with pc:=upd f.pc k 6,nd:=upd f.nd k (f.nd k),oth:=upd f.oth k (f.oth k),tr:=upd f.tr k (f.tr k),ps:=doS f.ps u 4 L.a1 (f.nd k) 0}:=by unfold FL.rel;rw [if_neg (by omega),if_pos hd,if_pos hv,upd_id f.nd k rfl,upd_id f.oth k rfl,upd_id f.tr k rfl]
 have e2:f.relD k=Dd.no:=by unfold FL.relD;rw [if_pos (by omega)]
 rw [e1,e2]
 rw [show finS 3 (Dd.ev Dd.no)=3 from by decide]
 clear e1 e2
 have hF:=Fr.start h
 obtain ⟨Z,hZ⟩:∃ Z,Z=w.alloc (.cells #[.int .i64 0,.bool false,.bool false,.bool false] 102):=⟨_,rfl⟩
 rw [←hZ] at hF
 have hkI:(k:Int)<f.s.n:=by omega
 have c4:=hF.lk.raw.cell4
 obtain ⟨p,hp,t0,t1,t2,t3⟩:=hF.lk.raw.place4 hk
 rw [hs,hd] at hp
 rw [hd] at t0
 rw [hZ] at c4 t0
 have z0:=hF.lk.raw.tkz (k*4)
 have hT:=hF.lk.turns (hF.lk.raw.set1 k 3 3 (f.nd k) (f.oth k) (f.tr k) (λp hp=>by rw [hs,hd] at hp;exact hp.nextU (by decide) (by omega)) 2 rfl)
 have hF3:=Fr.call h hF hT.1 (lf_t hT.2)
 obtain ⟨Y,hY⟩:∃ Y,Y=Z.setCell ⟨L.tb,k*4,none⟩ (.int .i64 2):=⟨_,rfl⟩
 rw [←hY] at hF3
 rw [hZ] at z0
 have hk3:k<({f with pc:=upd f.pc k 3,nd:=upd f.nd k (f.nd k),oth:=upd f.oth k (f.oth k),tr:=upd f.tr k (f.tr k)}:FL).s.n:=hk
 obtain ⟨q,hq,u0,u1,u2,u3⟩:=hF3.drew.lk.raw.place4 hk3
 have HN:=Lib.hid (λ(q:Pc) (hq:PlI (upd f.s.st k 3 k) (upd f.pc k 3 k) (upd f.nd k (f.nd k) k) (upd f.oth k (f.oth k) k) (upd f.tr k (f.tr k) k) f.ea q)=>(show q.nd=f.nd k by have:=hq.n1 (.inr (upd_same _ _ _));rw [upd_same] at this;exact this))
 have HO:=Lib.hid (λ(q:Pc) (hq:PlI (upd f.s.st k 3 k) (upd f.pc k 3 k) (upd f.nd k (f.nd k) k) (upd f.oth k (f.oth k) k) (upd f.tr k (f.tr k) k) f.ea q)=>(trivial))
 rw [HN.out q hq] at u2
 skip
 have c1:=hF3.drew.lk.raw.cell1
 have c3:=hF3.drew.lk.raw.cell3
 skip
 have cA:=pcas_any hF3.drew.lk.port u L.a1 (f.nd k) 0 (by decide) (by decide) hD
 change Calls _ _ _ _ (AccPost _ _ _ (.bool (casT f.ps u L.a1 (f.nd k))) _) at cA
 rw [hv] at cA
 have HT0:RowKit.Hid (∀ W:World,LkM W L {f with pc:=upd f.pc k 3,nd:=upd f.nd k (f.nd k),oth:=upd f.oth k (f.oth k),tr:=upd f.tr k (f.tr k),ps:=doS f.ps u 4 L.a1 (f.nd k) 0} (upd f.s.st k 3)→LkM (W.setCell ⟨L.tb,k*4,none⟩ (.int .i64 5)) L {f with pc:=upd f.pc k 6,nd:=upd f.nd k (f.nd k),oth:=upd f.oth k (f.oth k),tr:=upd f.tr k (f.tr k),ps:=doS f.ps u 4 L.a1 (f.nd k) 0} (upd f.s.st k 3)∧Wr (One L.tb) W (W.setCell ⟨L.tb,k*4,none⟩ (.int .i64 5))):=Lib.hid (λW g=>by
  have:=g.turns (g.raw.set1 k 3 6 (f.nd k) (f.oth k) (f.tr k) (λp hp=>by dsimp only at hp;simp only [upd_same] at hp;exact hp.nextU (by decide) (by omega)) 5 rfl)
  simpa only [upd_upd] using this)
 have HE:=Lib.hid (And.intro h (And.intro hk3 hF3))
 clear h hF hs hd hp t1 t2 t3 hT hF3 hq u0 u1 u3 hv
 go_enter func179,ntmps179
 go_wp2
 rw [←hZ,←hY]
 clear hZ hY
 go_region_held3 (λw'=>w'.cell? ⟨L.lb,1,none⟩=some (.pointer (some ⟨L.q.p,0,none⟩))∧w'.cell? ⟨L.lb,3,none⟩=some (.int .i64 L.a1)∧w'.cell? ⟨L.tb,k*4+2,none⟩=some (.int .u32 (f.nd k))) (first|exact ⟨c1,c3,u2⟩|exact ⟨d1,d3,y2⟩) (first|(go_at_call 171;(with_reducible refine cA.mono ?_);intro e w2 hq;unfold AccPost at hq;obtain ⟨rfl,hP,hW⟩:=hq;have hA:=HE.out.2.2.drew.lk.ports hP hW;have hA3:=Fr.call HE.out.1 HE.out.2.2.drew hA (lf_q hW);have d1:=hA.raw.cell1;have d3:=hA.raw.cell3;obtain ⟨p',hp',y0,y1,y2,y3⟩:=hA.raw.place4 HE.out.2.1;rw [(show p'.nd=f.nd k from HN.out _ hp')] at y2;have z0:=hA.raw.tkz (k*4);have hT:=HT0.out _ hA;have hA4:=Fr.call HE.out.1 hA3 hT.1 (lf_t hT.2);obtain ⟨v0,v1,v2,v3⟩:=hA4.cell;obtain ⟨x0,x1,x2,x3⟩:=hA4.frz;have HT:=Lib.hid hA4;clear hA4 hT;clear hA hA3 hP hW hp'))
 go_wp2
 refine bodyPost_ret (v:=Dd.val ⟨0,false,false,false⟩) (results_cell_row rfl _ _ w.heap.size 102 _ (0,0) _ rfl (set4 HT.out.res rfl _ _ _ _) underlying102 rfl i_did) rfl (HT.out.told HE.out.1 ⟨0,false,false,false⟩)
theorem fl_rel2B {w:World} {L:Lp} {f:FL} (h:LkAt w L f) (k:Nat) (hk:k<f.s.n) (u:Int) (hs:f.s.st k=3) (hd:f.pc k=2) (hD:f.ps.D.length<4611686018427387904) (hv:casT f.ps u L.a1 (f.nd k)=false):
  Calls prog 179 #[.pointer (some ⟨L.lb,0,none⟩),.int .i64 (k:Int),.int .i64 u] w (LmPost w L (f.rel L k u) (upd f.s.st k (finS 3 (f.relD k).ev)) (f.relD k).val):=by
 have e1:f.rel L k u={f with pc:=upd f.pc k 3,nd:=upd f.nd k (f.nd k),oth:=upd f.oth k (f.oth k),tr:=upd f.tr k (f.tr k),ps:=doS f.ps u 4 L.a1 (f.nd k) 0}:=by unfold FL.rel;rw [if_neg (by omega),if_pos hd,if_neg (by rw [hv];decide),upd_id f.nd k rfl,upd_id f.oth k rfl,upd_id f.tr k rfl]
 have e2:f.relD k=Dd.no:=by unfold FL.relD;rw [if_pos (by omega)]
 rw [e1,e2]
 rw [show finS 3 (Dd.ev Dd.no)=3 from by decide]
 clear e1 e2
 have hF:=Fr.start h
 obtain ⟨Z,hZ⟩:∃ Z,Z=w.alloc (.cells #[.int .i64 0,.bool false,.bool false,.bool false] 102):=⟨_,rfl⟩
 rw [←hZ] at hF
 have hkI:(k:Int)<f.s.n:=by omega
 have c4:=hF.lk.raw.cell4
 obtain ⟨p,hp,t0,t1,t2,t3⟩:=hF.lk.raw.place4 hk
 rw [hs,hd] at hp
 rw [hd] at t0
 rw [hZ] at c4 t0
 have z0:=hF.lk.raw.tkz (k*4)
 have hT:=hF.lk.turns (hF.lk.raw.set1 k 3 3 (f.nd k) (f.oth k) (f.tr k) (λp hp=>by rw [hs,hd] at hp;exact hp.nextU (by decide) (by omega)) 2 rfl)
 have hF3:=Fr.call h hF hT.1 (lf_t hT.2)
 obtain ⟨Y,hY⟩:∃ Y,Y=Z.setCell ⟨L.tb,k*4,none⟩ (.int .i64 2):=⟨_,rfl⟩
 rw [←hY] at hF3
 rw [hZ] at z0
 have hk3:k<({f with pc:=upd f.pc k 3,nd:=upd f.nd k (f.nd k),oth:=upd f.oth k (f.oth k),tr:=upd f.tr k (f.tr k)}:FL).s.n:=hk
 obtain ⟨q,hq,u0,u1,u2,u3⟩:=hF3.drew.lk.raw.place4 hk3
 have HN:=Lib.hid (λ(q:Pc) (hq:PlI (upd f.s.st k 3 k) (upd f.pc k 3 k) (upd f.nd k (f.nd k) k) (upd f.oth k (f.oth k) k) (upd f.tr k (f.tr k) k) f.ea q)=>(show q.nd=f.nd k by have:=hq.n1 (.inr (upd_same _ _ _));rw [upd_same] at this;exact this))
 have HO:=Lib.hid (λ(q:Pc) (hq:PlI (upd f.s.st k 3 k) (upd f.pc k 3 k) (upd f.nd k (f.nd k) k) (upd f.oth k (f.oth k) k) (upd f.tr k (f.tr k) k) f.ea q)=>(trivial))
 rw [HN.out q hq] at u2
 skip
 have c1:=hF3.drew.lk.raw.cell1
 have c3:=hF3.drew.lk.raw.cell3
 skip
 have cA:=pcas_any hF3.drew.lk.port u L.a1 (f.nd k) 0 (by decide) (by decide) hD
 change Calls _ _ _ _ (AccPost _ _ _ (.bool (casT f.ps u L.a1 (f.nd k))) _) at cA
 rw [hv] at cA
 have HT0:RowKit.Hid (∀ W:World,LkM W L {f with pc:=upd f.pc k 3,nd:=upd f.nd k (f.nd k),oth:=upd f.oth k (f.oth k),tr:=upd f.tr k (f.tr k),ps:=doS f.ps u 4 L.a1 (f.nd k) 0} (upd f.s.st k 3)→LkM (W.setCell ⟨L.tb,k*4,none⟩ (.int .i64 5)) L {f with pc:=upd f.pc k 6,nd:=upd f.nd k (f.nd k),oth:=upd f.oth k (f.oth k),tr:=upd f.tr k (f.tr k),ps:=doS f.ps u 4 L.a1 (f.nd k) 0} (upd f.s.st k 3)∧Wr (One L.tb) W (W.setCell ⟨L.tb,k*4,none⟩ (.int .i64 5))):=Lib.hid (λW g=>by
  have:=g.turns (g.raw.set1 k 3 6 (f.nd k) (f.oth k) (f.tr k) (λp hp=>by dsimp only at hp;simp only [upd_same] at hp;exact hp.nextU (by decide) (by omega)) 5 rfl)
  simpa only [upd_upd] using this)
 have HE:=Lib.hid (And.intro h (And.intro hk3 hF3))
 clear h hF hs hd hp t1 t2 t3 hT hF3 hq u0 u1 u3 hv
 go_enter func179,ntmps179
 go_wp2
 rw [←hZ,←hY]
 clear hZ hY
 go_region_held3 (λw'=>w'.cell? ⟨L.lb,1,none⟩=some (.pointer (some ⟨L.q.p,0,none⟩))∧w'.cell? ⟨L.lb,3,none⟩=some (.int .i64 L.a1)∧w'.cell? ⟨L.tb,k*4+2,none⟩=some (.int .u32 (f.nd k))) (first|exact ⟨c1,c3,u2⟩|exact ⟨d1,d3,y2⟩) (first|(go_at_call 171;(with_reducible refine cA.mono ?_);intro e w2 hq;unfold AccPost at hq;obtain ⟨rfl,hP,hW⟩:=hq;have hA:=HE.out.2.2.drew.lk.ports hP hW;have hA3:=Fr.call HE.out.1 HE.out.2.2.drew hA (lf_q hW);have d1:=hA.raw.cell1;have d3:=hA.raw.cell3;obtain ⟨p',hp',y0,y1,y2,y3⟩:=hA.raw.place4 HE.out.2.1;rw [(show p'.nd=f.nd k from HN.out _ hp')] at y2;obtain ⟨v0,v1,v2,v3⟩:=hA3.cell;obtain ⟨x0,x1,x2,x3⟩:=hA3.frz;have HT:=Lib.hid hA3;clear hA hA3 hP hW hp'))
 go_wp2
 refine bodyPost_ret (v:=Dd.val ⟨0,false,false,false⟩) (results_cell_row rfl _ _ w.heap.size 102 _ (0,0) _ rfl (set4 HT.out.res rfl _ _ _ _) underlying102 rfl i_did) rfl (HT.out.told HE.out.1 ⟨0,false,false,false⟩)
theorem fl_rel4A {w:World} {L:Lp} {f:FL} (h:LkAt w L f) (k:Nat) (hk:k<f.s.n) (u:Int) (hs:f.s.st k=3) (hd:f.pc k=4) (hD:f.ps.D.length<4611686018427387904) (hv:casT f.ps u (L.sA (f.oth k)) 0=true):
  Calls prog 179 #[.pointer (some ⟨L.lb,0,none⟩),.int .i64 (k:Int),.int .i64 u] w (LmPost w L (f.rel L k u) (upd f.s.st k (finS 3 (f.relD k).ev)) (f.relD k).val):=by
 have e1:f.rel L k u={f with pc:=upd f.pc k 6,nd:=upd f.nd k (f.nd k),oth:=upd f.oth k (f.oth k),tr:=upd f.tr k (f.tr k),ps:=doS f.ps u 4 (L.sA (f.oth k)) 0 1}:=by unfold FL.rel;rw [if_neg (by omega),if_neg (by omega),if_neg (by omega),if_pos hd,if_pos hv,upd_id f.nd k rfl,upd_id f.oth k rfl,upd_id f.tr k rfl]
 have e2:f.relD k=Dd.no:=by unfold FL.relD;rw [if_pos (by omega)]
 rw [e1,e2]
 rw [show finS 3 (Dd.ev Dd.no)=3 from by decide]
 clear e1 e2
 have hF:=Fr.start h
 obtain ⟨Z,hZ⟩:∃ Z,Z=w.alloc (.cells #[.int .i64 0,.bool false,.bool false,.bool false] 102):=⟨_,rfl⟩
 rw [←hZ] at hF
 have hkI:(k:Int)<f.s.n:=by omega
 have c4:=hF.lk.raw.cell4
 obtain ⟨p,hp,t0,t1,t2,t3⟩:=hF.lk.raw.place4 hk
 rw [hs,hd] at hp
 rw [hd] at t0
 rw [hZ] at c4 t0
 have z0:=hF.lk.raw.tkz (k*4)
 have hT:=hF.lk.turns (hF.lk.raw.set1 k 3 5 (f.nd k) (f.oth k) (f.tr k) (λp hp=>by rw [hs,hd] at hp;exact hp.nextU (by decide) (by omega)) 4 rfl)
 have hF3:=Fr.call h hF hT.1 (lf_t hT.2)
 obtain ⟨Y,hY⟩:∃ Y,Y=Z.setCell ⟨L.tb,k*4,none⟩ (.int .i64 4):=⟨_,rfl⟩
 rw [←hY] at hF3
 rw [hZ] at z0
 have hk3:k<({f with pc:=upd f.pc k 5,nd:=upd f.nd k (f.nd k),oth:=upd f.oth k (f.oth k),tr:=upd f.tr k (f.tr k)}:FL).s.n:=hk
 obtain ⟨q,hq,u0,u1,u2,u3⟩:=hF3.drew.lk.raw.place4 hk3
 have HN:=Lib.hid (λ(q:Pc) (hq:PlI (upd f.s.st k 3 k) (upd f.pc k 5 k) (upd f.nd k (f.nd k) k) (upd f.oth k (f.oth k) k) (upd f.tr k (f.tr k) k) f.ea q)=>(show q.nd=f.nd k by have:=hq.n1 (.inr (upd_same _ _ _));rw [upd_same] at this;exact this))
 have HO:=Lib.hid (λ(q:Pc) (hq:PlI (upd f.s.st k 3 k) (upd f.pc k 5 k) (upd f.nd k (f.nd k) k) (upd f.oth k (f.oth k) k) (upd f.tr k (f.tr k) k) f.ea q)=>(show q.ot=f.oth k by have:=hq.o3 (upd_same _ _ _) (.inr (upd_same _ _ _));rw [upd_same] at this;exact this))
 rw [HN.out q hq] at u2
 rw [HO.out q hq] at u3
 have c1:=hF3.drew.lk.raw.cell1
 have c3:=hF3.drew.lk.raw.cell3
 have cG:=fl_state hF3.drew.lk (f.oth k) hp.orr
 have cA:=pcas_any hF3.drew.lk.port u (L.sA (f.oth k)) 0 1 (by decide) (by decide) hD
 change Calls _ _ _ _ (AccPost _ _ _ (.bool (casT f.ps u (L.sA (f.oth k)) 0)) _) at cA
 rw [hv] at cA
 have HT0:RowKit.Hid (∀ W:World,LkM W L {f with pc:=upd f.pc k 5,nd:=upd f.nd k (f.nd k),oth:=upd f.oth k (f.oth k),tr:=upd f.tr k (f.tr k),ps:=doS f.ps u 4 (L.sA (f.oth k)) 0 1} (upd f.s.st k 3)→LkM (W.setCell ⟨L.tb,k*4,none⟩ (.int .i64 5)) L {f with pc:=upd f.pc k 6,nd:=upd f.nd k (f.nd k),oth:=upd f.oth k (f.oth k),tr:=upd f.tr k (f.tr k),ps:=doS f.ps u 4 (L.sA (f.oth k)) 0 1} (upd f.s.st k 3)∧Wr (One L.tb) W (W.setCell ⟨L.tb,k*4,none⟩ (.int .i64 5))):=Lib.hid (λW g=>by
  have:=g.turns (g.raw.set1 k 3 6 (f.nd k) (f.oth k) (f.tr k) (λp hp=>by dsimp only at hp;simp only [upd_same] at hp;exact hp.nextU (by decide) (by omega)) 5 rfl)
  simpa only [upd_upd] using this)
 have HE:=Lib.hid (And.intro h (And.intro hk3 hF3))
 clear h hF hs hd hp t1 t2 t3 hT hF3 hq u0 u1 hv
 go_enter func179,ntmps179
 go_wp2
 rw [←hZ,←hY]
 clear hZ hY
 go_region_held3 (λw'=>w'.cell? ⟨L.lb,1,none⟩=some (.pointer (some ⟨L.q.p,0,none⟩))∧w'.cell? ⟨L.tb,k*4+3,none⟩=some (.int .u32 (f.oth k))) (first|exact ⟨c1,u3⟩|exact ⟨d1,y3⟩) (first|(go_at_call 182;(with_reducible refine cG.mono ?_);rintro e w' ⟨rfl,rfl⟩)|(go_at_call 171;(with_reducible refine cA.mono ?_);intro e w2 hq;unfold AccPost at hq;obtain ⟨rfl,hP,hW⟩:=hq;have hA:=HE.out.2.2.drew.lk.ports hP hW;have hA3:=Fr.call HE.out.1 HE.out.2.2.drew hA (lf_q hW);have d1:=hA.raw.cell1;have d3:=hA.raw.cell3;obtain ⟨p',hp',y0,y1,y2,y3⟩:=hA.raw.place4 HE.out.2.1;rw [(show p'.nd=f.nd k from HN.out _ hp')] at y2;rw [(show p'.ot=f.oth k from HO.out _ hp')] at y3;have z0:=hA.raw.tkz (k*4);have hT:=HT0.out _ hA;have hA4:=Fr.call HE.out.1 hA3 hT.1 (lf_t hT.2);obtain ⟨v0,v1,v2,v3⟩:=hA4.cell;obtain ⟨x0,x1,x2,x3⟩:=hA4.frz;have HT:=Lib.hid hA4;clear hA4 hT;clear hA hA3 hP hW hp'))
 go_wp2
 refine bodyPost_ret (v:=Dd.val ⟨0,false,false,false⟩) (results_cell_row rfl _ _ w.heap.size 102 _ (0,0) _ rfl (set4 HT.out.res rfl _ _ _ _) underlying102 rfl i_did) rfl (HT.out.told HE.out.1 ⟨0,false,false,false⟩)
theorem fl_rel4B {w:World} {L:Lp} {f:FL} (h:LkAt w L f) (k:Nat) (hk:k<f.s.n) (u:Int) (hs:f.s.st k=3) (hd:f.pc k=4) (hD:f.ps.D.length<4611686018427387904) (hv:casT f.ps u (L.sA (f.oth k)) 0=false):
  Calls prog 179 #[.pointer (some ⟨L.lb,0,none⟩),.int .i64 (k:Int),.int .i64 u] w (LmPost w L (f.rel L k u) (upd f.s.st k (finS 3 (f.relD k).ev)) (f.relD k).val):=by
 have e1:f.rel L k u={f with pc:=upd f.pc k 5,nd:=upd f.nd k (f.nd k),oth:=upd f.oth k (f.oth k),tr:=upd f.tr k (f.tr k),ps:=doS f.ps u 4 (L.sA (f.oth k)) 0 1}:=by unfold FL.rel;rw [if_neg (by omega),if_neg (by omega),if_neg (by omega),if_pos hd,if_neg (by rw [hv];decide),upd_id f.nd k rfl,upd_id f.oth k rfl,upd_id f.tr k rfl]
 have e2:f.relD k=Dd.no:=by unfold FL.relD;rw [if_pos (by omega)]
 rw [e1,e2]
 rw [show finS 3 (Dd.ev Dd.no)=3 from by decide]
 clear e1 e2
 have hF:=Fr.start h
 obtain ⟨Z,hZ⟩:∃ Z,Z=w.alloc (.cells #[.int .i64 0,.bool false,.bool false,.bool false] 102):=⟨_,rfl⟩
 rw [←hZ] at hF
 have hkI:(k:Int)<f.s.n:=by omega
 have c4:=hF.lk.raw.cell4
 obtain ⟨p,hp,t0,t1,t2,t3⟩:=hF.lk.raw.place4 hk
 rw [hs,hd] at hp
 rw [hd] at t0
 rw [hZ] at c4 t0
 have z0:=hF.lk.raw.tkz (k*4)
 have hT:=hF.lk.turns (hF.lk.raw.set1 k 3 5 (f.nd k) (f.oth k) (f.tr k) (λp hp=>by rw [hs,hd] at hp;exact hp.nextU (by decide) (by omega)) 4 rfl)
 have hF3:=Fr.call h hF hT.1 (lf_t hT.2)
 obtain ⟨Y,hY⟩:∃ Y,Y=Z.setCell ⟨L.tb,k*4,none⟩ (.int .i64 4):=⟨_,rfl⟩
 rw [←hY] at hF3
 rw [hZ] at z0
 have hk3:k<({f with pc:=upd f.pc k 5,nd:=upd f.nd k (f.nd k),oth:=upd f.oth k (f.oth k),tr:=upd f.tr k (f.tr k)}:FL).s.n:=hk
 obtain ⟨q,hq,u0,u1,u2,u3⟩:=hF3.drew.lk.raw.place4 hk3
 have HN:=Lib.hid (λ(q:Pc) (hq:PlI (upd f.s.st k 3 k) (upd f.pc k 5 k) (upd f.nd k (f.nd k) k) (upd f.oth k (f.oth k) k) (upd f.tr k (f.tr k) k) f.ea q)=>(show q.nd=f.nd k by have:=hq.n1 (.inr (upd_same _ _ _));rw [upd_same] at this;exact this))
 have HO:=Lib.hid (λ(q:Pc) (hq:PlI (upd f.s.st k 3 k) (upd f.pc k 5 k) (upd f.nd k (f.nd k) k) (upd f.oth k (f.oth k) k) (upd f.tr k (f.tr k) k) f.ea q)=>(show q.ot=f.oth k by have:=hq.o3 (upd_same _ _ _) (.inr (upd_same _ _ _));rw [upd_same] at this;exact this))
 rw [HN.out q hq] at u2
 rw [HO.out q hq] at u3
 have c1:=hF3.drew.lk.raw.cell1
 have c3:=hF3.drew.lk.raw.cell3
 have cG:=fl_state hF3.drew.lk (f.oth k) hp.orr
 have cA:=pcas_any hF3.drew.lk.port u (L.sA (f.oth k)) 0 1 (by decide) (by decide) hD
 change Calls _ _ _ _ (AccPost _ _ _ (.bool (casT f.ps u (L.sA (f.oth k)) 0)) _) at cA
 rw [hv] at cA
 have HT0:RowKit.Hid (∀ W:World,LkM W L {f with pc:=upd f.pc k 5,nd:=upd f.nd k (f.nd k),oth:=upd f.oth k (f.oth k),tr:=upd f.tr k (f.tr k),ps:=doS f.ps u 4 (L.sA (f.oth k)) 0 1} (upd f.s.st k 3)→LkM (W.setCell ⟨L.tb,k*4,none⟩ (.int .i64 5)) L {f with pc:=upd f.pc k 6,nd:=upd f.nd k (f.nd k),oth:=upd f.oth k (f.oth k),tr:=upd f.tr k (f.tr k),ps:=doS f.ps u 4 (L.sA (f.oth k)) 0 1} (upd f.s.st k 3)∧Wr (One L.tb) W (W.setCell ⟨L.tb,k*4,none⟩ (.int .i64 5))):=Lib.hid (λW g=>by
  have:=g.turns (g.raw.set1 k 3 6 (f.nd k) (f.oth k) (f.tr k) (λp hp=>by dsimp only at hp;simp only [upd_same] at hp;exact hp.nextU (by decide) (by omega)) 5 rfl)
  simpa only [upd_upd] using this)
 have HE:=Lib.hid (And.intro h (And.intro hk3 hF3))
 clear h hF hs hd hp t1 t2 t3 hT hF3 hq u0 u1 hv
 go_enter func179,ntmps179
 go_wp2
 rw [←hZ,←hY]
 clear hZ hY
 go_region_held3 (λw'=>w'.cell? ⟨L.lb,1,none⟩=some (.pointer (some ⟨L.q.p,0,none⟩))∧w'.cell? ⟨L.tb,k*4+3,none⟩=some (.int .u32 (f.oth k))) (first|exact ⟨c1,u3⟩|exact ⟨d1,y3⟩) (first|(go_at_call 182;(with_reducible refine cG.mono ?_);rintro e w' ⟨rfl,rfl⟩)|(go_at_call 171;(with_reducible refine cA.mono ?_);intro e w2 hq;unfold AccPost at hq;obtain ⟨rfl,hP,hW⟩:=hq;have hA:=HE.out.2.2.drew.lk.ports hP hW;have hA3:=Fr.call HE.out.1 HE.out.2.2.drew hA (lf_q hW);have d1:=hA.raw.cell1;have d3:=hA.raw.cell3;obtain ⟨p',hp',y0,y1,y2,y3⟩:=hA.raw.place4 HE.out.2.1;rw [(show p'.nd=f.nd k from HN.out _ hp')] at y2;rw [(show p'.ot=f.oth k from HO.out _ hp')] at y3;obtain ⟨v0,v1,v2,v3⟩:=hA3.cell;obtain ⟨x0,x1,x2,x3⟩:=hA3.frz;have HT:=Lib.hid hA3;clear hA hA3 hP hW hp'))
 go_wp2
 refine bodyPost_ret (v:=Dd.val ⟨0,false,false,false⟩) (results_cell_row rfl _ _ w.heap.size 102 _ (0,0) _ rfl (set4 HT.out.res rfl _ _ _ _) underlying102 rfl i_did) rfl (HT.out.told HE.out.1 ⟨0,false,false,false⟩)
theorem fl_rel5 {w:World} {L:Lp} {f:FL} (h:LkAt w L f) (k:Nat) (hk:k<f.s.n) (u:Int) (hs:f.s.st k=3) (hd:f.pc k=5) (hD:f.ps.D.length<4611686018427387904):
  Calls prog 179 #[.pointer (some ⟨L.lb,0,none⟩),.int .i64 (k:Int),.int .i64 u] w (LmPost w L (f.rel L k u) (upd f.s.st k (finS 3 (f.relD k).ev)) (f.relD k).val):=by
 have e1:f.rel L k u={f with pc:=upd f.pc k 1,nd:=upd f.nd k (f.oth k),oth:=upd f.oth k (f.oth k),tr:=upd f.tr k (f.tr k),ps:=doS f.ps u 2 (L.oA (f.nd k)) 0 0}:=by unfold FL.rel;rw [if_neg (by omega),if_neg (by omega),if_neg (by omega),if_neg (by omega),if_pos hd,upd_id f.oth k rfl,upd_id f.tr k rfl]
 have e2:f.relD k=Dd.no:=by unfold FL.relD;rw [if_pos (by omega)]
 rw [e1,e2]
 rw [show finS 3 (Dd.ev Dd.no)=3 from by decide]
 clear e1 e2
 have hF:=Fr.start h
 obtain ⟨Z,hZ⟩:∃ Z,Z=w.alloc (.cells #[.int .i64 0,.bool false,.bool false,.bool false] 102):=⟨_,rfl⟩
 rw [←hZ] at hF
 have hkI:(k:Int)<f.s.n:=by omega
 have c4:=hF.lk.raw.cell4
 obtain ⟨p,hp,t0,t1,t2,t3⟩:=hF.lk.raw.place4 hk
 rw [hs,hd] at hp
 rw [hd] at t0
 have n2:Z.drew.cell? ⟨L.tb,k*4+2,none⟩=some (.int .u32 (f.nd k)):=by rw [←hp.n1 (.inr rfl)];exact t2
 have c1:=hF.drew.lk.raw.cell1
 have c3:=hF.drew.lk.raw.cell3
 rw [hZ] at c4 t0
 have cG:=fl_out hF.drew.lk (f.nd k) hp.nr
 have cA:=pstore_any hF.drew.lk.port u (L.oA (f.nd k)) 0 (by decide) (by decide) hD
 have hr:=hp.tr0 (by decide)
 have HT0:=Lib.hid (λ(W:World) (g:LkM W L {f with ps:=doS f.ps u 2 (L.oA (f.nd k)) 0 0} f.s.st)=>g.turns (g.raw.set4' k 3 1 (f.oth k) (f.oth k) (f.tr k) 0 0 (f.oth k) 0 (by rw [hr];exact PlI.seekP hp.orr hp.orr h.raw.each.1)))
 have HN:=Lib.hid (λ(q:Pc) (hq:PlI (f.s.st k) (f.pc k) (f.nd k) (f.oth k) (f.tr k) f.ea q)=>hq.n1 (.inr hs))
 have HO:=Lib.hid (λ(q:Pc) (hq:PlI (f.s.st k) (f.pc k) (f.nd k) (f.oth k) (f.tr k) f.ea q)=>hq.o3 hs (.inr hd))
 have HE:=Lib.hid (And.intro h (And.intro hk hF))
 clear h hF hs hd hp t1 t2 t3 hr
 go_enter func179,ntmps179
 go_wp2
 rw [←hZ]
 clear hZ
 go_region_held3 (λw'=>w'.cell? ⟨L.lb,1,none⟩=some (.pointer (some ⟨L.q.p,0,none⟩))∧w'.cell? ⟨L.tb,k*4+2,none⟩=some (.int .u32 (f.nd k))) (first|exact ⟨c1,n2⟩|exact ⟨d1,y2⟩) (first|(go_at_call 181;(with_reducible refine cG.mono ?_);rintro e w' ⟨rfl,rfl⟩)|(go_at_call 98;(with_reducible refine cA.mono ?_);intro e w2 hq;unfold AccPost at hq;obtain ⟨rfl,hP,hW⟩:=hq;have hA:=HE.out.2.2.drew.lk.ports hP hW;have hA3:=Fr.call HE.out.1 HE.out.2.2.drew hA (lf_q hW);have d1:=hA.raw.cell1;have d3:=hA.raw.cell3;obtain ⟨p',hp',y0,y1,y2,y3⟩:=hA.raw.place4 HE.out.2.1;rw [(show p'.nd=f.nd k from HN.out _ hp')] at y2;rw [(show p'.ot=f.oth k from HO.out _ hp')] at y3;have z0:=hA.raw.tkz (k*4);have z1:=hA.raw.tkz (k*4+1);have z2:=hA.raw.tkz (k*4+2);have z3:=hA.raw.tkz (k*4+3);have hT:=HT0.out _ hA;have hA4:=Fr.call HE.out.1 hA3 hT.1 (lf_t hT.2);obtain ⟨v0,v1,v2,v3⟩:=hA4.cell;obtain ⟨x0,x1,x2,x3⟩:=hA4.frz;have HT:=Lib.hid hA4;clear hA4 hT;clear hA hA3 hP hW hp'))
 go_wp2
 refine bodyPost_ret (v:=Dd.val ⟨0,false,false,false⟩) (results_cell_row rfl _ _ w.heap.size 102 _ (0,0) _ rfl (set4 HT.out.res rfl _ _ _ _) underlying102 rfl i_did) rfl (HT.out.told HE.out.1 ⟨0,false,false,false⟩)
theorem fl_rel6 {w:World} {L:Lp} {f:FL} (h:LkAt w L f) (k:Nat) (hk:k<f.s.n) (u:Int) (hs:f.s.st k=3) (hd:f.pc k=6) (hD:f.ps.D.length<4611686018427387904):
  Calls prog 179 #[.pointer (some ⟨L.lb,0,none⟩),.int .i64 (k:Int),.int .i64 u] w (LmPost w L (f.rel L k u) (upd f.s.st k (finS 3 (f.relD k).ev)) (f.relD k).val):=by
 have e1:f.rel L k u={f with pc:=upd f.pc k 1,nd:=upd f.nd k (f.nd k),oth:=upd f.oth k (f.oth k),tr:=upd f.tr k 0,ps:=doS f.ps u 2 (L.oA (f.nd k)) 0 0}:=by unfold FL.rel;rw [if_neg (by omega),if_neg (by omega),if_neg (by omega),if_neg (by omega),if_neg (by omega),upd_id f.nd k rfl,upd_id f.oth k rfl]
 have e2:f.relD k=⟨3,false,false,false⟩:=by unfold FL.relD;rw [if_neg (by omega)]
 rw [e1,e2]
 rw [show finS 3 (Dd.ev ⟨3,false,false,false⟩)=0 from by decide]
 clear e1 e2
 have hF:=Fr.start h
 obtain ⟨Z,hZ⟩:∃ Z,Z=w.alloc (.cells #[.int .i64 0,.bool false,.bool false,.bool false] 102):=⟨_,rfl⟩
 rw [←hZ] at hF
 have hkI:(k:Int)<f.s.n:=by omega
 have c4:=hF.lk.raw.cell4
 obtain ⟨p,hp,t0,t1,t2,t3⟩:=hF.lk.raw.place4 hk
 rw [hs,hd] at hp
 rw [hd] at t0
 have n2:Z.drew.cell? ⟨L.tb,k*4+2,none⟩=some (.int .u32 (f.nd k)):=by rw [←hp.n1 (.inr rfl)];exact t2
 have c1:=hF.drew.lk.raw.cell1
 have c3:=hF.drew.lk.raw.cell3
 rw [hZ] at c4 t0
 have cG:=fl_out hF.drew.lk (f.nd k) hp.nr
 have cA:=pstore_any hF.drew.lk.port u (L.oA (f.nd k)) 0 (by decide) (by decide) hD
 have HC:=Lib.hid (λ(W:World) (g:LkM W L {f with ps:=doS f.ps u 2 (L.oA (f.nd k)) 0 0} f.s.st)=>fl_ends g k hk (f.nd k) hp.nr 3)
 have HN:=Lib.hid (λ(q:Pc) (hq:PlI (f.s.st k) (f.pc k) (f.nd k) (f.oth k) (f.tr k) f.ea q)=>hq.n1 (.inr hs))
 have HE:=Lib.hid (And.intro h (And.intro hk hF))
 clear h hF hs hd hp t1 t2 t3
 go_enter func179,ntmps179
 go_wp2
 rw [←hZ]
 clear hZ
 go_region_held3 (λw'=>w'.cell? ⟨L.lb,1,none⟩=some (.pointer (some ⟨L.q.p,0,none⟩))∧w'.cell? ⟨L.tb,k*4+2,none⟩=some (.int .u32 (f.nd k))) (first|exact ⟨c1,n2⟩|exact ⟨d1,y2⟩) (first|(go_at_call 181;(with_reducible refine cG.mono ?_);rintro e w' ⟨rfl,rfl⟩)|(go_at_call 98;(with_reducible refine cA.mono ?_);intro e w2 hq;unfold AccPost at hq;obtain ⟨rfl,hP,hW⟩:=hq;have hA:=HE.out.2.2.drew.lk.ports hP hW;have hA3:=Fr.call HE.out.1 HE.out.2.2.drew hA (lf_q hW);have d1:=hA.raw.cell1;have d3:=hA.raw.cell3;obtain ⟨p',hp',y0,y1,y2,y3⟩:=hA.raw.place4 HE.out.2.1;rw [(show p'.nd=f.nd k from HN.out _ hp')] at y2;have HA:=Lib.hid hA3;have cE:=HC.out _ hA;clear hA hA3 hP hW hp'))
 go_wp2_with (first|(go_at_call 188;(with_reducible refine cE.mono ?_);intro e w3 hq;unfold LmPost at hq;obtain ⟨rfl,hB,hW2⟩:=hq;dsimp only [Dd.val];have hB3:=Fr.call HE.out.1 HA.out hB hW2;obtain ⟨v0,v1,v2,v3⟩:=hB3.cell;obtain ⟨x0,x1,x2,x3⟩:=hB3.frz;have HT:=Lib.hid hB3;clear hB hB3 hW2))
 refine bodyPost_ret (v:=Dd.val ⟨3,false,false,false⟩) (results_cell_row rfl _ _ w.heap.size 102 _ (0,0) _ rfl (set4 HT.out.res rfl _ _ _ _) underlying102 rfl i_did) rfl (HT.out.told HE.out.1 ⟨3,false,false,false⟩)
theorem fl_rel {w:World} {L:Lp} {f:FL} (h:LkAt w L f) (k:Nat) (hk:k<f.s.n) (u:Int) (hs:f.s.st k=3) (hD:f.ps.D.length<4611686018427387904):
  Calls prog 179 #[.pointer (some ⟨L.lb,0,none⟩),.int .i64 (k:Int),.int .i64 u] w (LmPost w L (f.rel L k u) (upd f.s.st k (finS (f.s.st k) (f.relD k).ev)) (f.relD k).val):=by
 obtain ⟨p,hp⟩:=h.raw.pli k
 have hr:=hp.pr
 have hr6:=hp.rel hs
 have:f.pc k=1∨f.pc k=2∨f.pc k=3∨f.pc k=4∨f.pc k=5∨f.pc k=6:=by omega
 rw [show finS (f.s.st k)=finS 3 by rw [hs]]
 rcases this with hd|hd|hd|hd|hd|hd
 ·exact fl_rel1 h k hk u hs hd hD
 ·cases hv:casT f.ps u L.a1 (f.nd k)
  ·exact fl_rel2B h k hk u hs hd hD hv
  ·exact fl_rel2A h k hk u hs hd hD hv
 ·exact fl_rel3 h k hk u hs hd hD
 ·cases hv:casT f.ps u (L.sA (f.oth k)) 0
  ·exact fl_rel4B h k hk u hs hd hD hv
  ·exact fl_rel4A h k hk u hs hd hD hv
 ·exact fl_rel5 h k hk u hs hd hD
 ·exact fl_rel6 h k hk u hs hd hD
end Go.Proofs.YtmnephejhkfchaaGreat.Ka

import Derived.Test.YtmnephejhkfchaaGreatAbortAcq
namespace Go.Proofs.YtmnephejhkfchaaGreat.Ka
set_option maxHeartbeats 8000000
open _root_.Go.Proofs.Tryz
open Go.RowKit Go.BigFrame
set_option linter.unusedVariables false
set_option maxRecDepth 100000
theorem LJ {w:World} {L:Lp} {f:FL} (h:LkAt w L f) (k:Nat) (hk:k<f.s.n) (u:Int) (hs:f.s.st k=3) (hd:f.pc k=1) (hD:f.ps.D.length<4611686018427387904):
  Calls prog 179 #[.pointer (some ⟨L.lb,0,none⟩),.int .i64 (k:Int),.int .i64 u] w (A_ w L (f.rel L k u) (upd f.s.st k (Ai 3 (f.AX k).ev)) (f.AX k).val):=by
 have e1:f.rel L k u={f with pc:=upd f.pc k (if A6 f.ps u 1 (L.nA (f.nd k))=0 then 2 else 4),nd:=upd f.nd k (f.nd k),A9:=upd f.A9 k (A6 f.ps u 1 (L.nA (f.nd k))),tr:=upd f.tr k (f.tr k),ps:=A5 f.ps u 1 (L.nA (f.nd k)) 0 0}:=by unfold FL.rel;rw [Qj hd,AA f.nd k rfl,AA f.tr k rfl]
 have e2:f.AX k=Dd.no:=by unfold FL.AX;rw [Qj (by omega)]
 rw [e1,e2];rw [show Ai 3 (Dd.ev Dd.no)=3 from by decide];clear e1 e2;have hF:=Fr.start h;obtain ⟨Z,hZ⟩:∃ Z,Z=w.alloc (.cells #[.int .i64 0,.bool false,.bool false,.bool false] 102):=⟨_,rfl⟩
 rw [<-hZ] at hF;have Cy:(k:Int)<f.s.n:=by omega
 have c4:=hF.lk.raw.Av;obtain ⟨p,hp,t0,t1,t2,t3⟩:=hF.lk.raw.Aa hk;rw [hs,hd] at hp;rw [hd] at t0;have n2:Z.drew.cell? ⟨L.tb,k*4+2,none⟩=some (.int .u32 (f.nd k)):=by rw [<-hp.n1 (.inr rfl)];exact t2
 have c1:=hF.drew.lk.raw.cell1;have c3:=hF.drew.lk.raw.AV;rw [hZ] at c4 t0;have cG:=E0 hF.drew.lk (f.nd k) hp.nr;have cA:=Al hF.drew.lk.port u (L.nA (f.nd k)) hD;have hT0:=h.tell u 1 (L.nA (f.nd k));generalize A6 f.ps u 1 (L.nA (f.nd k))=v at*;obtain ⟨g,hg⟩:∃ g:FL,g={f with pc:=upd f.pc k (if v=0 then 2 else 4),nd:=upd f.nd k (f.nd k),A9:=upd f.A9 k v,tr:=upd f.tr k (f.tr k),ps:=A5 f.ps u 1 (L.nA (f.nd k)) 0 0}:=⟨_,rfl⟩
 obtain ⟨σ',hσ⟩:∃ σ':Nat->Int,σ'=upd f.s.st k 3:=⟨_,rfl⟩
 rw [<-hg,<-hσ];have HC:RowKit.Hid (∀ W:World,LkM W L {f with ps:=A5 f.ps u 1 (L.nA (f.nd k)) 0 0} f.s.st->Calls prog 187 #[.pointer (some ⟨L.tb,k*4,none⟩),.int .u32 v] W (CD W L g σ')):=Qw (λW q=>by
  rw [hg,hσ];exact Fj q k hk hs 2 (.inl ⟨hd,rfl⟩) v hT0)
 exact zz76
theorem LK {w:World} {L:Lp} {f:FL} (h:LkAt w L f) (k:Nat) (hk:k<f.s.n) (u:Int) (hs:f.s.st k=3) (hd:f.pc k=3) (hD:f.ps.D.length<4611686018427387904):
  Calls prog 179 #[.pointer (some ⟨L.lb,0,none⟩),.int .i64 (k:Int),.int .i64 u] w (A_ w L (f.rel L k u) (upd f.s.st k (Ai 3 (f.AX k).ev)) (f.AX k).val):=by
 have e1:f.rel L k u={f with pc:=upd f.pc k (if A6 f.ps u 1 (L.nA (f.nd k))=0 then 3 else 4),nd:=upd f.nd k (f.nd k),A9:=upd f.A9 k (A6 f.ps u 1 (L.nA (f.nd k))),tr:=upd f.tr k (f.tr k),ps:=A5 f.ps u 1 (L.nA (f.nd k)) 0 0}:=by unfold FL.rel;rw [Qq (by omega),Qq (by omega),Qj hd,AA f.nd k rfl,AA f.tr k rfl]
 have e2:f.AX k=Dd.no:=by unfold FL.AX;rw [Qj (by omega)]
 rw [e1,e2];rw [show Ai 3 (Dd.ev Dd.no)=3 from by decide];clear e1 e2;have hF:=Fr.start h;obtain ⟨Z,hZ⟩:∃ Z,Z=w.alloc (.cells #[.int .i64 0,.bool false,.bool false,.bool false] 102):=⟨_,rfl⟩
 rw [<-hZ] at hF;have Cy:(k:Int)<f.s.n:=by omega
 have c4:=hF.lk.raw.Av;obtain ⟨p,hp,t0,t1,t2,t3⟩:=hF.lk.raw.Aa hk;rw [hs,hd] at hp;rw [hd] at t0;have n2:Z.drew.cell? ⟨L.tb,k*4+2,none⟩=some (.int .u32 (f.nd k)):=by rw [<-hp.n1 (.inr rfl)];exact t2
 have c1:=hF.drew.lk.raw.cell1;have c3:=hF.drew.lk.raw.AV;rw [hZ] at c4 t0;have cG:=E0 hF.drew.lk (f.nd k) hp.nr;have cA:=Al hF.drew.lk.port u (L.nA (f.nd k)) hD;have hT0:=h.tell u 1 (L.nA (f.nd k));generalize A6 f.ps u 1 (L.nA (f.nd k))=v at*;obtain ⟨g,hg⟩:∃ g:FL,g={f with pc:=upd f.pc k (if v=0 then 3 else 4),nd:=upd f.nd k (f.nd k),A9:=upd f.A9 k v,tr:=upd f.tr k (f.tr k),ps:=A5 f.ps u 1 (L.nA (f.nd k)) 0 0}:=⟨_,rfl⟩
 obtain ⟨σ',hσ⟩:∃ σ':Nat->Int,σ'=upd f.s.st k 3:=⟨_,rfl⟩
 rw [<-hg,<-hσ];have HC:RowKit.Hid (∀ W:World,LkM W L {f with ps:=A5 f.ps u 1 (L.nA (f.nd k)) 0 0} f.s.st->Calls prog 187 #[.pointer (some ⟨L.tb,k*4,none⟩),.int .u32 v] W (CD W L g σ')):=Qw (λW q=>by
  rw [hg,hσ];exact Fj q k hk hs 3 (.inr ⟨hd,rfl⟩) v hT0)
 exact zz76
theorem Sc {w:World} {L:Lp} {f:FL} (h:LkAt w L f) (k:Nat) (hk:k<f.s.n) (u:Int) (hs:f.s.st k=3) (hd:f.pc k=2) (hD:f.ps.D.length<4611686018427387904) (hv:casT f.ps u L.a1 (f.nd k)=true):
  Calls prog 179 #[.pointer (some ⟨L.lb,0,none⟩),.int .i64 (k:Int),.int .i64 u] w (A_ w L (f.rel L k u) (upd f.s.st k (Ai 3 (f.AX k).ev)) (f.AX k).val):=by
 have e1:f.rel L k u={f with pc:=upd f.pc k 6,nd:=upd f.nd k (f.nd k),A9:=upd f.A9 k (f.A9 k),tr:=upd f.tr k (f.tr k),ps:=A5 f.ps u 4 L.a1 (f.nd k) 0}:=by unfold FL.rel;rw [Qq (by omega),Qj hd,Qj hv,AA f.nd k rfl,AA f.A9 k rfl,AA f.tr k rfl]
 have e2:f.AX k=Dd.no:=by unfold FL.AX;rw [Qj (by omega)]
 rw [e1,e2];rw [show Ai 3 (Dd.ev Dd.no)=3 from by decide];clear e1 e2;have hF:=Fr.start h;obtain ⟨Z,hZ⟩:∃ Z,Z=w.alloc (.cells #[.int .i64 0,.bool false,.bool false,.bool false] 102):=⟨_,rfl⟩
 rw [<-hZ] at hF;have Cy:(k:Int)<f.s.n:=by omega
 have c4:=hF.lk.raw.Av;obtain ⟨p,hp,t0,t1,t2,t3⟩:=hF.lk.raw.Aa hk;rw [hs,hd] at hp;rw [hd] at t0;rw [hZ] at c4 t0;have z0:=hF.lk.raw.BO (k*4);have hT:=hF.lk.turns (hF.lk.raw.Du k 3 3 (f.nd k) (f.A9 k) (f.tr k) (λp hp=>by rw [hs,hd] at hp;exact hp.Gs (by decide) (by omega)) 2 rfl);have Em:=Fr.call h hF hT.1 (BH hT.2);obtain ⟨Y,hY⟩:∃ Y,Y=Z.setCell ⟨L.tb,k*4,none⟩ (.int .i64 2):=⟨_,rfl⟩
 rw [<-hY] at Em;rw [hZ] at z0;have Gn:k<({f with pc:=upd f.pc k 3,nd:=upd f.nd k (f.nd k),A9:=upd f.A9 k (f.A9 k),tr:=upd f.tr k (f.tr k)}:FL).s.n:=hk;obtain ⟨q,hq,u0,u1,u2,u3⟩:=Em.drew.lk.raw.Aa Gn;have HN:=Qw (λ(q:Pc) (hq:BJ (upd f.s.st k 3 k) (upd f.pc k 3 k) (upd f.nd k (f.nd k) k) (upd f.A9 k (f.A9 k) k) (upd f.tr k (f.tr k) k) f.ea q)=>(show q.nd=f.nd k by have:=hq.n1 (.inr (upd_same _ _ _));rw [upd_same] at this;exact this));have HO:=Qw (λ(q:Pc) (hq:BJ (upd f.s.st k 3 k) (upd f.pc k 3 k) (upd f.nd k (f.nd k) k) (upd f.A9 k (f.A9 k) k) (upd f.tr k (f.tr k) k) f.ea q)=>(trivial));rw [HN.out q hq] at u2
 skip
 have c1:=Em.drew.lk.raw.cell1;have c3:=Em.drew.lk.raw.AV
 skip
 have cA:=Cg Em.drew.lk.port u L.a1 (f.nd k) 0 (by decide) (by decide) hD;change Calls _ _ _ _ (AE _ _ _ (.bool (casT f.ps u L.a1 (f.nd k))) _) at cA;rw [hv] at cA;have EK:RowKit.Hid (∀ W:World,LkM W L {f with pc:=upd f.pc k 3,nd:=upd f.nd k (f.nd k),A9:=upd f.A9 k (f.A9 k),tr:=upd f.tr k (f.tr k),ps:=A5 f.ps u 4 L.a1 (f.nd k) 0} (upd f.s.st k 3)->LkM (W.setCell ⟨L.tb,k*4,none⟩ (.int .i64 5)) L {f with pc:=upd f.pc k 6,nd:=upd f.nd k (f.nd k),A9:=upd f.A9 k (f.A9 k),tr:=upd f.tr k (f.tr k),ps:=A5 f.ps u 4 L.a1 (f.nd k) 0} (upd f.s.st k 3)/\Wr (One L.tb) W (W.setCell ⟨L.tb,k*4,none⟩ (.int .i64 5))):=Qw (λW g=>by
  have:=g.turns (g.raw.Du k 3 6 (f.nd k) (f.A9 k) (f.tr k) (λp hp=>by dsimp only at hp;simp only [upd_same] at hp;exact hp.Gs (by decide) (by omega)) 5 rfl);simpa only [BF] using this)
 have HE:=Qw (Qz h (Qz Gn Em));clear h hF hs hd hp t1 t2 t3 hT Em hq u0 u1 u3 hv
 go_in
 go_wp2;rw [<-hZ,<-hY];clear hZ hY;go_region_held3 (λw'=>w'.cell? ⟨L.lb,1,none⟩=some (.pointer (some ⟨L.q.p,0,none⟩))/\w'.cell? ⟨L.lb,3,none⟩=some (.int .i64 L.a1)/\w'.cell? ⟨L.tb,k*4+2,none⟩=some (.int .u32 (f.nd k))) (first|exact ⟨c1,c3,u2⟩|exact ⟨d1,d3,y2⟩) (first|((with_reducible refine cA.mono ?_);intro e w2 hq;unfold AE at hq;obtain ⟨rfl,hP,hW⟩:=hq;have hA:=HE.out.2.2.drew.lk.Ac hP hW;have AJ:=Fr.call HE.out.1 HE.out.2.2.drew hA (B_ hW);have d1:=hA.raw.cell1;have d3:=hA.raw.AV;obtain ⟨p',hp',y0,y1,y2,y3⟩:=hA.raw.Aa HE.out.2.1;rw [(show p'.nd=f.nd k from HN.out _ hp')] at y2;have z0:=hA.raw.BO (k*4);have hT:=EK.out _ hA;have Az:=Fr.call HE.out.1 AJ hT.1 (BH hT.2);obtain ⟨v0,v1,v2,v3⟩:=Az.cell;obtain ⟨x0,x1,x2,x3⟩:=Az.Am;have HT:=Qw Az;clear Az hT;clear hA AJ hP hW hp'))
 go_wp2;exact zz0
theorem Sd {w:World} {L:Lp} {f:FL} (h:LkAt w L f) (k:Nat) (hk:k<f.s.n) (u:Int) (hs:f.s.st k=3) (hd:f.pc k=2) (hD:f.ps.D.length<4611686018427387904) (hv:casT f.ps u L.a1 (f.nd k)=false):
  Calls prog 179 #[.pointer (some ⟨L.lb,0,none⟩),.int .i64 (k:Int),.int .i64 u] w (A_ w L (f.rel L k u) (upd f.s.st k (Ai 3 (f.AX k).ev)) (f.AX k).val):=by
 have e1:f.rel L k u={f with pc:=upd f.pc k 3,nd:=upd f.nd k (f.nd k),A9:=upd f.A9 k (f.A9 k),tr:=upd f.tr k (f.tr k),ps:=A5 f.ps u 4 L.a1 (f.nd k) 0}:=by unfold FL.rel;rw [Qq (by omega),Qj hd,Qq (by rw [hv];decide),AA f.nd k rfl,AA f.A9 k rfl,AA f.tr k rfl]
 have e2:f.AX k=Dd.no:=by unfold FL.AX;rw [Qj (by omega)]
 rw [e1,e2];rw [show Ai 3 (Dd.ev Dd.no)=3 from by decide];clear e1 e2;have hF:=Fr.start h;obtain ⟨Z,hZ⟩:∃ Z,Z=w.alloc (.cells #[.int .i64 0,.bool false,.bool false,.bool false] 102):=⟨_,rfl⟩
 rw [<-hZ] at hF;have Cy:(k:Int)<f.s.n:=by omega
 have c4:=hF.lk.raw.Av;obtain ⟨p,hp,t0,t1,t2,t3⟩:=hF.lk.raw.Aa hk;rw [hs,hd] at hp;rw [hd] at t0;rw [hZ] at c4 t0;have z0:=hF.lk.raw.BO (k*4);have hT:=hF.lk.turns (hF.lk.raw.Du k 3 3 (f.nd k) (f.A9 k) (f.tr k) (λp hp=>by rw [hs,hd] at hp;exact hp.Gs (by decide) (by omega)) 2 rfl);have Em:=Fr.call h hF hT.1 (BH hT.2);obtain ⟨Y,hY⟩:∃ Y,Y=Z.setCell ⟨L.tb,k*4,none⟩ (.int .i64 2):=⟨_,rfl⟩
 rw [<-hY] at Em;rw [hZ] at z0;have Gn:k<({f with pc:=upd f.pc k 3,nd:=upd f.nd k (f.nd k),A9:=upd f.A9 k (f.A9 k),tr:=upd f.tr k (f.tr k)}:FL).s.n:=hk;obtain ⟨q,hq,u0,u1,u2,u3⟩:=Em.drew.lk.raw.Aa Gn;have HN:=Qw (λ(q:Pc) (hq:BJ (upd f.s.st k 3 k) (upd f.pc k 3 k) (upd f.nd k (f.nd k) k) (upd f.A9 k (f.A9 k) k) (upd f.tr k (f.tr k) k) f.ea q)=>(show q.nd=f.nd k by have:=hq.n1 (.inr (upd_same _ _ _));rw [upd_same] at this;exact this));have HO:=Qw (λ(q:Pc) (hq:BJ (upd f.s.st k 3 k) (upd f.pc k 3 k) (upd f.nd k (f.nd k) k) (upd f.A9 k (f.A9 k) k) (upd f.tr k (f.tr k) k) f.ea q)=>(trivial));rw [HN.out q hq] at u2
 skip
 have c1:=Em.drew.lk.raw.cell1;have c3:=Em.drew.lk.raw.AV
 skip
 have cA:=Cg Em.drew.lk.port u L.a1 (f.nd k) 0 (by decide) (by decide) hD;change Calls _ _ _ _ (AE _ _ _ (.bool (casT f.ps u L.a1 (f.nd k))) _) at cA;rw [hv] at cA;have EK:RowKit.Hid (∀ W:World,LkM W L {f with pc:=upd f.pc k 3,nd:=upd f.nd k (f.nd k),A9:=upd f.A9 k (f.A9 k),tr:=upd f.tr k (f.tr k),ps:=A5 f.ps u 4 L.a1 (f.nd k) 0} (upd f.s.st k 3)->LkM (W.setCell ⟨L.tb,k*4,none⟩ (.int .i64 5)) L {f with pc:=upd f.pc k 6,nd:=upd f.nd k (f.nd k),A9:=upd f.A9 k (f.A9 k),tr:=upd f.tr k (f.tr k),ps:=A5 f.ps u 4 L.a1 (f.nd k) 0} (upd f.s.st k 3)/\Wr (One L.tb) W (W.setCell ⟨L.tb,k*4,none⟩ (.int .i64 5))):=Qw (λW g=>by
  have:=g.turns (g.raw.Du k 3 6 (f.nd k) (f.A9 k) (f.tr k) (λp hp=>by dsimp only at hp;simp only [upd_same] at hp;exact hp.Gs (by decide) (by omega)) 5 rfl);simpa only [BF] using this)
 have HE:=Qw (Qz h (Qz Gn Em));clear h hF hs hd hp t1 t2 t3 hT Em hq u0 u1 u3 hv
 go_in
 go_wp2;rw [<-hZ,<-hY];clear hZ hY;go_region_held3 (λw'=>w'.cell? ⟨L.lb,1,none⟩=some (.pointer (some ⟨L.q.p,0,none⟩))/\w'.cell? ⟨L.lb,3,none⟩=some (.int .i64 L.a1)/\w'.cell? ⟨L.tb,k*4+2,none⟩=some (.int .u32 (f.nd k))) (first|exact ⟨c1,c3,u2⟩|exact ⟨d1,d3,y2⟩) (first|((with_reducible refine cA.mono ?_);intro e w2 hq;unfold AE at hq;obtain ⟨rfl,hP,hW⟩:=hq;have hA:=HE.out.2.2.drew.lk.Ac hP hW;have AJ:=Fr.call HE.out.1 HE.out.2.2.drew hA (B_ hW);have d1:=hA.raw.cell1;have d3:=hA.raw.AV;obtain ⟨p',hp',y0,y1,y2,y3⟩:=hA.raw.Aa HE.out.2.1;rw [(show p'.nd=f.nd k from HN.out _ hp')] at y2;obtain ⟨v0,v1,v2,v3⟩:=AJ.cell;obtain ⟨x0,x1,x2,x3⟩:=AJ.Am;have HT:=Qw AJ;clear hA AJ hP hW hp'))
 go_wp2;exact zz0
theorem Se {w:World} {L:Lp} {f:FL} (h:LkAt w L f) (k:Nat) (hk:k<f.s.n) (u:Int) (hs:f.s.st k=3) (hd:f.pc k=4) (hD:f.ps.D.length<4611686018427387904) (hv:casT f.ps u (L.sA (f.A9 k)) 0=true):
  Calls prog 179 #[.pointer (some ⟨L.lb,0,none⟩),.int .i64 (k:Int),.int .i64 u] w (A_ w L (f.rel L k u) (upd f.s.st k (Ai 3 (f.AX k).ev)) (f.AX k).val):=by
 have e1:f.rel L k u={f with pc:=upd f.pc k 6,nd:=upd f.nd k (f.nd k),A9:=upd f.A9 k (f.A9 k),tr:=upd f.tr k (f.tr k),ps:=A5 f.ps u 4 (L.sA (f.A9 k)) 0 1}:=by unfold FL.rel;rw [Qq (by omega),Qq (by omega),Qq (by omega),Qj hd,Qj hv,AA f.nd k rfl,AA f.A9 k rfl,AA f.tr k rfl]
 have e2:f.AX k=Dd.no:=by unfold FL.AX;rw [Qj (by omega)]
 rw [e1,e2];rw [show Ai 3 (Dd.ev Dd.no)=3 from by decide];clear e1 e2;have hF:=Fr.start h;obtain ⟨Z,hZ⟩:∃ Z,Z=w.alloc (.cells #[.int .i64 0,.bool false,.bool false,.bool false] 102):=⟨_,rfl⟩
 rw [<-hZ] at hF;have Cy:(k:Int)<f.s.n:=by omega
 have c4:=hF.lk.raw.Av;obtain ⟨p,hp,t0,t1,t2,t3⟩:=hF.lk.raw.Aa hk;rw [hs,hd] at hp;rw [hd] at t0;rw [hZ] at c4 t0;have z0:=hF.lk.raw.BO (k*4);have hT:=hF.lk.turns (hF.lk.raw.Du k 3 5 (f.nd k) (f.A9 k) (f.tr k) (λp hp=>by rw [hs,hd] at hp;exact hp.Gs (by decide) (by omega)) 4 rfl);have Em:=Fr.call h hF hT.1 (BH hT.2);obtain ⟨Y,hY⟩:∃ Y,Y=Z.setCell ⟨L.tb,k*4,none⟩ (.int .i64 4):=⟨_,rfl⟩
 rw [<-hY] at Em;rw [hZ] at z0;have Gn:k<({f with pc:=upd f.pc k 5,nd:=upd f.nd k (f.nd k),A9:=upd f.A9 k (f.A9 k),tr:=upd f.tr k (f.tr k)}:FL).s.n:=hk;obtain ⟨q,hq,u0,u1,u2,u3⟩:=Em.drew.lk.raw.Aa Gn;have HN:=Qw (λ(q:Pc) (hq:BJ (upd f.s.st k 3 k) (upd f.pc k 5 k) (upd f.nd k (f.nd k) k) (upd f.A9 k (f.A9 k) k) (upd f.tr k (f.tr k) k) f.ea q)=>(show q.nd=f.nd k by have:=hq.n1 (.inr (upd_same _ _ _));rw [upd_same] at this;exact this));have HO:=Qw (λ(q:Pc) (hq:BJ (upd f.s.st k 3 k) (upd f.pc k 5 k) (upd f.nd k (f.nd k) k) (upd f.A9 k (f.A9 k) k) (upd f.tr k (f.tr k) k) f.ea q)=>(show q.ot=f.A9 k by have:=hq.o3 (upd_same _ _ _) (.inr (upd_same _ _ _));rw [upd_same] at this;exact this));rw [HN.out q hq] at u2;rw [HO.out q hq] at u3;have c1:=Em.drew.lk.raw.cell1;have c3:=Em.drew.lk.raw.AV;have cG:=DV Em.drew.lk (f.A9 k) hp.Nu;have cA:=Cg Em.drew.lk.port u (L.sA (f.A9 k)) 0 1 (by decide) (by decide) hD;change Calls _ _ _ _ (AE _ _ _ (.bool (casT f.ps u (L.sA (f.A9 k)) 0)) _) at cA;rw [hv] at cA;have EK:RowKit.Hid (∀ W:World,LkM W L {f with pc:=upd f.pc k 5,nd:=upd f.nd k (f.nd k),A9:=upd f.A9 k (f.A9 k),tr:=upd f.tr k (f.tr k),ps:=A5 f.ps u 4 (L.sA (f.A9 k)) 0 1} (upd f.s.st k 3)->LkM (W.setCell ⟨L.tb,k*4,none⟩ (.int .i64 5)) L {f with pc:=upd f.pc k 6,nd:=upd f.nd k (f.nd k),A9:=upd f.A9 k (f.A9 k),tr:=upd f.tr k (f.tr k),ps:=A5 f.ps u 4 (L.sA (f.A9 k)) 0 1} (upd f.s.st k 3)/\Wr (One L.tb) W (W.setCell ⟨L.tb,k*4,none⟩ (.int .i64 5))):=Qw (λW g=>by
  have:=g.turns (g.raw.Du k 3 6 (f.nd k) (f.A9 k) (f.tr k) (λp hp=>by dsimp only at hp;simp only [upd_same] at hp;exact hp.Gs (by decide) (by omega)) 5 rfl);simpa only [BF] using this)
 have HE:=Qw (Qz h (Qz Gn Em));clear h hF hs hd hp t1 t2 t3 hT Em hq u0 u1 hv
 go_in
 go_wp2;rw [<-hZ,<-hY];clear hZ hY;go_region_held3 (λw'=>w'.cell? ⟨L.lb,1,none⟩=some (.pointer (some ⟨L.q.p,0,none⟩))/\w'.cell? ⟨L.tb,k*4+3,none⟩=some (.int .u32 (f.A9 k))) (first|exact ⟨c1,u3⟩|exact ⟨d1,y3⟩) (first|((with_reducible refine cG.mono ?_);rintro e w' ⟨rfl,rfl⟩)|((with_reducible refine cA.mono ?_);intro e w2 hq;unfold AE at hq;obtain ⟨rfl,hP,hW⟩:=hq;have hA:=HE.out.2.2.drew.lk.Ac hP hW;have AJ:=Fr.call HE.out.1 HE.out.2.2.drew hA (B_ hW);have d1:=hA.raw.cell1;have d3:=hA.raw.AV;obtain ⟨p',hp',y0,y1,y2,y3⟩:=hA.raw.Aa HE.out.2.1;rw [(show p'.nd=f.nd k from HN.out _ hp')] at y2;rw [(show p'.ot=f.A9 k from HO.out _ hp')] at y3;have z0:=hA.raw.BO (k*4);have hT:=EK.out _ hA;have Az:=Fr.call HE.out.1 AJ hT.1 (BH hT.2);obtain ⟨v0,v1,v2,v3⟩:=Az.cell;obtain ⟨x0,x1,x2,x3⟩:=Az.Am;have HT:=Qw Az;clear Az hT;clear hA AJ hP hW hp'))
 go_wp2;exact zz0
theorem Sf {w:World} {L:Lp} {f:FL} (h:LkAt w L f) (k:Nat) (hk:k<f.s.n) (u:Int) (hs:f.s.st k=3) (hd:f.pc k=4) (hD:f.ps.D.length<4611686018427387904) (hv:casT f.ps u (L.sA (f.A9 k)) 0=false):
  Calls prog 179 #[.pointer (some ⟨L.lb,0,none⟩),.int .i64 (k:Int),.int .i64 u] w (A_ w L (f.rel L k u) (upd f.s.st k (Ai 3 (f.AX k).ev)) (f.AX k).val):=by
 have e1:f.rel L k u={f with pc:=upd f.pc k 5,nd:=upd f.nd k (f.nd k),A9:=upd f.A9 k (f.A9 k),tr:=upd f.tr k (f.tr k),ps:=A5 f.ps u 4 (L.sA (f.A9 k)) 0 1}:=by unfold FL.rel;rw [Qq (by omega),Qq (by omega),Qq (by omega),Qj hd,Qq (by rw [hv];decide),AA f.nd k rfl,AA f.A9 k rfl,AA f.tr k rfl]
 have e2:f.AX k=Dd.no:=by unfold FL.AX;rw [Qj (by omega)]
 rw [e1,e2];rw [show Ai 3 (Dd.ev Dd.no)=3 from by decide];clear e1 e2;have hF:=Fr.start h;obtain ⟨Z,hZ⟩:∃ Z,Z=w.alloc (.cells #[.int .i64 0,.bool false,.bool false,.bool false] 102):=⟨_,rfl⟩
 rw [<-hZ] at hF;have Cy:(k:Int)<f.s.n:=by omega
 have c4:=hF.lk.raw.Av;obtain ⟨p,hp,t0,t1,t2,t3⟩:=hF.lk.raw.Aa hk;rw [hs,hd] at hp;rw [hd] at t0;rw [hZ] at c4 t0;have z0:=hF.lk.raw.BO (k*4);have hT:=hF.lk.turns (hF.lk.raw.Du k 3 5 (f.nd k) (f.A9 k) (f.tr k) (λp hp=>by rw [hs,hd] at hp;exact hp.Gs (by decide) (by omega)) 4 rfl);have Em:=Fr.call h hF hT.1 (BH hT.2);obtain ⟨Y,hY⟩:∃ Y,Y=Z.setCell ⟨L.tb,k*4,none⟩ (.int .i64 4):=⟨_,rfl⟩
 rw [<-hY] at Em;rw [hZ] at z0;have Gn:k<({f with pc:=upd f.pc k 5,nd:=upd f.nd k (f.nd k),A9:=upd f.A9 k (f.A9 k),tr:=upd f.tr k (f.tr k)}:FL).s.n:=hk;obtain ⟨q,hq,u0,u1,u2,u3⟩:=Em.drew.lk.raw.Aa Gn;have HN:=Qw (λ(q:Pc) (hq:BJ (upd f.s.st k 3 k) (upd f.pc k 5 k) (upd f.nd k (f.nd k) k) (upd f.A9 k (f.A9 k) k) (upd f.tr k (f.tr k) k) f.ea q)=>(show q.nd=f.nd k by have:=hq.n1 (.inr (upd_same _ _ _));rw [upd_same] at this;exact this));have HO:=Qw (λ(q:Pc) (hq:BJ (upd f.s.st k 3 k) (upd f.pc k 5 k) (upd f.nd k (f.nd k) k) (upd f.A9 k (f.A9 k) k) (upd f.tr k (f.tr k) k) f.ea q)=>(show q.ot=f.A9 k by have:=hq.o3 (upd_same _ _ _) (.inr (upd_same _ _ _));rw [upd_same] at this;exact this));rw [HN.out q hq] at u2;rw [HO.out q hq] at u3;have c1:=Em.drew.lk.raw.cell1;have c3:=Em.drew.lk.raw.AV;have cG:=DV Em.drew.lk (f.A9 k) hp.Nu;have cA:=Cg Em.drew.lk.port u (L.sA (f.A9 k)) 0 1 (by decide) (by decide) hD;change Calls _ _ _ _ (AE _ _ _ (.bool (casT f.ps u (L.sA (f.A9 k)) 0)) _) at cA;rw [hv] at cA;have EK:RowKit.Hid (∀ W:World,LkM W L {f with pc:=upd f.pc k 5,nd:=upd f.nd k (f.nd k),A9:=upd f.A9 k (f.A9 k),tr:=upd f.tr k (f.tr k),ps:=A5 f.ps u 4 (L.sA (f.A9 k)) 0 1} (upd f.s.st k 3)->LkM (W.setCell ⟨L.tb,k*4,none⟩ (.int .i64 5)) L {f with pc:=upd f.pc k 6,nd:=upd f.nd k (f.nd k),A9:=upd f.A9 k (f.A9 k),tr:=upd f.tr k (f.tr k),ps:=A5 f.ps u 4 (L.sA (f.A9 k)) 0 1} (upd f.s.st k 3)/\Wr (One L.tb) W (W.setCell ⟨L.tb,k*4,none⟩ (.int .i64 5))):=Qw (λW g=>by
  have:=g.turns (g.raw.Du k 3 6 (f.nd k) (f.A9 k) (f.tr k) (λp hp=>by dsimp only at hp;simp only [upd_same] at hp;exact hp.Gs (by decide) (by omega)) 5 rfl);simpa only [BF] using this)
 have HE:=Qw (Qz h (Qz Gn Em));clear h hF hs hd hp t1 t2 t3 hT Em hq u0 u1 hv
 go_in
 go_wp2;rw [<-hZ,<-hY];clear hZ hY;go_region_held3 (λw'=>w'.cell? ⟨L.lb,1,none⟩=some (.pointer (some ⟨L.q.p,0,none⟩))/\w'.cell? ⟨L.tb,k*4+3,none⟩=some (.int .u32 (f.A9 k))) (first|exact ⟨c1,u3⟩|exact ⟨d1,y3⟩) (first|((with_reducible refine cG.mono ?_);rintro e w' ⟨rfl,rfl⟩)|((with_reducible refine cA.mono ?_);intro e w2 hq;unfold AE at hq;obtain ⟨rfl,hP,hW⟩:=hq;have hA:=HE.out.2.2.drew.lk.Ac hP hW;have AJ:=Fr.call HE.out.1 HE.out.2.2.drew hA (B_ hW);have d1:=hA.raw.cell1;have d3:=hA.raw.AV;obtain ⟨p',hp',y0,y1,y2,y3⟩:=hA.raw.Aa HE.out.2.1;rw [(show p'.nd=f.nd k from HN.out _ hp')] at y2;rw [(show p'.ot=f.A9 k from HO.out _ hp')] at y3;obtain ⟨v0,v1,v2,v3⟩:=AJ.cell;obtain ⟨x0,x1,x2,x3⟩:=AJ.Am;have HT:=Qw AJ;clear hA AJ hP hW hp'))
 go_wp2;exact zz0
theorem VE {w:World} {L:Lp} {f:FL} (h:LkAt w L f) (k:Nat) (hk:k<f.s.n) (u:Int) (hs:f.s.st k=3) (hd:f.pc k=5) (hD:f.ps.D.length<4611686018427387904):
  Calls prog 179 #[.pointer (some ⟨L.lb,0,none⟩),.int .i64 (k:Int),.int .i64 u] w (A_ w L (f.rel L k u) (upd f.s.st k (Ai 3 (f.AX k).ev)) (f.AX k).val):=by
 have e1:f.rel L k u={f with pc:=upd f.pc k 1,nd:=upd f.nd k (f.A9 k),A9:=upd f.A9 k (f.A9 k),tr:=upd f.tr k (f.tr k),ps:=A5 f.ps u 2 (L.oA (f.nd k)) 0 0}:=by unfold FL.rel;rw [Qq (by omega),Qq (by omega),Qq (by omega),Qq (by omega),Qj hd,AA f.A9 k rfl,AA f.tr k rfl]
 have e2:f.AX k=Dd.no:=by unfold FL.AX;rw [Qj (by omega)]
 rw [e1,e2];rw [show Ai 3 (Dd.ev Dd.no)=3 from by decide];clear e1 e2;have hF:=Fr.start h;obtain ⟨Z,hZ⟩:∃ Z,Z=w.alloc (.cells #[.int .i64 0,.bool false,.bool false,.bool false] 102):=⟨_,rfl⟩
 rw [<-hZ] at hF;have Cy:(k:Int)<f.s.n:=by omega
 have c4:=hF.lk.raw.Av;obtain ⟨p,hp,t0,t1,t2,t3⟩:=hF.lk.raw.Aa hk;rw [hs,hd] at hp;rw [hd] at t0;have n2:Z.drew.cell? ⟨L.tb,k*4+2,none⟩=some (.int .u32 (f.nd k)):=by rw [<-hp.n1 (.inr rfl)];exact t2
 have c1:=hF.drew.lk.raw.cell1;have c3:=hF.drew.lk.raw.AV;rw [hZ] at c4 t0;have cG:=Hu hF.drew.lk (f.nd k) hp.nr;have cA:=B0 hF.drew.lk.port u (L.oA (f.nd k)) 0 (by decide) (by decide) hD;have hr:=hp.Ya (by decide);have EK:=Qw (λ(W:World) (g:LkM W L {f with ps:=A5 f.ps u 2 (L.oA (f.nd k)) 0 0} f.s.st)=>g.turns (g.raw.KQ k 3 1 (f.A9 k) (f.A9 k) (f.tr k) 0 0 (f.A9 k) 0 (by rw [hr];exact BJ.cf hp.Nu hp.Nu h.raw.each.1)));have HN:=Qw (λ(q:Pc) (hq:BJ (f.s.st k) (f.pc k) (f.nd k) (f.A9 k) (f.tr k) f.ea q)=>hq.n1 (.inr hs));have HO:=Qw (λ(q:Pc) (hq:BJ (f.s.st k) (f.pc k) (f.nd k) (f.A9 k) (f.tr k) f.ea q)=>hq.o3 hs (.inr hd));have HE:=Qw (Qz h (Qz hk hF));clear h hF hs hd hp t1 t2 t3 hr
 go_in
 go_wp2;rw [<-hZ];clear hZ;go_region_held3 (λw'=>w'.cell? ⟨L.lb,1,none⟩=some (.pointer (some ⟨L.q.p,0,none⟩))/\w'.cell? ⟨L.tb,k*4+2,none⟩=some (.int .u32 (f.nd k))) (first|exact ⟨c1,n2⟩|exact ⟨d1,y2⟩) (first|((with_reducible refine cG.mono ?_);rintro e w' ⟨rfl,rfl⟩)|((with_reducible refine cA.mono ?_);intro e w2 hq;unfold AE at hq;obtain ⟨rfl,hP,hW⟩:=hq;have hA:=HE.out.2.2.drew.lk.Ac hP hW;have AJ:=Fr.call HE.out.1 HE.out.2.2.drew hA (B_ hW);have d1:=hA.raw.cell1;have d3:=hA.raw.AV;obtain ⟨p',hp',y0,y1,y2,y3⟩:=hA.raw.Aa HE.out.2.1;rw [(show p'.nd=f.nd k from HN.out _ hp')] at y2;rw [(show p'.ot=f.A9 k from HO.out _ hp')] at y3;have z0:=hA.raw.BO (k*4);have z1:=hA.raw.BO (k*4+1);have z2:=hA.raw.BO (k*4+2);have z3:=hA.raw.BO (k*4+3);have hT:=EK.out _ hA;have Az:=Fr.call HE.out.1 AJ hT.1 (BH hT.2);obtain ⟨v0,v1,v2,v3⟩:=Az.cell;obtain ⟨x0,x1,x2,x3⟩:=Az.Am;have HT:=Qw Az;clear Az hT;clear hA AJ hP hW hp'))
 go_wp2;exact zz0
theorem VF {w:World} {L:Lp} {f:FL} (h:LkAt w L f) (k:Nat) (hk:k<f.s.n) (u:Int) (hs:f.s.st k=3) (hd:f.pc k=6) (hD:f.ps.D.length<4611686018427387904):
  Calls prog 179 #[.pointer (some ⟨L.lb,0,none⟩),.int .i64 (k:Int),.int .i64 u] w (A_ w L (f.rel L k u) (upd f.s.st k (Ai 3 (f.AX k).ev)) (f.AX k).val):=by
 have e1:f.rel L k u={f with pc:=upd f.pc k 1,nd:=upd f.nd k (f.nd k),A9:=upd f.A9 k (f.A9 k),tr:=upd f.tr k 0,ps:=A5 f.ps u 2 (L.oA (f.nd k)) 0 0}:=by unfold FL.rel;rw [Qq (by omega),Qq (by omega),Qq (by omega),Qq (by omega),Qq (by omega),AA f.nd k rfl,AA f.A9 k rfl]
 have e2:f.AX k=⟨3,false,false,false⟩:=by unfold FL.AX;rw [Qq (by omega)]
 rw [e1,e2];rw [show Ai 3 (Dd.ev ⟨3,false,false,false⟩)=0 from by decide];clear e1 e2;have hF:=Fr.start h;obtain ⟨Z,hZ⟩:∃ Z,Z=w.alloc (.cells #[.int .i64 0,.bool false,.bool false,.bool false] 102):=⟨_,rfl⟩
 rw [<-hZ] at hF;have Cy:(k:Int)<f.s.n:=by omega
 have c4:=hF.lk.raw.Av;obtain ⟨p,hp,t0,t1,t2,t3⟩:=hF.lk.raw.Aa hk;rw [hs,hd] at hp;rw [hd] at t0;have n2:Z.drew.cell? ⟨L.tb,k*4+2,none⟩=some (.int .u32 (f.nd k)):=by rw [<-hp.n1 (.inr rfl)];exact t2
 have c1:=hF.drew.lk.raw.cell1;have c3:=hF.drew.lk.raw.AV;rw [hZ] at c4 t0;have cG:=Hu hF.drew.lk (f.nd k) hp.nr;have cA:=B0 hF.drew.lk.port u (L.oA (f.nd k)) 0 (by decide) (by decide) hD;have HC:=Qw (λ(W:World) (g:LkM W L {f with ps:=A5 f.ps u 2 (L.oA (f.nd k)) 0 0} f.s.st)=>EF g k hk (f.nd k) hp.nr 3);have HN:=Qw (λ(q:Pc) (hq:BJ (f.s.st k) (f.pc k) (f.nd k) (f.A9 k) (f.tr k) f.ea q)=>hq.n1 (.inr hs));have HE:=Qw (Qz h (Qz hk hF));clear h hF hs hd hp t1 t2 t3
 go_in
 go_wp2;rw [<-hZ];clear hZ;go_region_held3 (λw'=>w'.cell? ⟨L.lb,1,none⟩=some (.pointer (some ⟨L.q.p,0,none⟩))/\w'.cell? ⟨L.tb,k*4+2,none⟩=some (.int .u32 (f.nd k))) (first|exact ⟨c1,n2⟩|exact ⟨d1,y2⟩) (first|((with_reducible refine cG.mono ?_);rintro e w' ⟨rfl,rfl⟩)|((with_reducible refine cA.mono ?_);intro e w2 hq;unfold AE at hq;obtain ⟨rfl,hP,hW⟩:=hq;have hA:=HE.out.2.2.drew.lk.Ac hP hW;have AJ:=Fr.call HE.out.1 HE.out.2.2.drew hA (B_ hW);have d1:=hA.raw.cell1;have d3:=hA.raw.AV;obtain ⟨p',hp',y0,y1,y2,y3⟩:=hA.raw.Aa HE.out.2.1;rw [(show p'.nd=f.nd k from HN.out _ hp')] at y2;have HA:=Qw AJ;have cE:=HC.out _ hA;clear hA AJ hP hW hp'))
 go_wp2_with (first|((with_reducible refine cE.mono ?_);intro e w3 hq;unfold A_ at hq;obtain ⟨rfl,hB,Ba⟩:=hq;dsimp only [Dd.val];have BX:=Fr.call HE.out.1 HA.out hB Ba;obtain ⟨v0,v1,v2,v3⟩:=BX.cell;obtain ⟨x0,x1,x2,x3⟩:=BX.Am;have HT:=Qw BX;clear hB BX Ba))
 exact zzc
theorem EU {w:World} {L:Lp} {f:FL} (h:LkAt w L f) (k:Nat) (hk:k<f.s.n) (u:Int) (hs:f.s.st k=3) (hD:f.ps.D.length<4611686018427387904):
  Calls prog 179 #[.pointer (some ⟨L.lb,0,none⟩),.int .i64 (k:Int),.int .i64 u] w (A_ w L (f.rel L k u) (upd f.s.st k (Ai (f.s.st k) (f.AX k).ev)) (f.AX k).val):=by
 obtain ⟨p,hp⟩:=h.raw.bO k;have hr:=hp.pr;have oH:=hp.rel hs;have:f.pc k=1\/f.pc k=2\/f.pc k=3\/f.pc k=4\/f.pc k=5\/f.pc k=6:=by omega
 rw [show Ai (f.s.st k)=Ai 3 by rw [hs]];rcases this with hd|hd|hd|hd|hd|hd
 ·exact LJ h k hk u hs hd hD
 ·cases hv:casT f.ps u L.a1 (f.nd k)
  ·exact Sd h k hk u hs hd hD hv
  ·exact Sc h k hk u hs hd hD hv
 ·exact LK h k hk u hs hd hD
 ·cases hv:casT f.ps u (L.sA (f.A9 k)) 0
  ·exact Sf h k hk u hs hd hD hv
  ·exact Se h k hk u hs hd hD hv
 ·exact VE h k hk u hs hd hD
 ·exact VF h k hk u hs hd hD
end Go.Proofs.YtmnephejhkfchaaGreat.Ka

import Derived.Test.YtmnephejhkfchaaGreatAbortAcq
namespace Go.Proofs.YtmnephejhkfchaaGreat.Ka
set_option maxHeartbeats 8000000
open _root_.Go.Proofs.Tryz
open Go.RowKit Go.BigFrame
set_option linter.unusedVariables false
set_option maxRecDepth 100000
theorem SQ {w:World} {L:Lp} {f:FL} (h:LkAt w L f) (k:Nat) (hk:k<f.s.n) (u x:Int) (hs:f.s.st k=1) (hd:f.pc k=7) (hD:f.ps.D.length<4611686018427387904) (hv:A6 f.ps u 1 (L.sA (f.nd k))≠0):
  Calls prog 185 #[.pointer (some ⟨L.lb,0,none⟩),.int .i64 (k:Int),.int .i64 u,.int .i64 x] w (A_ w L (f.acq L k u x) (upd f.s.st k (Ai 1 (f.A7 L k u x).ev)) (f.A7 L k u x).val):=by
 have e1:f.acq L k u x={f with pc:=upd f.pc k 1,nd:=upd f.nd k (f.nd k),A9:=upd f.A9 k (f.A9 k),tr:=upd f.tr k 0,ps:=A5 f.ps u 1 (L.sA (f.nd k)) 0 0}:=by unfold FL.acq;rw [Qq (by omega),Qq (by omega),Qq (by omega),Qq (by omega),Qq (by omega),Qq (by omega),Qj hd,Qj hv,Qj hv,AA f.nd k rfl,AA f.A9 k rfl]
 have e2:f.A7 L k u x=⟨1,false,false,false⟩:=by unfold FL.A7;rw [Qq (by omega),Qq (by omega),Qq (by omega),Qq (by omega),Qq (by omega),Qq (by omega),Qj hd,Qj hv]
 rw [e1,e2];rw [show Ai 1 (Dd.ev ⟨1,false,false,false⟩)=2 from by decide];clear e1 e2;have hF:=Fr.start h;obtain ⟨Z,hZ⟩:∃ Z,Z=w.alloc (.cells #[.int .i64 0,.bool false,.bool false,.bool false] 102):=⟨_,rfl⟩
 rw [<-hZ] at hF;have Cy:(k:Int)<f.s.n:=by omega
 have c4:=hF.lk.raw.Av;obtain ⟨p,hp,t0,t1,t2,t3⟩:=hF.lk.raw.Aa hk;rw [hs,hd] at hp;rw [hd] at t0;have n2:Z.drew.cell? ⟨L.tb,k*4+2,none⟩=some (.int .u32 (f.nd k)):=by rw [<-hp.n0 (by decide)];exact t2
 have c1:=hF.drew.lk.raw.cell1;have c3:=hF.drew.lk.raw.AV;rw [hZ] at c4 t0;have cG:=DV hF.drew.lk (f.nd k) hp.nr;have cA:=Al hF.drew.lk.port u (L.sA (f.nd k)) hD;have HC:=Qw (λ(W:World) (g:LkM W L {f with ps:=A5 f.ps u 1 (L.sA (f.nd k)) 0 0} f.s.st)=>Hs g k hk (show f.pc k≠1 by omega) (f.A9 k) hp.Nu);have HN:=Qw (λ(q:Pc) (hq:BJ (f.s.st k) (f.pc k) (f.nd k) (f.A9 k) (f.tr k) f.ea q)=>hq.n0 (by omega));generalize A6 f.ps u 1 (L.sA (f.nd k))=v at*;have b1:(v != 0)=true:=by simpa [bne,BEq.beq] using hv
 exact zz78
theorem SR {w:World} {L:Lp} {f:FL} (h:LkAt w L f) (k:Nat) (hk:k<f.s.n) (u x:Int) (hs:f.s.st k=1) (hd:f.pc k=7) (hD:f.ps.D.length<4611686018427387904) (hv:A6 f.ps u 1 (L.sA (f.nd k))=0) (hq:f.due k x):
  Calls prog 185 #[.pointer (some ⟨L.lb,0,none⟩),.int .i64 (k:Int),.int .i64 u,.int .i64 x] w (A_ w L (f.acq L k u x) (upd f.s.st k (Ai 1 (f.A7 L k u x).ev)) (f.A7 L k u x).val):=by
 have e1:f.acq L k u x={f with pc:=upd f.pc k 8,nd:=upd f.nd k (f.nd k),A9:=upd f.A9 k (f.A9 k),tr:=upd f.tr k (f.tr k),ps:=A5 f.ps u 1 (L.sA (f.nd k)) 0 0}:=by unfold FL.acq;rw [Qq (by omega),Qq (by omega),Qq (by omega),Qq (by omega),Qq (by omega),Qq (by omega),Qj hd,Qq (λq=>q hv),Qj hq,Qq (λq=>q hv),AA f.nd k rfl,AA f.A9 k rfl]
 have e2:f.A7 L k u x=Dd.no:=by unfold FL.A7;rw [Qq (by omega),Qq (by omega),Qq (by omega),Qq (by omega),Qq (by omega),Qq (by omega),Qj hd,Qq (λq=>q hv)]
 rw [e1,e2];rw [show Ai 1 (Dd.ev Dd.no)=1 from by decide];clear e1 e2;have hF:=Fr.start h;obtain ⟨Z,hZ⟩:∃ Z,Z=w.alloc (.cells #[.int .i64 0,.bool false,.bool false,.bool false] 102):=⟨_,rfl⟩
 rw [<-hZ] at hF;have Cy:(k:Int)<f.s.n:=by omega
 have c4:=hF.lk.raw.Av;obtain ⟨p,hp,t0,t1,t2,t3⟩:=hF.lk.raw.Aa hk;rw [hs,hd] at hp;rw [hd] at t0;have n2:Z.drew.cell? ⟨L.tb,k*4+2,none⟩=some (.int .u32 (f.nd k)):=by rw [<-hp.n0 (by decide)];exact t2
 have c1:=hF.drew.lk.raw.cell1;have c3:=hF.drew.lk.raw.AV;rw [hZ] at c4 t0;have Sr:f.s.dl k≠-1:=by have:=hq.1;omega
 have hge:f.s.dl k<=x:=hq.2;have cG:=DV hF.drew.lk (f.nd k) hp.nr;have cA:=Al hF.drew.lk.port u (L.sA (f.nd k)) hD;rw [hv] at cA;have EK:=Qw (λ(W:World) (g:LkM W L {f with ps:=A5 f.ps u 1 (L.sA (f.nd k)) 0 0} f.s.st)=>g.turns (g.raw.Du k 1 8 (f.nd k) (f.A9 k) (f.tr k) (λp hp=>by rw [hs,hd] at hp;exact hp.next (by decide) (by decide) (by decide)) 7 rfl));have HD:RowKit.Hid (∀ W:World,SeatAt W L.p L.b f.s->Calls prog 191 #[.pointer (some ⟨L.p,0,none⟩),.int .i64 (k:Int)] W λe w'=>e= .returned (.int .i64 (f.s.dl k))/\W=w'):=Qw (λW g=>by
  have:=Fs g (k:Int);unfold SS.Yu at this;rw [Qj (show 0<=(k:Int)/\(k:Int)<f.s.n by omega),Int.toNat_natCast,Qj hs] at this;exact this)
 have HN:=Qw (λ(q:Pc) (hq:BJ (f.s.st k) (f.pc k) (f.nd k) (f.A9 k) (f.tr k) f.ea q)=>hq.n0 (by omega));have HE:=Qw (Qz h (Qz hk hF));clear h hF hs hd hp t1 t2 t3 hv;generalize f.s.dl k=dl at*;have b1:(dl != -1)=true:=by simpa [bne,BEq.beq] using Sr
 have b2:decide (dl<=x)=true:=decide_eq_true hge;clear hq Sr hge
 go_in
 go_wp2;rw [<-hZ];clear hZ;go_region_held3 (λw'=>w'.cell? ⟨L.lb,1,none⟩=some (.pointer (some ⟨L.q.p,0,none⟩))/\w'.cell? ⟨L.tb,k*4+2,none⟩=some (.int .u32 (f.nd k))) (first|exact ⟨c1,n2⟩|exact ⟨d1,y2⟩) (first|((with_reducible refine cG.mono ?_);rintro e w' ⟨rfl,rfl⟩)|((with_reducible refine cA.mono ?_);intro e w2 hq;unfold AE at hq;obtain ⟨rfl,hP,hW⟩:=hq;have hA:=HE.out.2.2.drew.lk.Ac hP hW;have AJ:=Fr.call HE.out.1 HE.out.2.2.drew hA (B_ hW);have d1:=hA.raw.cell1;have d3:=hA.raw.AV;obtain ⟨p',hp',y0,y1,y2,y3⟩:=hA.raw.Aa HE.out.2.1;rw [(show p'.nd=f.nd k from HN.out _ hp')] at y2;have hT:=EK.out _ hA;have cD:=HD.out _ hA.raw.seat;have d0:=hA.raw.cell0;have z0:=hA.raw.BO (k*4);have Az:=Fr.call HE.out.1 AJ hT.1 (BH hT.2);obtain ⟨v0,v1,v2,v3⟩:=Az.cell;obtain ⟨x0,x1,x2,x3⟩:=Az.Am;have HT:=Qw Az;clear Az hT;clear hA AJ hP hW hp'))
 go_wp2_with (first|((with_reducible refine cD.mono ?_);rintro e w' ⟨rfl,rfl⟩))
 exact zz0
theorem SU {w:World} {L:Lp} {f:FL} (h:LkAt w L f) (k:Nat) (hk:k<f.s.n) (u x:Int) (hs:f.s.st k=1) (hd:f.pc k=7) (hD:f.ps.D.length<4611686018427387904) (hv:A6 f.ps u 1 (L.sA (f.nd k))=0) (hq:¬ f.due k x) (Sr:f.s.dl k≠-1):
  Calls prog 185 #[.pointer (some ⟨L.lb,0,none⟩),.int .i64 (k:Int),.int .i64 u,.int .i64 x] w (A_ w L (f.acq L k u x) (upd f.s.st k (Ai 1 (f.A7 L k u x).ev)) (f.A7 L k u x).val):=by
 have e1:f.acq L k u x={f with pc:=upd f.pc k 7,nd:=upd f.nd k (f.nd k),A9:=upd f.A9 k (f.A9 k),tr:=upd f.tr k (f.tr k),ps:=A5 f.ps u 1 (L.sA (f.nd k)) 0 0}:=by unfold FL.acq;rw [Qq (by omega),Qq (by omega),Qq (by omega),Qq (by omega),Qq (by omega),Qq (by omega),Qj hd,Qq (λq=>q hv),Qq hq,Qq (λq=>q hv),AA f.nd k rfl,AA f.A9 k rfl]
 have e2:f.A7 L k u x=Dd.no:=by unfold FL.A7;rw [Qq (by omega),Qq (by omega),Qq (by omega),Qq (by omega),Qq (by omega),Qq (by omega),Qj hd,Qq (λq=>q hv)]
 rw [e1,e2];rw [show Ai 1 (Dd.ev Dd.no)=1 from by decide];clear e1 e2;have hF:=Fr.start h;obtain ⟨Z,hZ⟩:∃ Z,Z=w.alloc (.cells #[.int .i64 0,.bool false,.bool false,.bool false] 102):=⟨_,rfl⟩
 rw [<-hZ] at hF;have Cy:(k:Int)<f.s.n:=by omega
 have c4:=hF.lk.raw.Av;obtain ⟨p,hp,t0,t1,t2,t3⟩:=hF.lk.raw.Aa hk;rw [hs,hd] at hp;rw [hd] at t0;have n2:Z.drew.cell? ⟨L.tb,k*4+2,none⟩=some (.int .u32 (f.nd k)):=by rw [<-hp.n0 (by decide)];exact t2
 have c1:=hF.drew.lk.raw.cell1;have c3:=hF.drew.lk.raw.AV;rw [hZ] at c4 t0;have hge:¬ f.s.dl k<=x:=λq=>hq ⟨by have:=h.raw.np.2.2 k;omega,q⟩;have cG:=DV hF.drew.lk (f.nd k) hp.nr;have cA:=Al hF.drew.lk.port u (L.sA (f.nd k)) hD;rw [hv] at cA;have EK:=Qw (λ(W:World) (g:LkM W L {f with ps:=A5 f.ps u 1 (L.sA (f.nd k)) 0 0} f.s.st)=>g.KV (g.raw.I6 k 1 7 (f.nd k) (f.A9 k) (f.tr k) (λp hp=>by rw [hs,hd] at hp;exact hp)));have HD:RowKit.Hid (∀ W:World,SeatAt W L.p L.b f.s->Calls prog 191 #[.pointer (some ⟨L.p,0,none⟩),.int .i64 (k:Int)] W λe w'=>e= .returned (.int .i64 (f.s.dl k))/\W=w'):=Qw (λW g=>by
  have:=Fs g (k:Int);unfold SS.Yu at this;rw [Qj (show 0<=(k:Int)/\(k:Int)<f.s.n by omega),Int.toNat_natCast,Qj hs] at this;exact this)
 have HN:=Qw (λ(q:Pc) (hq:BJ (f.s.st k) (f.pc k) (f.nd k) (f.A9 k) (f.tr k) f.ea q)=>hq.n0 (by omega));have HE:=Qw (Qz h (Qz hk hF));clear h hF hs hd hp t1 t2 t3 hv;generalize f.s.dl k=dl at*;have b1:(dl != -1)=true:=by simpa [bne,BEq.beq] using Sr
 have b2:decide (dl<=x)=false:=decide_eq_false hge;clear Sr hge hq;exact zz79
theorem SV {w:World} {L:Lp} {f:FL} (h:LkAt w L f) (k:Nat) (hk:k<f.s.n) (u x:Int) (hs:f.s.st k=1) (hd:f.pc k=7) (hD:f.ps.D.length<4611686018427387904) (hv:A6 f.ps u 1 (L.sA (f.nd k))=0) (hq:¬ f.due k x) (Sr:f.s.dl k= -1):
  Calls prog 185 #[.pointer (some ⟨L.lb,0,none⟩),.int .i64 (k:Int),.int .i64 u,.int .i64 x] w (A_ w L (f.acq L k u x) (upd f.s.st k (Ai 1 (f.A7 L k u x).ev)) (f.A7 L k u x).val):=by
 have e1:f.acq L k u x={f with pc:=upd f.pc k 7,nd:=upd f.nd k (f.nd k),A9:=upd f.A9 k (f.A9 k),tr:=upd f.tr k (f.tr k),ps:=A5 f.ps u 1 (L.sA (f.nd k)) 0 0}:=by unfold FL.acq;rw [Qq (by omega),Qq (by omega),Qq (by omega),Qq (by omega),Qq (by omega),Qq (by omega),Qj hd,Qq (λq=>q hv),Qq hq,Qq (λq=>q hv),AA f.nd k rfl,AA f.A9 k rfl]
 have e2:f.A7 L k u x=Dd.no:=by unfold FL.A7;rw [Qq (by omega),Qq (by omega),Qq (by omega),Qq (by omega),Qq (by omega),Qq (by omega),Qj hd,Qq (λq=>q hv)]
 rw [e1,e2];rw [show Ai 1 (Dd.ev Dd.no)=1 from by decide];clear e1 e2;have hF:=Fr.start h;obtain ⟨Z,hZ⟩:∃ Z,Z=w.alloc (.cells #[.int .i64 0,.bool false,.bool false,.bool false] 102):=⟨_,rfl⟩
 rw [<-hZ] at hF;have Cy:(k:Int)<f.s.n:=by omega
 have c4:=hF.lk.raw.Av;obtain ⟨p,hp,t0,t1,t2,t3⟩:=hF.lk.raw.Aa hk;rw [hs,hd] at hp;rw [hd] at t0;have n2:Z.drew.cell? ⟨L.tb,k*4+2,none⟩=some (.int .u32 (f.nd k)):=by rw [<-hp.n0 (by decide)];exact t2
 have c1:=hF.drew.lk.raw.cell1;have c3:=hF.drew.lk.raw.AV;rw [hZ] at c4 t0;have cG:=DV hF.drew.lk (f.nd k) hp.nr;have cA:=Al hF.drew.lk.port u (L.sA (f.nd k)) hD;rw [hv] at cA;have EK:=Qw (λ(W:World) (g:LkM W L {f with ps:=A5 f.ps u 1 (L.sA (f.nd k)) 0 0} f.s.st)=>g.KV (g.raw.I6 k 1 7 (f.nd k) (f.A9 k) (f.tr k) (λp hp=>by rw [hs,hd] at hp;exact hp)));have HD:RowKit.Hid (∀ W:World,SeatAt W L.p L.b f.s->Calls prog 191 #[.pointer (some ⟨L.p,0,none⟩),.int .i64 (k:Int)] W λe w'=>e= .returned (.int .i64 (f.s.dl k))/\W=w'):=Qw (λW g=>by
  have:=Fs g (k:Int);unfold SS.Yu at this;rw [Qj (show 0<=(k:Int)/\(k:Int)<f.s.n by omega),Int.toNat_natCast,Qj hs] at this;exact this)
 have HN:=Qw (λ(q:Pc) (hq:BJ (f.s.st k) (f.pc k) (f.nd k) (f.A9 k) (f.tr k) f.ea q)=>hq.n0 (by omega));have HE:=Qw (Qz h (Qz hk hF));clear h hF hs hd hp t1 t2 t3 hv hq;rw [Sr] at HD;clear Sr;exact zz79
theorem VB {w:World} {L:Lp} {f:FL} (h:LkAt w L f) (k:Nat) (hk:k<f.s.n) (u x:Int) (hs:f.s.st k=1) (hd:f.pc k=7) (hD:f.ps.D.length<4611686018427387904):
  Calls prog 185 #[.pointer (some ⟨L.lb,0,none⟩),.int .i64 (k:Int),.int .i64 u,.int .i64 x] w (A_ w L (f.acq L k u x) (upd f.s.st k (Ai 1 (f.A7 L k u x).ev)) (f.A7 L k u x).val):=by
 by_cases hv:A6 f.ps u 1 (L.sA (f.nd k))=0
 ·by_cases hq:f.due k x
  ·exact SR h k hk u x hs hd hD hv hq
  ·by_cases Sr:f.s.dl k= -1
   ·exact SV h k hk u x hs hd hD hv hq Sr
   ·exact SU h k hk u x hs hd hD hv hq Sr
 ·exact SQ h k hk u x hs hd hD hv
theorem SI {w:World} {L:Lp} {f:FL} (h:LkAt w L f) (k:Nat) (hk:k<f.s.n) (u x:Int) (hs:f.s.st k=1) (hd:f.pc k=8) (hD:f.ps.D.length<4611686018427387904) (hv:casT f.ps u (L.sA (f.nd k)) 0=true):
  Calls prog 186 #[.pointer (some ⟨L.lb,0,none⟩),.int .i64 (k:Int),.int .i64 u] w (A_ w L (f.acq L k u x) (upd f.s.st k (Ai 1 (f.A7 L k u x).ev)) (f.A7 L k u x).val):=by
 have e1:f.acq L k u x={f with pc:=upd f.pc k 1,nd:=upd f.nd k (f.nd k),A9:=upd f.A9 k (f.A9 k),tr:=upd f.tr k 0,ps:=A5 f.ps u 4 (L.sA (f.nd k)) 0 2}:=by unfold FL.acq;rw [Qq (by omega),Qq (by omega),Qq (by omega),Qq (by omega),Qq (by omega),Qq (by omega),Qq (by omega),AA f.nd k rfl,AA f.A9 k rfl]
 have e2:f.A7 L k u x=⟨2,false,false,false⟩:=by unfold FL.A7;rw [Qq (by omega),Qq (by omega),Qq (by omega),Qq (by omega),Qq (by omega),Qq (by omega),Qq (by omega),Qj hv]
 rw [e1,e2];rw [show Ai 1 (Dd.ev ⟨2,false,false,false⟩)=0 from by decide];clear e1 e2;have hF:=Fr.start h;obtain ⟨Z,hZ⟩:∃ Z,Z=w.alloc (.cells #[.int .i64 0,.bool false,.bool false,.bool false] 102):=⟨_,rfl⟩
 rw [<-hZ] at hF;have Cy:(k:Int)<f.s.n:=by omega
 have c4:=hF.lk.raw.Av;obtain ⟨p,hp,t0,t1,t2,t3⟩:=hF.lk.raw.Aa hk;rw [hs,hd] at hp;rw [hd] at t0;have n2:Z.drew.cell? ⟨L.tb,k*4+2,none⟩=some (.int .u32 (f.nd k)):=by rw [<-hp.n0 (by decide)];exact t2
 have c1:=hF.drew.lk.raw.cell1;have c3:=hF.drew.lk.raw.AV;rw [hZ] at c4 t0;have cG:=DV hF.drew.lk (f.nd k) hp.nr;have cA:=Cg hF.drew.lk.port u (L.sA (f.nd k)) 0 2 (by decide) (by decide) hD;change Calls _ _ _ _ (AE _ _ _ (.bool (casT f.ps u (L.sA (f.nd k)) 0)) _) at cA;rw [hv] at cA;have HC:=Qw (λ(W:World) (g:LkM W L {f with ps:=A5 f.ps u 4 (L.sA (f.nd k)) 0 2} f.s.st)=>EF g k hk (f.nd k) hp.nr 2);have HN:=Qw (λ(q:Pc) (hq:BJ (f.s.st k) (f.pc k) (f.nd k) (f.A9 k) (f.tr k) f.ea q)=>hq.n0 (by omega));have HE:=Qw (Qz h (Qz hk hF));clear h hF hs hd hp t1 t2 t3 hv
 go_in
 go_wp2;rw [<-hZ];clear hZ;go_region_held3 (λw'=>w'.cell? ⟨L.lb,1,none⟩=some (.pointer (some ⟨L.q.p,0,none⟩))/\w'.cell? ⟨L.tb,k*4+2,none⟩=some (.int .u32 (f.nd k))) (first|exact ⟨c1,n2⟩|exact ⟨d1,y2⟩) (first|((with_reducible refine cG.mono ?_);rintro e w' ⟨rfl,rfl⟩)|((with_reducible refine cA.mono ?_);intro e w2 hq;unfold AE at hq;obtain ⟨rfl,hP,hW⟩:=hq;have hA:=HE.out.2.2.drew.lk.Ac hP hW;have AJ:=Fr.call HE.out.1 HE.out.2.2.drew hA (B_ hW);have d1:=hA.raw.cell1;have d3:=hA.raw.AV;obtain ⟨p',hp',y0,y1,y2,y3⟩:=hA.raw.Aa HE.out.2.1;rw [(show p'.nd=f.nd k from HN.out _ hp')] at y2;have HA:=Qw AJ;have cE:=HC.out _ hA;clear hA AJ hP hW hp'))
 go_wp2_with (first|((with_reducible refine cE.mono ?_);intro e w3 hq;unfold A_ at hq;obtain ⟨rfl,hB,Ba⟩:=hq;dsimp only [Dd.val];have BX:=Fr.call HE.out.1 HA.out hB Ba;obtain ⟨v0,v1,v2,v3⟩:=BX.cell;obtain ⟨x0,x1,x2,x3⟩:=BX.Am;have HT:=Qw BX;clear hB BX Ba))
 refine bodyPost_ret (v:=Dd.val ⟨2,false,false,false⟩) (results_cell_row rfl _ _ w.heap.size 102 _ (0,0) _ rfl (AO HT.out.res rfl _ _ _ _) underlying102 rfl AB) rfl (HT.out.told HE.out.1 ⟨2,false,false,false⟩)
theorem SJ {w:World} {L:Lp} {f:FL} (h:LkAt w L f) (k:Nat) (hk:k<f.s.n) (u x:Int) (hs:f.s.st k=1) (hd:f.pc k=8) (hD:f.ps.D.length<4611686018427387904) (hv:casT f.ps u (L.sA (f.nd k)) 0=false):
  Calls prog 186 #[.pointer (some ⟨L.lb,0,none⟩),.int .i64 (k:Int),.int .i64 u] w (A_ w L (f.acq L k u x) (upd f.s.st k (Ai 1 (f.A7 L k u x).ev)) (f.A7 L k u x).val):=by
 have e1:f.acq L k u x={f with pc:=upd f.pc k 1,nd:=upd f.nd k (f.nd k),A9:=upd f.A9 k (f.A9 k),tr:=upd f.tr k 0,ps:=A5 f.ps u 4 (L.sA (f.nd k)) 0 2}:=by unfold FL.acq;rw [Qq (by omega),Qq (by omega),Qq (by omega),Qq (by omega),Qq (by omega),Qq (by omega),Qq (by omega),AA f.nd k rfl,AA f.A9 k rfl]
 have e2:f.A7 L k u x=⟨1,false,false,false⟩:=by unfold FL.A7;rw [Qq (by omega),Qq (by omega),Qq (by omega),Qq (by omega),Qq (by omega),Qq (by omega),Qq (by omega),Qq (by rw [hv];decide)]
 rw [e1,e2];rw [show Ai 1 (Dd.ev ⟨1,false,false,false⟩)=2 from by decide];clear e1 e2;have hF:=Fr.start h;obtain ⟨Z,hZ⟩:∃ Z,Z=w.alloc (.cells #[.int .i64 0,.bool false,.bool false,.bool false] 102):=⟨_,rfl⟩
 rw [<-hZ] at hF;have Cy:(k:Int)<f.s.n:=by omega
 have c4:=hF.lk.raw.Av;obtain ⟨p,hp,t0,t1,t2,t3⟩:=hF.lk.raw.Aa hk;rw [hs,hd] at hp;rw [hd] at t0;have n2:Z.drew.cell? ⟨L.tb,k*4+2,none⟩=some (.int .u32 (f.nd k)):=by rw [<-hp.n0 (by decide)];exact t2
 have c1:=hF.drew.lk.raw.cell1;have c3:=hF.drew.lk.raw.AV;rw [hZ] at c4 t0;have cG:=DV hF.drew.lk (f.nd k) hp.nr;have cA:=Cg hF.drew.lk.port u (L.sA (f.nd k)) 0 2 (by decide) (by decide) hD;change Calls _ _ _ _ (AE _ _ _ (.bool (casT f.ps u (L.sA (f.nd k)) 0)) _) at cA;rw [hv] at cA;have HC:=Qw (λ(W:World) (g:LkM W L {f with ps:=A5 f.ps u 4 (L.sA (f.nd k)) 0 2} f.s.st)=>Hs g k hk (show f.pc k≠1 by omega) (f.A9 k) hp.Nu);have HN:=Qw (λ(q:Pc) (hq:BJ (f.s.st k) (f.pc k) (f.nd k) (f.A9 k) (f.tr k) f.ea q)=>hq.n0 (by omega));exact zz78
theorem V_ {w:World} {L:Lp} {f:FL} (h:LkAt w L f) (k:Nat) (hk:k<f.s.n) (u x:Int) (hs:f.s.st k=1) (hd:f.pc k=8) (hD:f.ps.D.length<4611686018427387904):
  Calls prog 186 #[.pointer (some ⟨L.lb,0,none⟩),.int .i64 (k:Int),.int .i64 u] w (A_ w L (f.acq L k u x) (upd f.s.st k (Ai 1 (f.A7 L k u x).ev)) (f.A7 L k u x).val):=by
 cases hv:casT f.ps u (L.sA (f.nd k)) 0
 ·exact SJ h k hk u x hs hd hD hv
 ·exact SI h k hk u x hs hd hD hv
end Go.Proofs.YtmnephejhkfchaaGreat.Ka

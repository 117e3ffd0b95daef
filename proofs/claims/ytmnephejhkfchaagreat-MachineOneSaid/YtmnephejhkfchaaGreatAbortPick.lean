import Derived.Test.YtmnephejhkfchaaGreatAbortLook
namespace Go.Proofs.YtmnephejhkfchaaGreat.Ka
set_option maxHeartbeats 8000000
open _root_.Go.Proofs.Tryz
open Go.RowKit Go.BigFrame
set_option linter.unusedVariables false
set_option maxRecDepth 100000
theorem SX {w:World} {L:Lp} {f:FL} (h:LkAt w L f) (k:Nat) (hk:k<f.s.n) (u x:Int) (hs:f.s.st k=1) (hd:f.pc k=1) (hD:f.ps.D.length<4611686018427387904) (hv:A6 f.ps u 1 (L.oA (f.id k))=0):
  Calls prog 180 #[.pointer (some ⟨L.lb,0,none⟩),.int .i64 (k:Int),.int .i64 u] w (A_ w L (f.acq L k u x) (upd f.s.st k (Ai 1 (f.A7 L k u x).ev)) (f.A7 L k u x).val):=by
 have e1:f.acq L k u x={f with pc:=upd f.pc k 2,nd:=upd f.nd k (f.id k),A9:=upd f.A9 k (f.A9 k),tr:=upd f.tr k (f.tr k+1),ps:=A5 f.ps u 1 (L.oA (f.id k)) 0 0}:=by unfold FL.acq;rw [Qj hd,Qj hv,Qq (λq=>q.1 hv),AA f.A9 k rfl]
 have e2:f.A7 L k u x=Dd.no:=by unfold FL.A7;rw [Qj hd,Qq (λq=>q.1 hv)]
 rw [e1,e2];rw [show Ai 1 (Dd.ev Dd.no)=1 from by decide];clear e1 e2;have hF:=Fr.start h;obtain ⟨Z,hZ⟩:∃ Z,Z=w.alloc (.cells #[.int .i64 0,.bool false,.bool false,.bool false] 102):=⟨_,rfl⟩
 rw [<-hZ] at hF;have Cy:(k:Int)<f.s.n:=by omega
 have c4:=hF.lk.raw.Av;obtain ⟨p,hp,t0,t1,t2,t3⟩:=hF.lk.raw.Aa hk;rw [hs,hd] at hp;rw [hd] at t0;have c1:=hF.drew.lk.raw.cell1;have c3:=hF.drew.lk.raw.AV;rw [hZ] at c4 t0;rw [<-hZ] at c4;have Ra:=hp.U_ (by decide) rfl;obtain ⟨j,hj⟩:=Qx hp.U9.1;rw [Ra.2,hj] at t1;have Zy:j<f.ea:=by have:=Ra.1;omega
 have Ww:=hF.lk.raw.each;have DL:=hF.lk.raw.seat.n2;have J_:f.id k=(k:Int)*f.ea+j+1:=by unfold FL.id;rw [hj]
 have hkn:(k:Int)*f.ea<=512:=zz5g;have Ly:0<=(k:Int)*f.ea:=Int.mul_nonneg (by omega) (by omega);have hid:0<=f.id k/\f.id k<4294967296:=by rw [J_];omega
 have w1:IntKind.u32.wrap (f.id k)=f.id k:=by rw [IntKind.wrap_u32];omega
 have w2:IntKind.i64.wrap ((j:Int)+1)=(j:Int)+1:=by rw [IntKind.wrap_i64];omega
 have kr:(0:Int)<=(j:Int):=by omega
 have ku:(j:Int)<(f.ea:Int):=by omega
 obtain ⟨Q,c2,hQ⟩:=hF.drew.lk.raw.AY;have hrow:(E6 f.s.n f.ea).Lg (k:Int)=(List.range f.ea).map λj=>k*f.ea+j+1:=zz2f;have cR:=Nz hQ (k:Int) (by rw [hrow,List.length_map,List.length_range];omega);rw [hrow] at cR;have ZF:RowKit.Hid (∀ (W:World) (so:Option Addr) (cap:Nat),W.ownsRow Z.drew.heap.size 3 1 (.slice so ((List.range f.ea).map λj=>k*f.ea+j+1).length cap) ((List.range f.ea).map λj=>k*f.ea+j+1).length (((List.range f.ea).map λj=>k*f.ea+j+1).map MR)->((List.range f.ea).map λj=>k*f.ea+j+1).length=f.ea/\∃ g,so=some ⟨g,0,none⟩/\W.cell? ⟨g,j,none⟩=some (.int .i64 (f.id k))):=Qw (λW so cap ho=>by
  have hlen:((List.range f.ea).map λj=>k*f.ea+j+1).length=f.ea:=by rw [List.length_map,List.length_range]
  refine ⟨hlen,?_⟩;rcases H7 ho with h0|⟨g,hg,hc⟩
  ·rw [hlen] at h0;omega
  ·refine ⟨g,hg,?_⟩
   rw [hc j (k*f.ea+j+1) (by rw [List.getElem?_map,List.getElem?_range Zy];rfl),J_]
   norm_cast)
 have cG:=λ(X:World) (g:LkM X L f f.s.st)=>Hu g (f.id k) hid;have cA:=λ(X:World) (g:LkM X L f f.s.st)=>Al g.port u (L.oA (f.id k)) hD;rw [hv] at cA;have EK:=Qw (λ(W:World) (g:LkM W L {f with ps:=A5 f.ps u 1 (L.oA (f.id k)) 0 0} f.s.st)=>g.turns (g.raw.KQ k 1 2 (f.id k) (f.A9 k) (f.tr k+1) 1 0 (f.id k) 0 (BJ.dS hid hp.Nu (show 0<=f.tr k+1/\f.tr k+1<=(f.ea:Int) by omega))));exact zz75
theorem SY {w:World} {L:Lp} {f:FL} (h:LkAt w L f) (k:Nat) (hk:k<f.s.n) (u x:Int) (hs:f.s.st k=1) (hd:f.pc k=1) (hD:f.ps.D.length<4611686018427387904) (hv:A6 f.ps u 1 (L.oA (f.id k))≠0/\f.tr k+1=f.ea):
  Calls prog 180 #[.pointer (some ⟨L.lb,0,none⟩),.int .i64 (k:Int),.int .i64 u] w (A_ w L (f.acq L k u x) (upd f.s.st k (Ai 1 (f.A7 L k u x).ev)) (f.A7 L k u x).val):=by
 have e1:f.acq L k u x={f with pc:=upd f.pc k 1,nd:=upd f.nd k (f.id k),A9:=upd f.A9 k (f.A9 k),tr:=upd f.tr k 0,ps:=A5 f.ps u 1 (L.oA (f.id k)) 0 0}:=by unfold FL.acq;rw [Qj hd,Qq hv.1,Qj hv,AA f.A9 k rfl]
 have e2:f.A7 L k u x=⟨6,false,false,false⟩:=by unfold FL.A7;rw [Qj hd,Qj hv]
 rw [e1,e2];rw [show Ai 1 (Dd.ev ⟨6,false,false,false⟩)=0 from by decide];clear e1 e2;have hF:=Fr.start h;obtain ⟨Z,hZ⟩:∃ Z,Z=w.alloc (.cells #[.int .i64 0,.bool false,.bool false,.bool false] 102):=⟨_,rfl⟩
 rw [<-hZ] at hF;have Cy:(k:Int)<f.s.n:=by omega
 have c4:=hF.lk.raw.Av;obtain ⟨p,hp,t0,t1,t2,t3⟩:=hF.lk.raw.Aa hk;rw [hs,hd] at hp;rw [hd] at t0;have c1:=hF.drew.lk.raw.cell1;have c3:=hF.drew.lk.raw.AV;rw [hZ] at c4 t0;rw [<-hZ] at c4;have Ra:=hp.U_ (by decide) rfl;obtain ⟨j,hj⟩:=Qx hp.U9.1;rw [Ra.2,hj] at t1;have Zy:j<f.ea:=by have:=Ra.1;omega
 have Ww:=hF.lk.raw.each;have DL:=hF.lk.raw.seat.n2;have J_:f.id k=(k:Int)*f.ea+j+1:=by unfold FL.id;rw [hj]
 have hkn:(k:Int)*f.ea<=512:=zz5g;have Ly:0<=(k:Int)*f.ea:=Int.mul_nonneg (by omega) (by omega);have hid:0<=f.id k/\f.id k<4294967296:=by rw [J_];omega
 have w1:IntKind.u32.wrap (f.id k)=f.id k:=by rw [IntKind.wrap_u32];omega
 have w2:IntKind.i64.wrap ((j:Int)+1)=(j:Int)+1:=by rw [IntKind.wrap_i64];omega
 have kr:(0:Int)<=(j:Int):=by omega
 have ku:(j:Int)<(f.ea:Int):=by omega
 obtain ⟨Q,c2,hQ⟩:=hF.drew.lk.raw.AY;have hrow:(E6 f.s.n f.ea).Lg (k:Int)=(List.range f.ea).map λj=>k*f.ea+j+1:=zz2f;have cR:=Nz hQ (k:Int) (by rw [hrow,List.length_map,List.length_range];omega);rw [hrow] at cR;have ZF:RowKit.Hid (∀ (W:World) (so:Option Addr) (cap:Nat),W.ownsRow Z.drew.heap.size 3 1 (.slice so ((List.range f.ea).map λj=>k*f.ea+j+1).length cap) ((List.range f.ea).map λj=>k*f.ea+j+1).length (((List.range f.ea).map λj=>k*f.ea+j+1).map MR)->((List.range f.ea).map λj=>k*f.ea+j+1).length=f.ea/\∃ g,so=some ⟨g,0,none⟩/\W.cell? ⟨g,j,none⟩=some (.int .i64 (f.id k))):=Qw (λW so cap ho=>by
  have hlen:((List.range f.ea).map λj=>k*f.ea+j+1).length=f.ea:=by rw [List.length_map,List.length_range]
  refine ⟨hlen,?_⟩;rcases H7 ho with h0|⟨g,hg,hc⟩
  ·rw [hlen] at h0;omega
  ·refine ⟨g,hg,?_⟩
   rw [hc j (k*f.ea+j+1) (by rw [List.getElem?_map,List.getElem?_range Zy];rfl),J_]
   norm_cast)
 have cG:=λ(X:World) (g:LkM X L f f.s.st)=>Hu g (f.id k) hid;have cA:=λ(X:World) (g:LkM X L f f.s.st)=>Al g.port u (L.oA (f.id k)) hD;have b1:(A6 f.ps u 1 (L.oA (f.id k))==0)=false:=beq_false_of_ne hv.1;have b3:((j:Int)+1==(f.ea:Int))=true:=by rw [<-hj,hv.2];exact beq_self_eq_true _
 generalize A6 f.ps u 1 (L.oA (f.id k))=v at*;have HC:RowKit.Hid (∀ W:World,LkM W L {f with ps:=A5 f.ps u 1 (L.oA (f.id k)) 0 0} f.s.st->Wr (One L.tb) W (W.setCell ⟨L.tb,k*4+1,none⟩ (.int .i64 ((j:Int)+1)))/\Calls prog 188 #[.pointer (some ⟨L.tb,k*4,none⟩),.int .i64 6] (W.setCell ⟨L.tb,k*4+1,none⟩ (.int .i64 ((j:Int)+1))) (A_ (W.setCell ⟨L.tb,k*4+1,none⟩ (.int .i64 ((j:Int)+1))) L {f with pc:=upd f.pc k 1,nd:=upd f.nd k (f.id k),A9:=upd f.A9 k (f.A9 k),tr:=upd f.tr k 0,ps:=A5 f.ps u 1 (L.oA (f.id k)) 0 0} (upd f.s.st k 0) (Dd.val ⟨6,false,false,false⟩))):=Qw (λW g=>by
  have hT:=g.turns (g.raw.cw k 9 1 (f.id k) (f.A9 k) 0 ((j:Int)+1) (λp hp=>by rw [hs,hd] at hp;exact hp.Zb hid));refine ⟨hT.2,?_⟩;have:=EF hT.1 k hk (f.id k) hid 6;simpa only [BF,upd_same] using this)
 have HP:=Qw (λ(q:Pc) (hq:BJ (f.s.st k) (f.pc k) (f.nd k) (f.A9 k) (f.tr k) f.ea q)=>(hq.U_ (by omega) hd).2.trans hj);have HE:=Qw (Qz h (Qz hk hF));have HG:=Qw cG;have ZE:=Qw cA;have T1:Z.drew.cell? ⟨L.tb,k*4+1,none⟩=some (.int .i64 (j:Int)):=t1;clear h hF hs hd hp t0 t1 t2 t3 hQ hrow Ra hj Ww DL J_ hkn Ly hid cG cA c1 c3 hv;generalize f.id k=i at*
 go_in
 go_wp2;rw [<-hZ];clear hZ;go_region_held3 (λw'=>w'.cell? ⟨L.lb,4,none⟩=some (.slice (some ⟨L.tb,0,none⟩) f.s.n f.s.n)/\w'.cell? ⟨L.lb,2,none⟩=some (.pointer (some ⟨Q.p,0,none⟩))) (first|exact ⟨e4,e2⟩|exact ⟨c4,c2⟩) (first|((with_reducible refine cR.mono ?_);rintro e X ⟨so,cap,rfl,hO,hW⟩;obtain ⟨hlen,g,rfl,hcell⟩:=ZF.out _ _ _ hO;rw [hlen];have hX:=HE.out.2.2.drew.after hW;have e4:=hX.lk.raw.Av;have e2:=hW.cell c2 id;have jT:=hW.cell T1 id;have cG:=HG.out _ hX.drew.lk;have cA:=ZE.out _ hX.drew.lk;have f1:=hX.drew.lk.raw.cell1;have HX:=Qw hX;clear hX hO hlen hW))
 go_wp2;go_region_held3 (λw'=>w'.cell? ⟨L.lb,1,none⟩=some (.pointer (some ⟨L.q.p,0,none⟩))) (first|exact d1|exact f1) (first|((with_reducible refine cG.mono ?_);rintro e w' ⟨rfl,rfl⟩)|((with_reducible refine cA.mono ?_);intro e w2 hq;unfold AE at hq;obtain ⟨rfl,hP,hW⟩:=hq;have hA:=HX.out.drew.lk.Ac hP hW;have AJ:=Fr.call HE.out.1 HX.out.drew hA (B_ hW);have d1:=hA.raw.cell1;obtain ⟨p',hp',y0,y1,y2,y3⟩:=hA.raw.Aa HE.out.2.1;rw [(show p'.tr=(j:Int) from HP.out _ hp')] at y1;have z0:=hA.raw.BO (k*4);have z1:=hA.raw.BO (k*4+1);have z2:=hA.raw.BO (k*4+2);have z3:=hA.raw.BO (k*4+3);have HA:=Qw AJ;have hT:=HC.out _ hA;have cE:=hT.2;have ZG:=Qw hT.1;clear hT;clear hA AJ hP hW hp'))
 go_wp2_with (first|((with_reducible refine cE.mono ?_);intro e w3 hq;unfold A_ at hq;obtain ⟨rfl,hB,Ba⟩:=hq;dsimp only [Dd.val];have BX:=Fr.call HE.out.1 HA.out hB (TA (BH ZG.out) Ba);obtain ⟨v0,v1,v2,v3⟩:=BX.cell;obtain ⟨x0,x1,x2,x3⟩:=BX.Am;have HT:=Qw BX;clear hB BX Ba))
 refine bodyPost_ret (v:=Dd.val ⟨6,false,false,false⟩) (results_cell_row rfl _ _ w.heap.size 102 _ (0,0) _ rfl (AO HT.out.res rfl _ _ _ _) underlying102 rfl AB) rfl (HT.out.told HE.out.1 ⟨6,false,false,false⟩)
theorem SZ {w:World} {L:Lp} {f:FL} (h:LkAt w L f) (k:Nat) (hk:k<f.s.n) (u x:Int) (hs:f.s.st k=1) (hd:f.pc k=1) (hD:f.ps.D.length<4611686018427387904) (hv:A6 f.ps u 1 (L.oA (f.id k))≠0/\f.tr k+1≠f.ea):
  Calls prog 180 #[.pointer (some ⟨L.lb,0,none⟩),.int .i64 (k:Int),.int .i64 u] w (A_ w L (f.acq L k u x) (upd f.s.st k (Ai 1 (f.A7 L k u x).ev)) (f.A7 L k u x).val):=by
 have e1:f.acq L k u x={f with pc:=upd f.pc k 1,nd:=upd f.nd k (f.id k),A9:=upd f.A9 k (f.A9 k),tr:=upd f.tr k (f.tr k+1),ps:=A5 f.ps u 1 (L.oA (f.id k)) 0 0}:=by unfold FL.acq;rw [Qj hd,Qq hv.1,Qq (λq=>hv.2 q.2),AA f.A9 k rfl]
 have e2:f.A7 L k u x=Dd.no:=by unfold FL.A7;rw [Qj hd,Qq (λq=>hv.2 q.2)]
 rw [e1,e2];rw [show Ai 1 (Dd.ev Dd.no)=1 from by decide];clear e1 e2;have hF:=Fr.start h;obtain ⟨Z,hZ⟩:∃ Z,Z=w.alloc (.cells #[.int .i64 0,.bool false,.bool false,.bool false] 102):=⟨_,rfl⟩
 rw [<-hZ] at hF;have Cy:(k:Int)<f.s.n:=by omega
 have c4:=hF.lk.raw.Av;obtain ⟨p,hp,t0,t1,t2,t3⟩:=hF.lk.raw.Aa hk;rw [hs,hd] at hp;rw [hd] at t0;have c1:=hF.drew.lk.raw.cell1;have c3:=hF.drew.lk.raw.AV;rw [hZ] at c4 t0;rw [<-hZ] at c4;have Ra:=hp.U_ (by decide) rfl;obtain ⟨j,hj⟩:=Qx hp.U9.1;rw [Ra.2,hj] at t1;have Zy:j<f.ea:=by have:=Ra.1;omega
 have Ww:=hF.lk.raw.each;have DL:=hF.lk.raw.seat.n2;have J_:f.id k=(k:Int)*f.ea+j+1:=by unfold FL.id;rw [hj]
 have hkn:(k:Int)*f.ea<=512:=zz5g;have Ly:0<=(k:Int)*f.ea:=Int.mul_nonneg (by omega) (by omega);have hid:0<=f.id k/\f.id k<4294967296:=by rw [J_];omega
 have w1:IntKind.u32.wrap (f.id k)=f.id k:=by rw [IntKind.wrap_u32];omega
 have w2:IntKind.i64.wrap ((j:Int)+1)=(j:Int)+1:=by rw [IntKind.wrap_i64];omega
 have kr:(0:Int)<=(j:Int):=by omega
 have ku:(j:Int)<(f.ea:Int):=by omega
 obtain ⟨Q,c2,hQ⟩:=hF.drew.lk.raw.AY;have hrow:(E6 f.s.n f.ea).Lg (k:Int)=(List.range f.ea).map λj=>k*f.ea+j+1:=zz2f;have cR:=Nz hQ (k:Int) (by rw [hrow,List.length_map,List.length_range];omega);rw [hrow] at cR;have ZF:RowKit.Hid (∀ (W:World) (so:Option Addr) (cap:Nat),W.ownsRow Z.drew.heap.size 3 1 (.slice so ((List.range f.ea).map λj=>k*f.ea+j+1).length cap) ((List.range f.ea).map λj=>k*f.ea+j+1).length (((List.range f.ea).map λj=>k*f.ea+j+1).map MR)->((List.range f.ea).map λj=>k*f.ea+j+1).length=f.ea/\∃ g,so=some ⟨g,0,none⟩/\W.cell? ⟨g,j,none⟩=some (.int .i64 (f.id k))):=Qw (λW so cap ho=>by
  have hlen:((List.range f.ea).map λj=>k*f.ea+j+1).length=f.ea:=by rw [List.length_map,List.length_range]
  refine ⟨hlen,?_⟩;rcases H7 ho with h0|⟨g,hg,hc⟩
  ·rw [hlen] at h0;omega
  ·refine ⟨g,hg,?_⟩
   rw [hc j (k*f.ea+j+1) (by rw [List.getElem?_map,List.getElem?_range Zy];rfl),J_]
   norm_cast)
 have cG:=λ(X:World) (g:LkM X L f f.s.st)=>Hu g (f.id k) hid;have cA:=λ(X:World) (g:LkM X L f f.s.st)=>Al g.port u (L.oA (f.id k)) hD;have b1:(A6 f.ps u 1 (L.oA (f.id k))==0)=false:=beq_false_of_ne hv.1;have b2:¬ (j:Int)+1=(f.ea:Int):=by rw [<-hj];exact hv.2
 have b3:((j:Int)+1==(f.ea:Int))=false:=beq_false_of_ne b2;have hlt:f.tr k+1<f.ea:=by have:=hp.U_ (by decide) rfl;omega
 generalize A6 f.ps u 1 (L.oA (f.id k))=v at*;have EK:RowKit.Hid (∀ W:World,LkM W L {f with ps:=A5 f.ps u 1 (L.oA (f.id k)) 0 0} f.s.st->LkM (W.setCell ⟨L.tb,k*4+1,none⟩ (.int .i64 ((j:Int)+1))) L {f with pc:=upd f.pc k 1,nd:=upd f.nd k (f.id k),A9:=upd f.A9 k (f.A9 k),tr:=upd f.tr k (f.tr k+1),ps:=A5 f.ps u 1 (L.oA (f.id k)) 0 0} (upd f.s.st k 1)/\Wr (One L.tb) W (W.setCell ⟨L.tb,k*4+1,none⟩ (.int .i64 ((j:Int)+1)))):=Qw (λW g=>by
  have hT:=g.turns (g.raw.cw k 1 1 (f.id k) (f.A9 k) (f.tr k+1) (f.tr k+1) (λp hp=>by rw [hs,hd] at hp;exact hp.jF hid hlt));rw [hj] at hT ⊢;exact hT)
 clear hlt;exact zz75
theorem VC {w:World} {L:Lp} {f:FL} (h:LkAt w L f) (k:Nat) (hk:k<f.s.n) (u x:Int) (hs:f.s.st k=1) (hd:f.pc k=1) (hD:f.ps.D.length<4611686018427387904):
  Calls prog 180 #[.pointer (some ⟨L.lb,0,none⟩),.int .i64 (k:Int),.int .i64 u] w (A_ w L (f.acq L k u x) (upd f.s.st k (Ai 1 (f.A7 L k u x).ev)) (f.A7 L k u x).val):=by
 by_cases hv:A6 f.ps u 1 (L.oA (f.id k))=0
 ·exact SX h k hk u x hs hd hD hv
 ·by_cases hq:f.tr k+1=f.ea
  ·exact SY h k hk u x hs hd hD ⟨hv,hq⟩
  ·exact SZ h k hk u x hs hd hD ⟨hv,hq⟩
theorem DT {w:World} {L:Lp} {f:FL} (h:LkAt w L f) (k:Nat) (hk:k<f.s.n) (u x:Int) (hs:f.s.st k=1) (hd:f.pc k=1) (hD:f.ps.D.length<4611686018427387904):
  Calls prog 178 #[.pointer (some ⟨L.lb,0,none⟩),.int .i64 (k:Int),.int .i64 u,.int .i64 x] w (A_ w L (f.acq L k u x) (upd f.s.st k (Ai 1 (f.A7 L k u x).ev)) (f.A7 L k u x).val):=by
 have hF:=Fr.start h;obtain ⟨Z,hZ⟩:∃ Z,Z=w.alloc (.cells #[.int .i64 0,.bool false,.bool false,.bool false] 102):=⟨_,rfl⟩
 rw [<-hZ] at hF;have Cy:(k:Int)<f.s.n:=by omega
 have c4:=hF.lk.raw.Av;obtain ⟨p,hp,t0,t1,t2,t3⟩:=hF.lk.raw.Aa hk;rw [hd] at t0;rw [hZ] at c4 t0;have cL:=VC hF.lk k hk u x hs hd hD;generalize (upd f.s.st k (Ai 1 (f.A7 L k u x).ev))=σ' at*;generalize f.acq L k u x=g at*;generalize f.A7 L k u x=d at*;have HE:=Qw (Qz h hF);clear h hF hs hd hp t1 t2 t3
 go_in
 go_wp2_with (first
  |(go_at_call 180;rw [<-hZ];(with_reducible refine cL.mono ?_);intro e w2 hq;unfold A_ at hq;obtain ⟨rfl,hB,hW⟩:=hq;dsimp only [Dd.val];have BX:=Fr.call HE.out.1 HE.out.2 hB hW;obtain ⟨v0,v1,v2,v3⟩:=BX.cell;obtain ⟨x0,x1,x2,x3⟩:=BX.Am;have HT:=Qw BX;clear hB BX hW))
 exact zzb
theorem Uy {w:World} {L:Lp} {f:FL} (h:LkAt w L f) (k:Nat) (hk:k<f.s.n) (u x:Int) (hs:f.s.st k=1) (hd:f.pc k=7) (hD:f.ps.D.length<4611686018427387904):
  Calls prog 178 #[.pointer (some ⟨L.lb,0,none⟩),.int .i64 (k:Int),.int .i64 u,.int .i64 x] w (A_ w L (f.acq L k u x) (upd f.s.st k (Ai 1 (f.A7 L k u x).ev)) (f.A7 L k u x).val):=by
 have hF:=Fr.start h;obtain ⟨Z,hZ⟩:∃ Z,Z=w.alloc (.cells #[.int .i64 0,.bool false,.bool false,.bool false] 102):=⟨_,rfl⟩
 rw [<-hZ] at hF;have Cy:(k:Int)<f.s.n:=by omega
 have c4:=hF.lk.raw.Av;obtain ⟨p,hp,t0,t1,t2,t3⟩:=hF.lk.raw.Aa hk;rw [hd] at t0;rw [hZ] at c4 t0;have cL:=VB hF.lk k hk u x hs hd hD;generalize (upd f.s.st k (Ai 1 (f.A7 L k u x).ev))=σ' at*;generalize f.acq L k u x=g at*;generalize f.A7 L k u x=d at*;have HE:=Qw (Qz h hF);clear h hF hs hd hp t1 t2 t3
 go_in
 go_wp2_with (first
  |(go_at_call 185;rw [<-hZ];(with_reducible refine cL.mono ?_);intro e w2 hq;unfold A_ at hq;obtain ⟨rfl,hB,hW⟩:=hq;dsimp only [Dd.val];have BX:=Fr.call HE.out.1 HE.out.2 hB hW;obtain ⟨v0,v1,v2,v3⟩:=BX.cell;obtain ⟨x0,x1,x2,x3⟩:=BX.Am;have HT:=Qw BX;clear hB BX hW))
 exact zzb
theorem Uz {w:World} {L:Lp} {f:FL} (h:LkAt w L f) (k:Nat) (hk:k<f.s.n) (u x:Int) (hs:f.s.st k=1) (hd:f.pc k=8) (hD:f.ps.D.length<4611686018427387904):
  Calls prog 178 #[.pointer (some ⟨L.lb,0,none⟩),.int .i64 (k:Int),.int .i64 u,.int .i64 x] w (A_ w L (f.acq L k u x) (upd f.s.st k (Ai 1 (f.A7 L k u x).ev)) (f.A7 L k u x).val):=by
 have hF:=Fr.start h;obtain ⟨Z,hZ⟩:∃ Z,Z=w.alloc (.cells #[.int .i64 0,.bool false,.bool false,.bool false] 102):=⟨_,rfl⟩
 rw [<-hZ] at hF;have Cy:(k:Int)<f.s.n:=by omega
 have c4:=hF.lk.raw.Av;obtain ⟨p,hp,t0,t1,t2,t3⟩:=hF.lk.raw.Aa hk;rw [hd] at t0;rw [hZ] at c4 t0;have cL:=V_ hF.lk k hk u x hs hd hD;generalize (upd f.s.st k (Ai 1 (f.A7 L k u x).ev))=σ' at*;generalize f.acq L k u x=g at*;generalize f.A7 L k u x=d at*;have HE:=Qw (Qz h hF);clear h hF hs hd hp t1 t2 t3
 go_in
 go_wp2_with (first
  |(go_at_call 186;rw [<-hZ];(with_reducible refine cL.mono ?_);intro e w2 hq;unfold A_ at hq;obtain ⟨rfl,hB,hW⟩:=hq;dsimp only [Dd.val];have BX:=Fr.call HE.out.1 HE.out.2 hB hW;obtain ⟨v0,v1,v2,v3⟩:=BX.cell;obtain ⟨x0,x1,x2,x3⟩:=BX.Am;have HT:=Qw BX;clear hB BX hW))
 exact zzb
theorem ET {w:World} {L:Lp} {f:FL} (h:LkAt w L f) (k:Nat) (hk:k<f.s.n) (u x:Int) (hs:f.s.st k=1) (hD:f.ps.D.length<4611686018427387904):
  Calls prog 178 #[.pointer (some ⟨L.lb,0,none⟩),.int .i64 (k:Int),.int .i64 u,.int .i64 x] w (A_ w L (f.acq L k u x) (upd f.s.st k (Ai (f.s.st k) (f.A7 L k u x).ev)) (f.A7 L k u x).val):=by
 obtain ⟨p,hp⟩:=h.raw.bO k;have hr:=hp.pr;have:f.pc k=1\/f.pc k=2\/f.pc k=3\/f.pc k=4\/f.pc k=5\/f.pc k=6\/f.pc k=7\/f.pc k=8:=by omega
 rw [show Ai (f.s.st k)=Ai 1 by rw [hs]];rcases this with hd|hd|hd|hd|hd|hd|hd|hd
 ·exact DT h k hk u x hs hd hD
 ·exact EE h k hk u x hs hd hD
 ·exact LA h k hk u x hs hd hD
 ·exact LB h k hk u x hs hd hD
 ·exact Uw h k hk u x hs hd hD
 ·exact Ux h k hk u x hs hd hD
 ·exact Uy h k hk u x hs hd hD
 ·exact Uz h k hk u x hs hd hD
end Go.Proofs.YtmnephejhkfchaaGreat.Ka


import Derived.Test.YtmnephejhkfchaaGreatCohortAcq
namespace Go.Proofs.YtmnephejhkfchaaGreat
set_option maxHeartbeats 8000000
open _root_.Go.Proofs.Tryz
open Go.RowKit Go.BigFrame
set_option linter.unusedVariables false
set_option maxRecDepth 100000
theorem SG {w:World} {L:Lp} {f f1:FL} {nx:Nat->Value} (h:LkM w L f nx) {k:Nat} (hk:k<f.s.n) (u:Int) (hD:f.ps.D.length<4611686018427387904) (VW:f1={f with Lc:=upd f.Lc (f.nd k) ((f.Lc (f.nd k)).lock (f.own k:Nat) (-1))}):
  Calls prog 80 #[.pointer (some ⟨L.lb,0,none⟩),.pointer (some ⟨L.tb,k*4,none⟩),.int .i64 u] w
   (A_ w L {f1 with Lc:=upd f1.Lc (f1.nd k) ((f1.lk (f1.nd k)).step (f1.la (f1.nd k):Nat) (f1.own k:Nat) u),ps:=((f1.lk (f1.nd k)).step (f1.la (f1.nd k):Nat) (f1.own k:Nat) u).ps}
     (if ((f1.lk (f1.nd k)).did (f1.la (f1.nd k):Nat) (f1.own k:Nat) u).ev=1 then upd (upd nx k (.func (.func 83) #[] #[])) k (.func (.func 84) #[] #[]) else upd nx k (.func (.func 83) #[] #[]))
     (Dd.val ⟨0,((f1.lk (f1.nd k)).did (f1.la (f1.nd k):Nat) (f1.own k:Nat) u).BW,false,false⟩)):=by
 have hF:=Fr.start h;obtain ⟨n1,n2⟩:=h.raw.GL k hk;obtain ⟨Z,hZ⟩:∃ Z,Z=w.alloc (.cells #[.int .i64 0,.bool false,.bool false,.bool false] 102):=⟨_,rfl⟩
 rw [<-hZ] at hF;have r1:=hF.lk.raw.RQ hk;have cL:=λW (q:Wr Nil Z W)=>DU (hF.lk.after q) hk;unfold Ip.val at cL;have cI:=λW (q:Wr Nil Z W)=>Oz ((hF.lk.after q).raw.loc _ n1 n2) (f.own k:Nat) (-1);have vL:=λm=>((hF.lk.after ((Wr.refl _ Z).drewN m)).raw.loc _ n1 n2).BN;have nL:=(hF.lk.raw.loc _ n1 n2).D2;have hk1:k<f1.s.n:=by rw [VW];exact hk
 have fV:f1.ps.D.length<4611686018427387904:=by rw [VW];exact hD
 have cQ:=λW (q:LkM W L f1 (upd nx k (.func (.func 83) #[] #[])))=>Jy q hk1 u fV;generalize ((f1.lk (f1.nd k)).step (f1.la (f1.nd k):Nat) (f1.own k:Nat) u)=x' at*;generalize ((f1.lk (f1.nd k)).did (f1.la (f1.nd k):Nat) (f1.own k:Nat) u)=d at*;generalize (if d.ev=1 then upd (upd nx k (.func (.func 83) #[] #[])) k (.func (.func 84) #[] #[]) else upd nx k (.func (.func 83) #[] #[]))=nx' at*;have HK:=Qw hk1;have HE:=Qw (Qz h (Qz hk (Qz hF (Qz n1 (Qz n2 (Qz VW fV))))));have HZ:=Qw hZ;clear h hF hZ n1 n2 VW fV
 go_in
 go_wp2;rw [<-HZ.out]
 go_region_held3 (λw'=>w'.cell? ⟨L.tb,k*4+1,none⟩=some (.int .i64 (f.own k:Nat))) (first|exact r1|go_keep) (first
  |(go_at_call 82;(first|(with_reducible refine (cL _ ((Wr.refl _ _).drew)).mono ?_)|(with_reducible refine (cL _ (((Wr.refl _ _).alloc _).drew)).mono ?_));rintro e w1 ⟨rfl,n,rfl⟩)
  |((with_reducible refine (cI _ ((Wr.refl _ _).drewN _)).mono ?_);intro e w2 hq;unfold EO at hq;obtain ⟨rfl,hI,hW⟩:=hq;have Gl:=HE.out.2.2.1.after ((Wr.refl _ Z).drewN (1+n));have hG:=Gl.lk.Nm HE.out.2.2.2.1 HE.out.2.2.2.2.1 hI hW;have r1:=hG.raw.RQ hk;rw [<-HE.out.2.2.2.2.2.1] at hG;have HX:=Qw (Fr.call HE.out.1 Gl hG (Xr Gl.lk HE.out.2.2.2.1 HE.out.2.2.2.2.1 hW));clear Gl hG hI hW))
 have cN:=HX.out.lk.raw.Oe HK.out;have zN:=HX.out.lk.raw.Oh (k*4+2);have hN:=HX.out.lk.FR k (.func (.func 83) #[] #[]);have h2:=Fr.call HE.out.1 HX.out hN.1 (BH HX.out.lk hN.2);obtain ⟨v0,v1,v2,v3⟩:=h2.cell;obtain ⟨x0,x1,x2,x3⟩:=h2.Am;have HT:=Qw h2;clear h2 hN;go_wp2_with ((with_reducible refine (cQ _ HT.out.lk).mono ?_);intro e w3 hq;unfold A_ at hq;obtain ⟨rfl,hA,hW⟩:=hq;dsimp only [Dd.val];have h3:=Fr.call HE.out.1 HT.out hA hW;obtain ⟨v0,v1,v2,v3⟩:=h3.cell;obtain ⟨x0,x1,x2,x3⟩:=h3.Am;have HU:=Qw h3;clear h3 hA hW)
 refine bodyPost_ret (v:=Dd.val ⟨0,d.BW,false,false⟩) (results_cell_row rfl _ _ w.heap.size 102 _ (0,0) _ rfl (AO HU.out.res rfl _ _ _ _) underlying102 rfl AB) rfl (HU.out.told HE.out.1 ⟨0,d.BW,false,false⟩)
theorem SW {w:World} {L:Lp} {f:FL} {nx:Nat->Value} (h:LkM w L f nx) {k:Nat} (hk:k<f.s.n) (u:Int) (hD:f.ps.D.length<4611686018427387904):
  Calls prog 84 #[.pointer (some ⟨L.lb,0,none⟩),.pointer (some ⟨L.tb,k*4,none⟩),.int .i64 u] w
   (A_ w L (if (A6 f.ps u 1 (L.pA (f.nd k)))=0 then {f with G:=f.G.lock (f.nd k:Nat) (-1),ps:=(A5 f.ps u 1 (L.pA (f.nd k)) 0 0)} else {f with ps:=(A5 f.ps u 1 (L.pA (f.nd k)) 0 0)})
     (if (A6 f.ps u 1 (L.pA (f.nd k)))=0 then upd nx k (.func (.func 88) #[] #[]) else upd nx k (.func (.func 87) #[] #[]))
     (if (A6 f.ps u 1 (L.pA (f.nd k)))=0 then Dd.no else ⟨1,false,false,false⟩:Dd).val):=by
 have hF:=Fr.start h;obtain ⟨n1,n2⟩:=h.raw.GL k hk;obtain ⟨Z,hZ⟩:∃ Z,Z=w.alloc (.cells #[.int .i64 0,.bool false,.bool false,.bool false] 102):=⟨_,rfl⟩
 rw [<-hZ] at hF;have c1:=hF.lk.raw.cell1;have cP:=λW (q:Wr Nil Z W)=>Gh (hF.lk.after q) hk;have cA:=λW (q:Wr Nil Z W)=>Al (hF.lk.after q).port u (L.pA (f.nd k)) hD;have vL:=λm=>(hF.lk.after ((Wr.refl _ Z).drewN m)).raw.Cw.BN;have nL:=hF.lk.raw.Cw.D2;generalize A6 f.ps u 1 (L.pA (f.nd k))=v at*;generalize A5 f.ps u 1 (L.pA (f.nd k)) 0 0=ps' at*;have hk':k<({f with ps:=ps'}:FL).s.n:=hk;have HK:=Qw hk;have HE:=Qw (Qz h (Qz hk hF));have HZ:=Qw hZ;clear h hF hZ;by_cases e1:v=0
 ·rw [Qj e1,Qj e1,Qj e1]
  subst e1
  go_in
  go_wp2;rw [<-HZ.out];go_region_held3 (λw'=>w'.cell? ⟨L.lb,1,none⟩=some (.pointer (some ⟨L.q.p,0,none⟩))) (first|exact c1|exact d1|go_keep) (first|((with_reducible refine (cP _ ((Wr.refl _ _).drew)).mono ?_);rintro e w1 ⟨rfl,n,rfl⟩)|((with_reducible refine (cA _ ((Wr.refl _ _).drewN _)).mono ?_);intro e w2 hq;unfold AE at hq;obtain ⟨rfl,hP,hW⟩:=hq;have Gm:=HE.out.2.2.after ((Wr.refl _ Z).drewN (1+n));have hA:=Gm.lk.Ac hP hW;have d1:=hA.raw.cell1;have HX:=Qw (Fr.call HE.out.1 Gm hA (B_ Gm.lk hW));clear Gm hA hP hW))
  have q0:=HX.out.lk.raw.Jl hk;have q4:=HX.out.lk.raw.Av;unfold Ip.val at q4;have cI:=Oz (HX.out.after ((Wr.refl _ w2).drew)).lk.raw.Cw (f.nd k:Nat) (-1);have vL:=(HX.out.after ((Wr.refl _ w2).drew)).lk.raw.Cw.BN;go_wp2
  go_still_tail 10,(by kernel_rfl)
  change wpList _ _ _ _ _ w2.drew;generalize hY:w2.drew=Y at*;have HY:=Qw hY;clear hY;go_wp2_with ((with_reducible refine cI.mono ?_);intro e w3 hq;unfold EO at hq;obtain ⟨rfl,hI,hW⟩:=hq;have Gl:=HX.out.after ((Wr.refl _ w2).drew);rw [HY.out] at Gl;have hG:=Gl.lk.Q9 hI hW;have HX:=Qw (Fr.call HE.out.1 Gl hG (aX Gl.lk hW));clear Gl hG hI hW;have cN:=HX.out.lk.raw.Oe HK.out;have zN:=HX.out.lk.raw.Oh (k*4+2);have hN:=HX.out.lk.FR k (.func (.func 88) #[] #[]);have h2:=Fr.call HE.out.1 HX.out hN.1 (BH HX.out.lk hN.2);obtain ⟨v0,v1,v2,v3⟩:=h2.cell;obtain ⟨x0,x1,x2,x3⟩:=h2.Am;have HT:=Qw h2;clear h2 hN)
  exact zzy
 ·rw [Qq e1,Qq e1,Qq e1]
  have b1:(v != 0)=true:=by simpa using e1
  go_in
  go_wp2;rw [<-HZ.out];go_region_held3 (λw'=>w'.cell? ⟨L.lb,1,none⟩=some (.pointer (some ⟨L.q.p,0,none⟩))) (first|exact c1|exact d1|go_keep) (first|((with_reducible refine (cP _ ((Wr.refl _ _).drew)).mono ?_);rintro e w1 ⟨rfl,n,rfl⟩)|((with_reducible refine (cA _ ((Wr.refl _ _).drewN _)).mono ?_);intro e w2 hq;unfold AE at hq;obtain ⟨rfl,hP,hW⟩:=hq;have Gm:=HE.out.2.2.after ((Wr.refl _ Z).drewN (1+n));have hA:=Gm.lk.Ac hP hW;have d1:=hA.raw.cell1;have HX:=Qw (Fr.call HE.out.1 Gm hA (B_ Gm.lk hW));clear Gm hA hP hW))
  have cN:=HX.out.lk.raw.Oe HK.out;have zN:=HX.out.lk.raw.Oh (k*4+2);have hN:=HX.out.lk.FR k (.func (.func 87) #[] #[]);have h2:=Fr.call HE.out.1 HX.out hN.1 (BH HX.out.lk hN.2);obtain ⟨v0,v1,v2,v3⟩:=h2.cell;obtain ⟨x0,x1,x2,x3⟩:=h2.Am;have HT:=Qw h2;clear h2 hN;go_wp2;exact zzg
theorem MV {w:World} {L:Lp} {f:FL} {nx:Nat->Value} (h:LkM w L f nx) {k:Nat} (hk:k<f.s.n) (u y:Int) (hD:f.ps.D.length<4611686018427387904):
  Calls prog f.G.DK #[.pointer (some ⟨L.gi.lb,0,none⟩),.int .i64 (f.nd k:Nat),.int .i64 u,.int .i64 y] w
   (A_ w L {f with G:=(f.gl.step (f.ga:Nat) (f.nd k:Nat) u),ps:=(f.gl.step (f.ga:Nat) (f.nd k:Nat) u).ps} nx (f.gl.did (f.ga:Nat) (f.nd k:Nat) u).val):=by
 have ha:=h.raw.CM.2.1;refine (P4 h.raw.Cw h.port h.far.1 h.top (f.nd k:Nat) u y hD).mono ?_;rintro e w' ⟨rfl,h1,h2,h3⟩;rw [ha] at h1 h2 ⊢;exact ⟨rfl,h.Zc h1 h2 h3,aY h h3⟩
theorem NQ {w:World} {L:Lp} {f:FL} {nx:Nat->Value} (h:LkM w L f nx) {k:Nat} (hk:k<f.s.n) (u:Int) (hD:f.ps.D.length<4611686018427387904):
  Calls prog 88 #[.pointer (some ⟨L.lb,0,none⟩),.pointer (some ⟨L.tb,k*4,none⟩),.int .i64 u] w
   (A_ w L {f with G:=(f.gl.step (f.ga:Nat) (f.nd k:Nat) u),ps:=(f.gl.step (f.ga:Nat) (f.nd k:Nat) u).ps}
     (if (f.gl.did (f.ga:Nat) (f.nd k:Nat) u).ev=1 then upd nx k (.func (.func 93) #[] #[]) else nx)
     (Dd.val ⟨0,false,(f.gl.did (f.ga:Nat) (f.nd k:Nat) u).BW,false⟩)):=by
 have hF:=Fr.start h;obtain ⟨n1,n2⟩:=h.raw.GL k hk;obtain ⟨Z,hZ⟩:∃ Z,Z=w.alloc (.cells #[.int .i64 0,.bool false,.bool false,.bool false] 102):=⟨_,rfl⟩
 rw [<-hZ] at hF;have c4:=hF.lk.raw.Av;unfold Ip.val at c4;have r0:=hF.lk.raw.Jl hk;have XA:¬ Z.heap.size=L.tb:=by have:=A2 hF.lk.raw.tick;omega
 have XB:¬ L.tb=Z.heap.size:=by have:=A2 hF.lk.raw.tick;omega
 have XC:¬ Z.heap.size=L.lb:=by have:=A2 hF.lk.raw.obj;omega
 have oN:¬ L.lb=Z.heap.size:=by have:=A2 hF.lk.raw.obj;omega
 have vS:=hF.lk.raw.Cw.BG;have cI:=λW (q:Wr Nil Z W)=>MV (hF.lk.after q) hk u 0 hD;have Em:=f.G.Ee;generalize hx':(f.gl.step (f.ga:Nat) (f.nd k:Nat) u)=x' at*;generalize (f.gl.did (f.ga:Nat) (f.nd k:Nat) u)=d at*;generalize f.G.DK=F at*;obtain ⟨f',hf'⟩:∃ f',f'=({f with G:=x',ps:=x'.ps}:FL):=⟨_,rfl⟩
 rw [<-hf'] at cI;rw [<-hf'];have hk':k<f'.s.n:=by rw [hf'];exact hk
 have how:f'.nd=f.nd:=by rw [hf']
 clear hf' hx';obtain ⟨nx',hnx⟩:∃ nx',nx'=(if d.ev=1 then upd nx k (.func (.func 93) #[] #[]) else nx):=⟨_,rfl⟩
 rw [<-hnx];have HK:=Qw hk';have HH:=Qw (Qz how hnx);clear hk' how hnx;have HE:=Qw (Qz h (Qz hk hF));have HZ:=Qw hZ;clear h hF hZ n1 n2
 go_in
 go_wp2;rw [<-HZ.out]
 go_cut [7] from 8 to 19 (λv7 wx=>∃ C,v7= .pointer (some ⟨C,0,none⟩)/\Fd w w.heap.size wx L f' nx C d)
 case first=>
  go_region_held3 (λw'=>w'.cell? ⟨L.lb,4,none⟩=some (.iface L.gi.ty (.pointer (some ⟨L.gi.lb,0,none⟩)))/\w'.cell? ⟨L.tb,k*4,none⟩=some (.int .i64 (f.nd k:Nat))) (first|exact ⟨c4,r0⟩|go_keep) (first
   |((first|(with_reducible refine (cI _ ((Wr.refl _ _).drew)).mono ?_)|(with_reducible refine (cI _ (((Wr.refl _ _).drew).alloc _)).mono ?_)|(with_reducible refine (cI _ (((Wr.refl _ _).alloc _).drew)).mono ?_));intro e w2 hq;unfold A_ at hq;obtain ⟨rfl,hA,hW⟩:=hq;dsimp only [Dd.val];have c4:=hA.raw.Av;unfold Ip.val at c4;have r0:=hA.raw.Jl HK.out;rw [HH.out.1] at r0;first
    |(have hT:=Fd.call (C:=Z.heap.size) HE.out.1 (Fd.after (Fr.did HE.out.2.2 rfl) ((Wr.refl _ _).drew)) hA hW;obtain ⟨p0,p1,p2,p3⟩:=hT.cell;obtain ⟨y0,y1,y2,y3⟩:=hT.Am;have HT:=Qw hT;clear hT)
    |(have hT:=Fd.call (C:=Z.heap.size) HE.out.1 (Fr.did (HE.out.2.2.after ((Wr.refl _ _).drew)) rfl) hA hW;obtain ⟨p0,p1,p2,p3⟩:=hT.cell;obtain ⟨y0,y1,y2,y3⟩:=hT.Am;have HT:=Qw hT;clear hT)
    |have HT:=Qw (Fr.call HE.out.1 (HE.out.2.2.after ((Wr.refl _ _).drew)) hA hW)))
  all_goals
   go_wp2
   go_meet
   first
    |exact ⟨_,rfl,HT.out.keep HE.out.1 d⟩
    |exact ⟨_,rfl,HT.out.laid d⟩
 case rest=>
  obtain ⟨C,rfl,hK⟩:=hcut;obtain ⟨p0,p1,p2,p3⟩:=hK.cell;obtain ⟨v0,v1,v2,v3⟩:=hK.fr.cell;obtain ⟨x0,x1,x2,x3⟩:=hK.fr.Am;by_cases e1:d.ev=1
  ·have e2:=HH.out.2
   rw [Qj e1] at e2;rw [e1] at p0;have cN:=hK.fr.lk.raw.Oe HK.out;have zN:=hK.fr.lk.raw.Oh (k*4+2);obtain ⟨hN,hW⟩:=hK.fr.lk.FR k (.func (.func 93) #[] #[]);have Oq:=hK.call HE.out.1 hN (BH hK.fr.lk hW);rw [<-e2] at Oq;clear e2;obtain ⟨P0,P1,P2,P3⟩:=Oq.cell;obtain ⟨V0,V1,V2,V3⟩:=Oq.fr.cell;obtain ⟨X0,X1,X2,X3⟩:=Oq.fr.Am;have HT:=Qw Oq;clear hK Oq hN hW;exact zz2x
  ·have e2:=HH.out.2
   rw [Qq e1] at e2;rw [<-e2] at hK;clear e2;have b1:(d.ev==1)=false:=by rw [<-Bool.not_eq_true];exact λq=>e1 (by simpa using q)
   have HT:=Qw hK;clear hK;exact zz2x
theorem SP {w:World} {L:Lp} {f:FL} {nx:Nat->Value} (h:LkM w L f nx) {k:Nat} (hk:k<f.s.n) (u:Int) (hD:f.ps.D.length<4611686018427387904):
  Calls prog 93 #[.pointer (some ⟨L.lb,0,none⟩),.pointer (some ⟨L.tb,k*4,none⟩),.int .i64 u] w
   (A_ w L {f with ps:=(A5 f.ps u 2 (L.pA (f.nd k)) 0 1)}
     (upd nx k (.func (.func 87) #[] #[]))
     (Dd.val ⟨1,false,false,true⟩)):=by
 have hF:=Fr.start h;obtain ⟨n1,n2⟩:=h.raw.GL k hk;obtain ⟨Z,hZ⟩:∃ Z,Z=w.alloc (.cells #[.int .i64 0,.bool false,.bool false,.bool false] 102):=⟨_,rfl⟩
 rw [<-hZ] at hF;have c1:=hF.lk.raw.cell1;have cP:=λW (q:Wr Nil Z W)=>Gh (hF.lk.after q) hk;have cA:=λW (q:Wr Nil Z W)=>B0 (hF.lk.after q).port u (L.pA (f.nd k)) 1 (by decide) (by decide) hD;generalize A5 f.ps u 2 (L.pA (f.nd k)) 0 1=ps' at*;have HK:=Qw hk;have HE:=Qw (Qz h (Qz hk hF));have HZ:=Qw hZ;clear h hF hZ
 go_in
 go_wp2;rw [<-HZ.out];go_region_held3 (λw'=>w'.cell? ⟨L.lb,1,none⟩=some (.pointer (some ⟨L.q.p,0,none⟩))) (first|exact c1|exact d1|go_keep) (first|((with_reducible refine (cP _ ((Wr.refl _ _).drew)).mono ?_);rintro e w1 ⟨rfl,n,rfl⟩)|((with_reducible refine (cA _ ((Wr.refl _ _).drewN _)).mono ?_);intro e w2 hq;unfold AE at hq;obtain ⟨rfl,hP,hW⟩:=hq;have Gm:=HE.out.2.2.after ((Wr.refl _ Z).drewN (1+n));have hA:=Gm.lk.Ac hP hW;have d1:=hA.raw.cell1;have HX:=Qw (Fr.call HE.out.1 Gm hA (B_ Gm.lk hW));clear Gm hA hP hW))
 have cN:=HX.out.lk.raw.Oe HK.out;have zN:=HX.out.lk.raw.Oh (k*4+2);have hN:=HX.out.lk.FR k (.func (.func 87) #[] #[]);have h2:=Fr.call HE.out.1 HX.out hN.1 (BH HX.out.lk hN.2);obtain ⟨v0,v1,v2,v3⟩:=h2.cell;obtain ⟨x0,x1,x2,x3⟩:=h2.Am;have HT:=Qw h2;clear h2 hN;go_wp2;exact zz35
theorem Py {w:World} {L:Lp} {f:FL} {nx:Nat->Value} (h:LkM w L f nx) {k:Nat} (hk:k<f.s.n) (u:Int) (hD:f.ps.D.length<4611686018427387904):
  Calls prog 87 #[.pointer (some ⟨L.lb,0,none⟩),.pointer (some ⟨L.tb,k*4,none⟩),.int .i64 u] w
   (A_ w L (if (A6 f.ps u 1 (L.pA (f.nd k)))<f.CJ then {f with got:=upd f.got k (A6 f.ps u 1 (L.pA (f.nd k))),Lc:=upd f.Lc (f.nd k) ((f.Lc (f.nd k)).turn (f.own k:Nat) 4),ps:=(A5 f.ps u 1 (L.pA (f.nd k)) 0 0)} else {f with got:=upd f.got k (A6 f.ps u 1 (L.pA (f.nd k))),ps:=(A5 f.ps u 1 (L.pA (f.nd k)) 0 0)})
     (if (A6 f.ps u 1 (L.pA (f.nd k)))<f.CJ then upd nx k (.func (.func 92) #[] #[]) else upd nx k (.func (.func 91) #[] #[]))
     Dd.no.val):=by
 have hF:=Fr.start h;obtain ⟨n1,n2⟩:=h.raw.GL k hk;obtain ⟨Z,hZ⟩:∃ Z,Z=w.alloc (.cells #[.int .i64 0,.bool false,.bool false,.bool false] 102):=⟨_,rfl⟩
 rw [<-hZ] at hF;have c1:=hF.lk.raw.cell1;have cP:=λW (q:Wr Nil Z W)=>Gh (hF.lk.after q) hk;have cA:=λW (q:Wr Nil Z W)=>Al (hF.lk.after q).port u (L.pA (f.nd k)) hD;have hv:=h.tell u 1 (L.pA (f.nd k));generalize A6 f.ps u 1 (L.pA (f.nd k))=v at*;generalize A5 f.ps u 1 (L.pA (f.nd k)) 0 0=ps' at*;have HV:=Qw hv;have HK:=Qw hk;have HE:=Qw (Qz h (Qz hk hF));have HB:=Qw (Qz n1 n2);have HZ:=Qw hZ;clear h hF hZ n1 n2 hv;by_cases e1:v<f.CJ
 all_goals
  first|rw [Qj e1,Qj e1]|rw [Qq e1,Qq e1]
  have b1:decide (v≥f.CJ)=decide (¬ v<f.CJ):=by simp
  have b2:decide (f.CJ<=v)=decide (¬ v<f.CJ):=by simp
  first|rw [decide_eq_false (not_not_intro e1)] at b1 b2|rw [decide_eq_true e1] at b1 b2
  go_in
  go_wp2;rw [<-HZ.out];go_region_held3 (λw'=>w'.cell? ⟨L.lb,1,none⟩=some (.pointer (some ⟨L.q.p,0,none⟩))) (first|exact c1|exact d1|exact g1|go_keep) (first|((with_reducible refine (cP _ ((Wr.refl _ _).drew)).mono ?_);rintro e w1 ⟨rfl,n,rfl⟩)|((with_reducible refine (cA _ ((Wr.refl _ _).drewN _)).mono ?_);intro e w2 hq;unfold AE at hq;obtain ⟨rfl,hP,hW⟩:=hq;have Gm:=HE.out.2.2.after ((Wr.refl _ Z).drewN (1+n));have hA:=Gm.lk.Ac hP hW;have d1:=hA.raw.cell1;have hG:=hA.YR k v HV.out;have g3:=hA.raw.dm hk;have gz:=hA.raw.Oh (k*4+3);have g1:=hG.1.raw.cell1;have HX:=Qw (Fr.call HE.out.1 (Fr.call HE.out.1 Gm hA (B_ Gm.lk hW)) hG.1 (BH hA hG.2));clear Gm hA hP hW hG))
  have q3:=HX.out.lk.raw.dm HK.out;have q2:=HX.out.lk.raw.AY;dsimp only at q3 q2;rw [upd_same] at q3;go_wp2;go_big_quiet (fail)
  generalize hY:(w2.setCell ⟨L.tb,k*4+3,none⟩ (.int .u32 v)).drewN nq=Y;have fo:=HX.out.after ((Wr.refl Nil (w2.setCell ⟨L.tb,k*4+3,none⟩ (.int .u32 v))).drewN nq);rw [hY] at fo;have Rc:=Qw fo;clear fo hY q3 q2
 ·have r1:=Rc.out.lk.raw.RQ HK.out
  have cL:=λW (q:Wr Nil Y W)=>DU (Rc.out.lk.after q) HK.out;dsimp only at cL r1;unfold Ip.val at cL;have cI:=λW (q:Wr Nil Y W)=>T5 ((Rc.out.lk.after q).raw.loc _ HB.out.1 HB.out.2) (f.own k:Nat);have vL:=λm=>((Rc.out.lk.after ((Wr.refl _ Y).drewN m)).raw.loc _ HB.out.1 HB.out.2).Dx;have nL:=(Rc.out.lk.raw.loc _ HB.out.1 HB.out.2).Dr;go_wp2
  go_region_held3 (λw'=>w'.cell? ⟨L.tb,k*4+1,none⟩=some (.int .i64 (f.own k:Nat))) (first|exact r1|go_keep) (first
   |(go_at_call 82;(first|(with_reducible refine (cL _ ((Wr.refl _ _).drew)).mono ?_)|(with_reducible refine (cL _ (((Wr.refl _ _).alloc _).drew)).mono ?_));rintro e w1 ⟨rfl,n,rfl⟩)
   |((with_reducible refine (cI _ ((Wr.refl _ _).drewN _)).mono ?_);intro e w3 hq;unfold EO at hq;obtain ⟨rfl,hI,hW⟩:=hq;have Gl:=Rc.out.after ((Wr.refl _ Y).drewN (1+n));have hG:=Gl.lk.Nm HB.out.1 HB.out.2 hI hW;have r1:=hG.raw.RQ hk;have ZI:=Qw (Fr.call HE.out.1 Gl hG (Xr Gl.lk HB.out.1 HB.out.2 hW));clear Gl hG hI hW))
  have cN:=ZI.out.lk.raw.Oe HK.out;have zN:=ZI.out.lk.raw.Oh (k*4+2);have hN:=ZI.out.lk.FR k (.func (.func 92) #[] #[]);have h2:=Fr.call HE.out.1 ZI.out hN.1 (BH ZI.out.lk hN.2);exact zz7j
 ·have q0:=0
  have cN:=Rc.out.lk.raw.Oe HK.out;have zN:=Rc.out.lk.raw.Oh (k*4+2);have hN:=Rc.out.lk.FR k (.func (.func 91) #[] #[]);have h2:=Fr.call HE.out.1 Rc.out hN.1 (BH Rc.out.lk hN.2);exact zz7j
theorem V5 {w:World} {L:Lp} {f:FL} {nx:Nat->Value} (h:LkM w L f nx) {k:Nat} (hk:k<f.s.n) (u:Int) (hD:f.ps.D.length<4611686018427387904):
  Calls prog 92 #[.pointer (some ⟨L.lb,0,none⟩),.pointer (some ⟨L.tb,k*4,none⟩),.int .i64 u] w
   (A_ w L {f with Lc:=upd f.Lc (f.nd k) ((f.lk (f.nd k)).step (f.la (f.nd k):Nat) (f.own k:Nat) u),ps:=((f.lk (f.nd k)).step (f.la (f.nd k):Nat) (f.own k:Nat) u).ps}
     (if ((f.lk (f.nd k)).did (f.la (f.nd k):Nat) (f.own k:Nat) u).ev=4 then upd nx k (.func (.func 91) #[] #[]) else upd nx k (.func (.func 100) #[] #[]))
     Dd.no.val):=by
 have hF:=Fr.start h;obtain ⟨n1,n2⟩:=h.raw.GL k hk;obtain ⟨Z,hZ⟩:∃ Z,Z=w.alloc (.cells #[.int .i64 0,.bool false,.bool false,.bool false] 102):=⟨_,rfl⟩
 rw [<-hZ] at hF;have cN:=hF.lk.raw.Oe hk;have zN:=hF.lk.raw.Oh (k*4+2);have fX:=hF.lk.FR k (.func (.func 100) #[] #[]);have hY:=Fr.call h hF fX.1 (BH hF.lk fX.2);clear fX;obtain ⟨Y,fp⟩:∃ Y,Y=Z.setCell ⟨L.tb,k*4+2,none⟩ (.func (.func 100) #[] #[]):=⟨_,rfl⟩
 rw [<-fp] at hY;have r1:=hY.lk.raw.RQ hk;have cL:=λW (q:Wr Nil Y W)=>DU (hY.lk.after q) hk;have vS:=(hY.lk.raw.loc _ n1 n2).BG;have nS:=(hY.lk.raw.loc _ n1 n2).Ce;have cI:=λW (q:Wr Nil Y W)=>JF (X:=w) (hY.lk.after q) hk u 0 hD;generalize ((f.lk (f.nd k)).step (f.la (f.nd k):Nat) (f.own k:Nat) u)=x' at*;generalize ((f.lk (f.nd k)).did (f.la (f.nd k):Nat) (f.own k:Nat) u)=d at*;have iF:=Sy;have Em:=(f.Lc (f.nd k)).Ee;generalize (f.Lc (f.nd k)).DK=F at*;unfold Ip.val at cL;obtain ⟨f',hf'⟩:∃ f',f'=({f with Lc:=upd f.Lc (f.nd k) x',ps:=x'.ps}:FL):=⟨_,rfl⟩
 rw [<-hf'] at cI;rw [<-hf'];have hk':k<f'.s.n:=by rw [hf'];exact hk
 have how:f'.own=f.own:=by rw [hf']
 clear hf';have HK:=Qw hk';have HH:=Qw how;clear hk' how;have HE:=Qw (Qz h (Qz hk hY));have HZ:=Qw hZ;have l_:=Qw fp;rw [hZ] at cN zN;clear h hF hZ hY fp n1 n2;by_cases e1:d.ev=4
 all_goals
  first|rw [Qj e1]|rw [Qq e1]
  have b1:(d.ev==4)=decide (d.ev=4):=rfl
  first|rw [decide_eq_true e1] at b1|rw [decide_eq_false e1] at b1
  go_in
  go_wp2;rw [<-HZ.out,<-l_.out];clear cN zN
  go_region_held3 (λw'=>w'.cell? ⟨L.tb,k*4+1,none⟩=some (.int .i64 (f.own k:Nat))) (first|exact r1|go_keep) (first
   |(go_at_call 82;(first|(with_reducible refine (cL _ ((Wr.refl _ _).drew)).mono ?_)|(with_reducible refine (cL _ (((Wr.refl _ _).alloc _).drew)).mono ?_));rintro e w1 ⟨rfl,n,rfl⟩)
   |((with_reducible refine (cI _ ((Wr.refl _ _).drewN _)).mono ?_);intro e w2 hq;unfold A_ at hq;obtain ⟨rfl,hA,hW⟩:=hq;dsimp only [Dd.val];have r1:=hA.raw.RQ HK.out;rw [HH.out] at r1;have HX:=Qw (Fr.call HE.out.1 (HE.out.2.2.after ((Wr.refl _ Y).drewN (1+n))) hA hW);clear hA hW))
 ·have q0:=0
  have q1:upd (upd nx k (.func (.func 100) #[] #[])) k (.func (.func 91) #[] #[])=upd nx k (.func (.func 91) #[] #[]):=BF _ _ _ _;have cN:=HX.out.lk.raw.Oe HK.out;have zN:=HX.out.lk.raw.Oh (k*4+2);have hN:=HX.out.lk.FR k (.func (.func 91) #[] #[]);rw [q1] at hN;clear q1;have h2:=Fr.call HE.out.1 HX.out hN.1 (BH HX.out.lk hN.2);exact zz7j
 ·exact zz7t
theorem MK {w:World} {L:Lp} {f:FL} {nx:Nat->Value} (h:LkM w L f nx) {k:Nat} (hk:k<f.s.n):
  Calls prog 106 #[.pointer (some ⟨L.lb,0,none⟩),.pointer (some ⟨L.tb,k*4,none⟩)] w
   (A_ w L {f with Lc:=upd f.Lc (f.nd k) ((f.Lc (f.nd k)).turn (f.own k:Nat) 3)} (upd nx k (.func (.func 107) #[] #[])) (.tuple #[])):=by
 obtain ⟨n1,n2⟩:=h.raw.GL k hk;have r1:=h.raw.RQ hk;have cL:=λW (q:Wr Nil w W)=>DU (h.after q) hk;unfold Ip.val at cL;have cI:=λW (q:Wr Nil w W)=>K3 ((h.after q).raw.loc _ n1 n2) (f.own k:Nat);have vL:=λm=>((h.after ((Wr.refl _ w).drewN m)).raw.loc _ n1 n2).Ar;have nL:=(h.raw.loc _ n1 n2).C_;have HE:=Qw (Qz h (Qz hk (Qz n1 n2)));clear h
 go_in
 go_wp2
 go_region_held3 (λw'=>w'.cell? ⟨L.tb,k*4+1,none⟩=some (.int .i64 (f.own k:Nat))) (first|exact r1|go_keep) (first
  |(go_at_call 82;(first|(with_reducible refine (cL _ ((Wr.refl _ _).drew)).mono ?_)|(with_reducible refine (cL _ (((Wr.refl _ _).alloc _).drew)).mono ?_));rintro e w1 ⟨rfl,n,rfl⟩)
  |((with_reducible refine (cI _ ((Wr.refl _ _).drewN _)).mono ?_);intro e w2 hq;unfold EO at hq;obtain ⟨rfl,hI,hW⟩:=hq;have Gl:=HE.out.1.after ((Wr.refl _ w).drewN (1+n));have hG:=Gl.Nm HE.out.2.2.1 HE.out.2.2.2 hI hW;have r1:=hG.raw.RQ hk;have Ba:=((Wr.refl (LF L) w).drewN (1+n)).trans (Xr Gl HE.out.2.2.1 HE.out.2.2.2 hW) λ_ _ e=>e;have HX:=Qw (Qz hG Ba);clear Gl hG hI hW Ba))
 have cN:=HX.out.1.raw.Oe hk;have zN:=HX.out.1.raw.Oh (k*4+2);have hN:=HX.out.1.FR k (.func (.func 107) #[] #[]);have HN:=Qw (Qz hN.1 (HX.out.2.trans (BH HX.out.1 hN.2) λ_ _ e=>e));clear hN;go_wp2
 go_end0
 exact ⟨rfl,HN.out.1,HN.out.2⟩
theorem SK {w:World} {L:Lp} {f:FL} {nx:Nat->Value} (h:LkM w L f nx) {k:Nat} (hk:k<f.s.n) (u:Int) (hD:f.ps.D.length<4611686018427387904) (hg:0<=f.got k/\f.got k<=1000000):
  Calls prog 100 #[.pointer (some ⟨L.lb,0,none⟩),.pointer (some ⟨L.tb,k*4,none⟩),.int .i64 u] w
   (A_ w L {f with Lc:=upd f.Lc (f.nd k) ((f.Lc (f.nd k)).turn (f.own k:Nat) 3),ps:=(A5 f.ps u 2 (L.pA (f.nd k)) 0 (f.got k+1))}
     (upd nx k (.func (.func 107) #[] #[]))
     Dd.no.val):=by
 have hF:=Fr.start h;obtain ⟨n1,n2⟩:=h.raw.GL k hk;obtain ⟨Z,hZ⟩:∃ Z,Z=w.alloc (.cells #[.int .i64 0,.bool false,.bool false,.bool false] 102):=⟨_,rfl⟩
 rw [<-hZ] at hF;have c1:=hF.lk.raw.cell1;have cP:=λW (q:Wr Nil Z W)=>Gh (hF.lk.after q) hk;have cA:=λW (q:Wr Nil Z W)=>B0 (hF.lk.after q).port u (L.pA (f.nd k)) (f.got k+1) (by omega) (by omega) hD;have r3:=hF.lk.raw.dm hk;have w1:IntKind.u32.wrap (f.got k+1)=f.got k+1:=by rw [IntKind.wrap_u32];omega
 generalize A5 f.ps u 2 (L.pA (f.nd k)) 0 (f.got k+1)=ps' at*;have HK:=Qw hk;have HE:=Qw (Qz h (Qz hk hF));have HZ:=Qw hZ;clear h hF hZ n1 n2 hg
 go_in
 go_wp2;rw [<-HZ.out];go_region_held3 (λw'=>w'.cell? ⟨L.lb,1,none⟩=some (.pointer (some ⟨L.q.p,0,none⟩))/\w'.cell? ⟨L.tb,k*4+3,none⟩=some (.int .u32 (f.got k))) (first|exact ⟨c1,r3⟩|exact ⟨d1,d3⟩|go_keep) (first|((with_reducible refine (cP _ ((Wr.refl _ _).drew)).mono ?_);rintro e w1 ⟨rfl,n,rfl⟩)|((with_reducible refine (cA _ ((Wr.refl _ _).drewN _)).mono ?_);intro e w2 hq;unfold AE at hq;obtain ⟨rfl,hP,hW⟩:=hq;have Gm:=HE.out.2.2.after ((Wr.refl _ Z).drewN (1+n));have hA:=Gm.lk.Ac hP hW;have d1:=hA.raw.cell1;have d3:=hA.raw.dm hk;have HX:=Qw (Fr.call HE.out.1 Gm hA (B_ Gm.lk hW));clear Gm hA hP hW))
 have cV:=MK HX.out.lk HK.out;dsimp only at cV;go_wp2_with ((with_reducible refine cV.mono ?_);intro e w3 hq;unfold A_ at hq;obtain ⟨rfl,hA,hW⟩:=hq;have h3:=Fr.call HE.out.1 HX.out hA hW;obtain ⟨v0,v1,v2,v3⟩:=h3.cell;obtain ⟨x0,x1,x2,x3⟩:=h3.Am;have HU:=Qw h3;clear h3 hA hW)
 exact zz3s
theorem EF {w:World} {L:Lp} {f:FL} {nx:Nat->Value} (h:LkM w L f nx) {k:Nat} (hk:k<f.s.n) (u:Int) (hD:f.ps.D.length<4611686018427387904):
  Calls prog 91 #[.pointer (some ⟨L.lb,0,none⟩),.pointer (some ⟨L.tb,k*4,none⟩),.int .i64 u] w
   (A_ w L {f with G:=f.G.turn (f.nd k:Nat) 3,ps:=(A5 f.ps u 2 (L.pA (f.nd k)) 0 0)}
     (upd nx k (.func (.func 99) #[] #[]))
     Dd.no.val):=by
 have hF:=Fr.start h;obtain ⟨n1,n2⟩:=h.raw.GL k hk;obtain ⟨Z,hZ⟩:∃ Z,Z=w.alloc (.cells #[.int .i64 0,.bool false,.bool false,.bool false] 102):=⟨_,rfl⟩
 rw [<-hZ] at hF;have c1:=hF.lk.raw.cell1;have cP:=λW (q:Wr Nil Z W)=>Gh (hF.lk.after q) hk;have cA:=λW (q:Wr Nil Z W)=>B0 (hF.lk.after q).port u (L.pA (f.nd k)) 0 (by decide) (by decide) hD;have nL:=hF.lk.raw.Cw.C_;generalize A5 f.ps u 2 (L.pA (f.nd k)) 0 0=ps' at*;have HK:=Qw hk;have HE:=Qw (Qz h (Qz hk hF));have HZ:=Qw hZ;clear h hF hZ n1 n2
 go_in
 go_wp2;rw [<-HZ.out];go_region_held3 (λw'=>w'.cell? ⟨L.lb,1,none⟩=some (.pointer (some ⟨L.q.p,0,none⟩))) (first|exact c1|exact d1|go_keep) (first|((with_reducible refine (cP _ ((Wr.refl _ _).drew)).mono ?_);rintro e w1 ⟨rfl,n,rfl⟩)|((with_reducible refine (cA _ ((Wr.refl _ _).drewN _)).mono ?_);intro e w2 hq;unfold AE at hq;obtain ⟨rfl,hP,hW⟩:=hq;have Gm:=HE.out.2.2.after ((Wr.refl _ Z).drewN (1+n));have hA:=Gm.lk.Ac hP hW;have d1:=hA.raw.cell1;have HX:=Qw (Fr.call HE.out.1 Gm hA (B_ Gm.lk hW));clear Gm hA hP hW))
 have q0:=HX.out.lk.raw.Jl hk;have q4:=HX.out.lk.raw.Av;unfold Ip.val at q4;have cI:=K3 (HX.out.after ((Wr.refl _ w2).drew)).lk.raw.Cw (f.nd k:Nat);have vL:=(HX.out.after ((Wr.refl _ w2).drew)).lk.raw.Cw.Ar;go_wp2
 go_still_tail 10,(by kernel_rfl)
 change wpList _ _ _ _ _ w2.drew;generalize hY:w2.drew=Y at*;have HY:=Qw hY;clear hY;go_wp2_with ((with_reducible refine cI.mono ?_);intro e w3 hq;unfold EO at hq;obtain ⟨rfl,hI,hW⟩:=hq;have Gl:=HX.out.after ((Wr.refl _ w2).drew);rw [HY.out] at Gl;have hG:=Gl.lk.Q9 hI hW;have HX:=Qw (Fr.call HE.out.1 Gl hG (aX Gl.lk hW));clear Gl hG hI hW;have cN:=HX.out.lk.raw.Oe HK.out;have zN:=HX.out.lk.raw.Oh (k*4+2);have hN:=HX.out.lk.FR k (.func (.func 99) #[] #[]);have h2:=Fr.call HE.out.1 HX.out hN.1 (BH HX.out.lk hN.2);obtain ⟨v0,v1,v2,v3⟩:=h2.cell;obtain ⟨x0,x1,x2,x3⟩:=h2.Am;have HT:=Qw h2;clear h2 hN)
 exact zzy
theorem Q7 {w:World} {L:Lp} {f:FL} {nx:Nat->Value} (h:LkM w L f nx) {k:Nat} (hk:k<f.s.n) (u:Int) (hD:f.ps.D.length<4611686018427387904):
  Calls prog 99 #[.pointer (some ⟨L.lb,0,none⟩),.pointer (some ⟨L.tb,k*4,none⟩),.int .i64 u] w
   (A_ w L (if (f.gl.did (f.ga:Nat) (f.nd k:Nat) u).ev=3 then {f with G:=(f.gl.step (f.ga:Nat) (f.nd k:Nat) u),ps:=(f.gl.step (f.ga:Nat) (f.nd k:Nat) u).ps,Lc:=upd f.Lc (f.nd k) ((f.Lc (f.nd k)).turn (f.own k:Nat) 3)} else {f with G:=(f.gl.step (f.ga:Nat) (f.nd k:Nat) u),ps:=(f.gl.step (f.ga:Nat) (f.nd k:Nat) u).ps})
     (if (f.gl.did (f.ga:Nat) (f.nd k:Nat) u).ev=3 then upd nx k (.func (.func 107) #[] #[]) else nx)
     Dd.no.val):=by
 have hF:=Fr.start h;obtain ⟨n1,n2⟩:=h.raw.GL k hk;obtain ⟨Z,hZ⟩:∃ Z,Z=w.alloc (.cells #[.int .i64 0,.bool false,.bool false,.bool false] 102):=⟨_,rfl⟩
 rw [<-hZ] at hF;have c4:=hF.lk.raw.Av;unfold Ip.val at c4;have r0:=hF.lk.raw.Jl hk;have je:=hF.drew;have vS:=hF.lk.raw.Cw.BG;have cI:=MV je.lk hk u 0 hD;have iF:=Sy;have Em:=f.G.Ee;generalize (f.gl.step (f.ga:Nat) (f.nd k:Nat) u)=x' at*;generalize (f.gl.did (f.ga:Nat) (f.nd k:Nat) u)=d at*;generalize f.G.DK=F at*;have HK:=Qw hk;have HE:=Qw (Qz h (Qz hk hF));have HZ:=Qw hZ;clear h hF hZ n1 n2 je;by_cases e1:d.ev=3
 all_goals
  first|rw [Qj e1,Qj e1]|rw [Qq e1,Qq e1]
  have b1:(d.ev==3)=decide (d.ev=3):=rfl
  first|rw [decide_eq_true e1] at b1|rw [decide_eq_false e1] at b1
  go_in
  go_wp2;rw [<-HZ.out]
  go_still_tail 11,(by kernel_rfl)
  change wpList _ _ _ _ _ Z.drew;generalize hY:Z.drew=Y at*;have HY:=Qw hY;clear hY
  go_wp2_with (first
   |((with_reducible refine cV.mono ?_);intro e w3 hq;unfold A_ at hq;obtain ⟨rfl,hA,hW⟩:=hq;have h3:=Fr.call HE.out.1 HX.out hA hW;obtain ⟨v0,v1,v2,v3⟩:=h3.cell;obtain ⟨x0,x1,x2,x3⟩:=h3.Am;have HU:=Qw h3;clear h3 hA hW)
   |((with_reducible refine cI.mono ?_);intro e w2 hq;unfold A_ at hq;obtain ⟨rfl,hA,hW⟩:=hq;dsimp only [Dd.val];have Gl:=HE.out.2.2.drew;rw [HY.out] at Gl;have hX:=Fr.call HE.out.1 Gl hA hW;have cV:=MK hX.lk HK.out;dsimp only at cV;obtain ⟨v0,v1,v2,v3⟩:=hX.cell;obtain ⟨x0,x1,x2,x3⟩:=hX.Am;have HX:=Qw hX;clear hX Gl hA hW))
 ·exact zz3s
 ·exact zz20
theorem Q5 {w:World} {L:Lp} {f:FL} {nx:Nat->Value} (h:LkM w L f nx) {k:Nat} (hk:k<f.s.n) (u:Int) (hD:f.ps.D.length<4611686018427387904):
  Calls prog 107 #[.pointer (some ⟨L.lb,0,none⟩),.pointer (some ⟨L.tb,k*4,none⟩),.int .i64 u] w
   (A_ w L {f with Lc:=upd f.Lc (f.nd k) ((f.lk (f.nd k)).step (f.la (f.nd k):Nat) (f.own k:Nat) u),ps:=((f.lk (f.nd k)).step (f.la (f.nd k):Nat) (f.own k:Nat) u).ps}
     (if ((f.lk (f.nd k)).did (f.la (f.nd k):Nat) (f.own k:Nat) u).ev=3 then upd nx k (.func (.func 80) #[] #[]) else nx)
     (if ((f.lk (f.nd k)).did (f.la (f.nd k):Nat) (f.own k:Nat) u).ev=3 then ⟨3,false,false,false⟩ else Dd.no:Dd).val):=by
 have hF:=Fr.start h;obtain ⟨n1,n2⟩:=h.raw.GL k hk;obtain ⟨Z,hZ⟩:∃ Z,Z=w.alloc (.cells #[.int .i64 0,.bool false,.bool false,.bool false] 102):=⟨_,rfl⟩
 rw [<-hZ] at hF;have r1:=hF.lk.raw.RQ hk;have cL:=λW (q:Wr Nil Z W)=>DU (hF.lk.after q) hk;have vS:=(hF.lk.raw.loc _ n1 n2).BG;have nS:=(hF.lk.raw.loc _ n1 n2).Ce;have cI:=λW (q:Wr Nil Z W)=>JF (X:=w) (hF.lk.after q) hk u 0 hD;generalize ((f.lk (f.nd k)).step (f.la (f.nd k):Nat) (f.own k:Nat) u)=x' at*;generalize ((f.lk (f.nd k)).did (f.la (f.nd k):Nat) (f.own k:Nat) u)=d at*;have iF:=Sy;have Em:=(f.Lc (f.nd k)).Ee;generalize (f.Lc (f.nd k)).DK=F at*;unfold Ip.val at cL;obtain ⟨f',hf'⟩:∃ f',f'=({f with Lc:=upd f.Lc (f.nd k) x',ps:=x'.ps}:FL):=⟨_,rfl⟩
 rw [<-hf'] at cI;rw [<-hf'];have hk':k<f'.s.n:=by rw [hf'];exact hk
 have how:f'.own=f.own:=by rw [hf']
 clear hf';have HK:=Qw hk';have HH:=Qw how;clear hk' how;have HE:=Qw (Qz h (Qz hk hF));have HZ:=Qw hZ;clear h hF hZ n1 n2;by_cases e1:d.ev=3
 all_goals
  first|rw [Qj e1,Qj e1]|rw [Qq e1,Qq e1]
  have b1:(d.ev != 3)= !decide (d.ev=3):=rfl
  first|rw [decide_eq_true e1] at b1|rw [decide_eq_false e1] at b1
  try dsimp only [Bool.not_true,Bool.not_false] at b1
  go_in
  go_wp2;rw [<-HZ.out]
  go_region_held3 (λw'=>w'.cell? ⟨L.tb,k*4+1,none⟩=some (.int .i64 (f.own k:Nat))) (first|exact r1|go_keep) (first
   |(go_at_call 82;(first|(with_reducible refine (cL _ ((Wr.refl _ _).drew)).mono ?_)|(with_reducible refine (cL _ (((Wr.refl _ _).alloc _).drew)).mono ?_));rintro e w1 ⟨rfl,n,rfl⟩)
   |((with_reducible refine (cI _ ((Wr.refl _ _).drewN _)).mono ?_);intro e w2 hq;unfold A_ at hq;obtain ⟨rfl,hA,hW⟩:=hq;dsimp only [Dd.val];have r1:=hA.raw.RQ HK.out;rw [HH.out] at r1;have HX:=Qw (Fr.call HE.out.1 (HE.out.2.2.after ((Wr.refl _ Z).drewN (1+n))) hA hW);clear hA hW))
 ·have q0:=0
  have cN:=HX.out.lk.raw.Oe HK.out;have zN:=HX.out.lk.raw.Oh (k*4+2);have hN:=HX.out.lk.FR k (.func (.func 80) #[] #[]);have h2:=Fr.call HE.out.1 HX.out hN.1 (BH HX.out.lk hN.2);obtain ⟨v0,v1,v2,v3⟩:=h2.cell;obtain ⟨x0,x1,x2,x3⟩:=h2.Am;have HT:=Qw h2;clear h2 hN;go_wp2;exact zzc
 ·exact zz7t
end Go.Proofs.YtmnephejhkfchaaGreat

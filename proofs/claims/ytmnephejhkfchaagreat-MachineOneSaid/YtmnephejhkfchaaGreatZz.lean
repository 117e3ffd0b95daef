/- Steps that stand in many proofs, as default proofs. -/
import Derived.BigQuiet
import Derived.Deep.AppendLies
import Derived.Deep.Cut
import Derived.Deep.CutBlock
import Derived.Deep.Fields
import Derived.Deep.OwnRows
import Derived.Deep.QuietTactic
import Derived.Deep.RegionHeld3
import Derived.Deep.RegionLaw
import Derived.Handy
import Derived.Laws.AppendOwnNone
import Derived.Laws.CopyOwn
import Derived.Laws.EntriesVeiled
import Derived.Lib.Hide
import Derived.Lib.SlicesDelete
import Derived.Lib.Walk
import Derived.Maps.AppendAt
import Derived.StillTailTactics
import Derived.WalkLawsBesides
namespace Go.Proofs.YtmnephejhkfchaaGreat
open Go.BigFrame Go.ChangeAt Go.ChangeShapes Go.Deep Go.RowKit Go.WideShapes
set_option linter.unusedVariables false
variable{P:Prop}
theorem zz74(h:P:=by
 have HN:=Qw (λ(q:Pc) (hq:BJ (f.s.st k) (f.pc k) (f.nd k) (f.A9 k) (f.tr k) f.ea q)=>hq.n0 (by omega));have HO:=Qw (λ(q:Pc) (hq:BJ (f.s.st k) (f.pc k) (f.nd k) (f.A9 k) (f.tr k) f.ea q) (h6:6<=f.pc k)=>hq.o1 hs h6);have H6:=Qw hd;have HE:=Qw (Qz h (Qz hk hF));clear h hF hs hd hp t1 t2 t3
 go_in
 go_wp2;rw [<-hZ];clear hZ;go_region_held3 (λw'=>w'.cell? ⟨L.lb,1,none⟩=some (.pointer (some ⟨L.q.p,0,none⟩))/\w'.cell? ⟨L.tb,k*4+2,none⟩=some (.int .u32 (f.nd k))) (first|exact ⟨c1,n2⟩|exact ⟨d1,y2⟩) (first|((with_reducible refine cG.mono ?_);rintro e w' ⟨rfl,rfl⟩)|((with_reducible refine cA.mono ?_);intro e w2 hq;unfold AE at hq;obtain ⟨rfl,hP,hW⟩:=hq;have hA:=HE.out.2.2.drew.lk.Ac hP hW;have AJ:=Fr.call HE.out.1 HE.out.2.2.drew hA (B_ hW);have d1:=hA.raw.cell1;have d3:=hA.raw.AV;obtain ⟨p',hp',y0,y1,y2,y3⟩:=hA.raw.Aa HE.out.2.1;rw [(show p'.nd=f.nd k from HN.out _ hp')] at y2;have z0:=hA.raw.BO (k*4);have hT:=EK.out _ hA;have Az:=Fr.call HE.out.1 AJ hT.1 (BH hT.2);obtain ⟨v0,v1,v2,v3⟩:=Az.cell;obtain ⟨x0,x1,x2,x3⟩:=Az.Am;have HT:=Qw Az;clear Az hT;clear hA AJ hP hW hp'))
 go_wp2;exact zz0):P:=h
theorem zz75(h:P:=by
 have HP:=Qw (λ(q:Pc) (hq:BJ (f.s.st k) (f.pc k) (f.nd k) (f.A9 k) (f.tr k) f.ea q)=>(hq.U_ (by omega) hd).2.trans hj);have HE:=Qw (Qz h (Qz hk hF));have HG:=Qw cG;have ZE:=Qw cA;have T1:Z.drew.cell? ⟨L.tb,k*4+1,none⟩=some (.int .i64 (j:Int)):=t1;clear h hF hs hd hp t0 t1 t2 t3 hQ hrow Ra hj Ww DL J_ hkn Ly hid cG cA c1 c3 hv;generalize f.id k=i at*
 go_in
 go_wp2;rw [<-hZ];clear hZ;go_region_held3 (λw'=>w'.cell? ⟨L.lb,4,none⟩=some (.slice (some ⟨L.tb,0,none⟩) f.s.n f.s.n)/\w'.cell? ⟨L.lb,2,none⟩=some (.pointer (some ⟨Q.p,0,none⟩))) (first|exact ⟨e4,e2⟩|exact ⟨c4,c2⟩) (first|((with_reducible refine cR.mono ?_);rintro e X ⟨so,cap,rfl,hO,hW⟩;obtain ⟨hlen,g,rfl,hcell⟩:=ZF.out _ _ _ hO;rw [hlen];have hX:=HE.out.2.2.drew.after hW;have e4:=hX.lk.raw.Av;have e2:=hW.cell c2 id;have jT:=hW.cell T1 id;have cG:=HG.out _ hX.drew.lk;have cA:=ZE.out _ hX.drew.lk;have f1:=hX.drew.lk.raw.cell1;have HX:=Qw hX;clear hX hO hlen hW))
 go_wp2;go_region_held3 (λw'=>w'.cell? ⟨L.lb,1,none⟩=some (.pointer (some ⟨L.q.p,0,none⟩))) (first|exact d1|exact f1) (first|((with_reducible refine cG.mono ?_);rintro e w' ⟨rfl,rfl⟩)|((with_reducible refine cA.mono ?_);intro e w2 hq;unfold AE at hq;obtain ⟨rfl,hP,hW⟩:=hq;have hA:=HX.out.drew.lk.Ac hP hW;have AJ:=Fr.call HE.out.1 HX.out.drew hA (B_ hW);have d1:=hA.raw.cell1;obtain ⟨p',hp',y0,y1,y2,y3⟩:=hA.raw.Aa HE.out.2.1;rw [(show p'.tr=(j:Int) from HP.out _ hp')] at y1;have z0:=hA.raw.BO (k*4);have z1:=hA.raw.BO (k*4+1);have z2:=hA.raw.BO (k*4+2);have z3:=hA.raw.BO (k*4+3);have hT:=EK.out _ hA;have Az:=Fr.call HE.out.1 AJ hT.1 (BH hT.2);obtain ⟨v0,v1,v2,v3⟩:=Az.cell;obtain ⟨x0,x1,x2,x3⟩:=Az.Am;have HT:=Qw Az;clear Az hT;clear hA AJ hP hW hp'))
 go_wp2;exact zz0):P:=h
theorem zz76(h:P:=by
 have HN:=Qw (λ(q:Pc) (hq:BJ (f.s.st k) (f.pc k) (f.nd k) (f.A9 k) (f.tr k) f.ea q)=>hq.n1 (.inr hs));have HQ:RowKit.Hid (k<g.s.n/\∀ q:Pc,BJ (σ' k) (g.pc k) (g.nd k) (g.A9 k) (g.tr k) g.ea q->q.nd=f.nd k):=Qw (by
  rw [hg,hσ];refine ⟨hk,λq hq=> ?_⟩;have:=hq.n1 (.inr (upd_same _ _ _));rw [this];exact upd_same _ _ _)
 have HE:=Qw (Qz h (Qz hk hF));clear h hF hs hd hp t1 t2 t3 hT0 hg hσ
 go_in
 go_wp2;rw [<-hZ];clear hZ;go_region_held3 (λw'=>w'.cell? ⟨L.lb,1,none⟩=some (.pointer (some ⟨L.q.p,0,none⟩))/\w'.cell? ⟨L.tb,k*4+2,none⟩=some (.int .u32 (f.nd k))) (first|with_reducible exact ⟨d1,y2⟩|with_reducible exact ⟨q1,q2⟩|exact ⟨c1,n2⟩) (first|((with_reducible refine cG.mono ?_);rintro e w' ⟨rfl,rfl⟩)|((with_reducible refine cA.mono ?_);intro e w2 hq;unfold AE at hq;obtain ⟨rfl,hP,hW⟩:=hq;have hA:=HE.out.2.2.drew.lk.Ac hP hW;have AJ:=Fr.call HE.out.1 HE.out.2.2.drew hA (B_ hW);have d1:=hA.raw.cell1;have d3:=hA.raw.AV;obtain ⟨p',hp',y0,y1,y2,y3⟩:=hA.raw.Aa HE.out.2.1;rw [(show p'.nd=f.nd k from HN.out _ hp')] at y2;have HA:=Qw AJ;have cE:=HC.out _ hA;clear hA AJ hP hW hp')|((with_reducible refine cE.mono ?_);intro e w3 hq;unfold CD at hq;obtain ⟨rfl,hB,Ba⟩:=hq;have BX:=Fr.call HE.out.1 HA.out hB Ba;have q1:=hB.raw.cell1;obtain ⟨pB,UO,_,_,q2,_⟩:=hB.raw.Aa HQ.out.1;rw [HQ.out.2 pB UO] at q2;obtain ⟨v0,v1,v2,v3⟩:=BX.cell;obtain ⟨x0,x1,x2,x3⟩:=BX.Am;have HT:=Qw BX;clear hB BX Ba UO))
 go_wp2;exact zz0):P:=h
theorem zz77(h:P:=by
 go_in
 go_wp2_with (first
  |(go_at_call 129;rw [<-HZ.out];(with_reducible refine cS.mono ?_);rintro e w' ⟨rfl,rfl⟩)
  |((with_reducible refine cE.mono ?_);intro e w3 hq;unfold Ag at hq;obtain ⟨rfl,hS,hW⟩:=hq;have hY:=HE.out.2.1.ends HE.out.1 hS (f.s.Bv _ _) HE.out.2.2.2.2 HE.out.2.2.1 hW;obtain ⟨e0,e1,e2,e3⟩:=hY.cell;obtain ⟨v0,v1,v2,v3⟩:=hY.fr.cell;obtain ⟨x0,x1,x2,x3⟩:=hY.fr.Am;have HT:=Qw hY;clear hY hS hW))
 exact zz7):P:=h
theorem zz78(h:P:=by
 have HE:=Qw (Qz h (Qz hk hF));clear h hF hs hd hp t1 t2 t3 hv
 go_in
 go_wp2;rw [<-hZ];clear hZ;go_region_held3 (λw'=>w'.cell? ⟨L.lb,1,none⟩=some (.pointer (some ⟨L.q.p,0,none⟩))/\w'.cell? ⟨L.tb,k*4+2,none⟩=some (.int .u32 (f.nd k))) (first|exact ⟨c1,n2⟩|exact ⟨d1,y2⟩) (first|((with_reducible refine cG.mono ?_);rintro e w' ⟨rfl,rfl⟩)|((with_reducible refine cA.mono ?_);intro e w2 hq;unfold AE at hq;obtain ⟨rfl,hP,hW⟩:=hq;have hA:=HE.out.2.2.drew.lk.Ac hP hW;have AJ:=Fr.call HE.out.1 HE.out.2.2.drew hA (B_ hW);have d1:=hA.raw.cell1;have d3:=hA.raw.AV;obtain ⟨p',hp',y0,y1,y2,y3⟩:=hA.raw.Aa HE.out.2.1;rw [(show p'.nd=f.nd k from HN.out _ hp')] at y2;have HA:=Qw AJ;have cE:=HC.out _ hA;clear hA AJ hP hW hp'))
 go_wp2_with (first|((with_reducible refine cE.mono ?_);intro e w3 hq;unfold A_ at hq;obtain ⟨rfl,hB,Ba⟩:=hq;dsimp only [Dd.val];have BX:=Fr.call HE.out.1 HA.out hB Ba;obtain ⟨v0,v1,v2,v3⟩:=BX.cell;obtain ⟨x0,x1,x2,x3⟩:=BX.Am;have HT:=Qw BX;clear hB BX Ba))
 exact zzg):P:=h
theorem zz79(h:P:=by
 go_in
 go_wp2;rw [<-hZ];clear hZ;go_region_held3 (λw'=>w'.cell? ⟨L.lb,1,none⟩=some (.pointer (some ⟨L.q.p,0,none⟩))/\w'.cell? ⟨L.tb,k*4+2,none⟩=some (.int .u32 (f.nd k))) (first|exact ⟨c1,n2⟩|exact ⟨d1,y2⟩) (first|((with_reducible refine cG.mono ?_);rintro e w' ⟨rfl,rfl⟩)|((with_reducible refine cA.mono ?_);intro e w2 hq;unfold AE at hq;obtain ⟨rfl,hP,hW⟩:=hq;have hA:=HE.out.2.2.drew.lk.Ac hP hW;have AJ:=Fr.call HE.out.1 HE.out.2.2.drew hA (B_ hW);have d1:=hA.raw.cell1;have d3:=hA.raw.AV;obtain ⟨p',hp',y0,y1,y2,y3⟩:=hA.raw.Aa HE.out.2.1;rw [(show p'.nd=f.nd k from HN.out _ hp')] at y2;have hT:=EK.out _ hA;have cD:=HD.out _ hA.raw.seat;have d0:=hA.raw.cell0;have z0:=hA.raw.BO (k*4);have Az:Fr w w.heap.size w2 L _ _:=⟨hT,AJ.wr,AJ.res,AJ.new⟩;obtain ⟨v0,v1,v2,v3⟩:=Az.cell;obtain ⟨x0,x1,x2,x3⟩:=Az.Am;have HT:=Qw Az;clear Az hT;clear hA AJ hP hW hp'))
 go_wp2_with (first|((with_reducible refine cD.mono ?_);rintro e w' ⟨rfl,rfl⟩))
 exact zz0):P:=h
theorem zz7a(h:P:=by
 generalize f.s.n=n at*
 go_in
 go_wp2_with (first
  |(go_at_call 129;rw [<-HZ.out];(with_reducible refine cS.mono ?_);rintro e w' ⟨rfl,rfl⟩)
  |((with_reducible refine cA.mono ?_);intro e w2 hq;unfold AP at hq;obtain ⟨rfl,hA,hW⟩:=hq;dsimp only [Dd.val];have AJ:=HE.out.2.1.call HE.out.1 hA hW;obtain ⟨p0,p1,p2,p3⟩:=AJ.cell;obtain ⟨y0,y1,y2,y3⟩:=AJ.Am;have hK:=AJ.keep HE.out.1 d;have cE:=Bb hK.fr.lk.raw.seat (k:Int) d.ev;have HK:=Qw hK;clear hA AJ hK hW)
  |((with_reducible refine cE.mono ?_);intro e w3 hq;unfold Ag at hq;obtain ⟨rfl,hS,hW⟩:=hq;have hY:=HK.out.ends HE.out.1 hS (SS.Bv _ _ _) hW;obtain ⟨e0,e1,e2,e3⟩:=hY.cell;obtain ⟨v0,v1,v2,v3⟩:=hY.fr.cell;obtain ⟨x0,x1,x2,x3⟩:=hY.fr.Am;have HT:=Qw hY;clear hY hS hW))
 rw [<-HE.out.2.2];refine bodyPost_ret (v:=Dd.val d) (results_cell_row rfl _ _ (w.heap.size+1) 102 _ (0,0) _ rfl (AO HT.out.fr.res rfl _ _ _ _) underlying102 rfl AB) rfl (HT.out.fr.told HE.out.1 d)):P:=h
theorem zz7b(h:P:=by
 go_in
 go_wp2_with (first
  |(go_at_call 129;rw [<-HZ.out];(with_reducible refine cS.mono ?_);rintro e w' ⟨rfl,rfl⟩)
  |((with_reducible refine cE.mono ?_);intro e w3 hq;unfold Ag at hq;obtain ⟨rfl,hS,hW⟩:=hq;have hY:=HK.out.ends HE.out.1 hS (SS.MG _ _ _ _ HE.out.2.2) hW;obtain ⟨e0,e1,e2,e3⟩:=hY.cell;obtain ⟨v0,v1,v2,v3⟩:=hY.fr.cell;obtain ⟨x0,x1,x2,x3⟩:=hY.fr.Am;have HT:=Qw hY;clear hY hS hW))
 exact zz7):P:=h
theorem zz7c(h:P:=by
 go_in
 go_wp2_with (first
  |(go_at_call 129;rw [<-HZ.out];(with_reducible refine cS.mono ?_);rintro e w' ⟨rfl,rfl⟩)
  |((with_reducible refine cE.mono ?_);intro e w3 hq;unfold Ag at hq;obtain ⟨rfl,hS,hW⟩:=hq;have hY:=HK.out.ends HE.out.1 hS (SS.L_ _ _ _) hW;obtain ⟨e0,e1,e2,e3⟩:=hY.cell;obtain ⟨v0,v1,v2,v3⟩:=hY.fr.cell;obtain ⟨x0,x1,x2,x3⟩:=hY.fr.Am;have HT:=Qw hY;clear hY hS hW))
 exact zz7):P:=h
theorem zz7d(h:P:=by
 go_in
 go_wp2_with (go_at_call 133;with_reducible refine c.mono ?_;rintro e w' ⟨rfl,rfl⟩)
 exact zz12):P:=h
theorem zz7e(h:P:=by
 have hi:i<n:=by have:=(List.getElem?_eq_some_iff.1 ht).1;simpa using this
 exact zz13):P:=h
theorem zz7f(h:P:=by
 go_wp2_with (first|((with_reducible refine cE.mono ?_);intro e w3 hq;unfold AP at hq;obtain ⟨rfl,hB,Ba⟩:=hq;dsimp only [Dd.val];have BX:=Fr.call HE.out.1 HA.out hB Ba;obtain ⟨v0,v1,v2,v3⟩:=BX.cell;obtain ⟨x0,x1,x2,x3⟩:=BX.Am;have HT:=Qw BX;clear hB BX Ba))
 exact zzc):P:=h
theorem zz7g(h:P:=by
 have l1:=A2 hr.obj;have l2:=A2 hr.seat.obj;have l3:=A2 hr.seat.ctx;have l4:=A2 hr.tick;exact zzf):P:=h
theorem zz7h(h:P:=by
 rw [<-HE.out.2.2];refine bodyPost_ret (v:=Dd.val ⟨3,false,false,false⟩) (results_cell_row rfl _ _ (w.heap.size+1) 102 _ (0,0) _ rfl (AO HT.out.fr.res rfl _ _ _ _) underlying102 rfl AB) rfl (HT.out.fr.told HE.out.1 ⟨3,false,false,false⟩)):P:=h
theorem zz7i(h:P:=by
 have HE:=Qw h;clear h e0 e1
 go_in
 go_wp2_with (first
  |(go_at_call 133;with_reducible refine c.mono ?_;rintro e w' ⟨rfl,rfl⟩)
  |(go_at_call 135;with_reducible refine c2.mono ?_;rintro e w' ⟨rfl,rfl⟩))
 exact zz2g):P:=h
theorem zz7j(h:P:=by
 obtain ⟨v0,v1,v2,v3⟩:=h2.cell;obtain ⟨x0,x1,x2,x3⟩:=h2.Am;have HT:=Qw h2;clear h2 hN;go_wp2;exact zzy):P:=h
theorem zz7k(h:P:=by
 go_in
 go_wp2_with (first
  |(go_at_call 133;with_reducible refine c.mono ?_;rintro e w' ⟨rfl,rfl⟩)
  |(go_at_call 134;with_reducible refine cT.mono ?_;rintro e w' ⟨rfl,rfl⟩))
 exact zz2g):P:=h
theorem zz7l(h:P:=by
 rw [<-e] at h2;rw [h2];unfold madeCells;rw [Array.toList_map,List.getElem?_map,Array.toList_range,List.getElem?_range hm];have:m%2=0\/m%2=1:=by omega
 rcases this with h|h<;>simp [h,Ct]):P:=h
theorem zz7m(h:P:=by
 have ho:Dg ps k 5 0=true:=by simp [Dg,EH,h];omega
 refine ⟨?_,?_,?_,?_⟩
 ·unfold A6;rw [ho];simp [CR,BK,h]
 ·unfold A5;rw [ho];simp [Gb,J4,BA,BK,h]
 ·exact zz1s
 ·exact zz22):P:=h
theorem zz7n(h:P:=by
 have:l=0\/l=1:=by omega
 rcases this with rfl|rfl
 ·exact zz1j
 ·exact zz1m):P:=h
theorem zz7o(h:P:=by
 have:l=0\/l=1:=by omega
 rcases this with rfl|rfl
 ·exact zz1m
 ·exact zz1j):P:=h
theorem zz7p(h:P:=by
 have hb:Hid ((hs.take (k+1)).all FO=true):=Qw (Le (by omega) hok.out (by rw [<-X1.out.1];unfold FO;simp;omega));exact zz2j):P:=h
theorem zz7q(h:P:=by
 clear h
 go_in
 go_wp2_with (go_at_call 73;with_reducible refine c.mono ?_;rintro e w' ⟨rfl,rfl⟩)
 exact zz12):P:=h
theorem zz7r(h:P:=by
 obtain ⟨_,rfl⟩:i<s.n/\t=i:=zzx;have:l=0\/l=1:=by omega
 rcases this with rfl|rfl
 ·exact zz34
 ·exact zz34):P:=h
theorem zz7s(h:P:=by
 have hb:Hid (A8 hs=false):=Qw (JP (k:=k) (by omega) (by rw [<-X1.out.1];unfold FO;simp;omega));exact zz38):P:=h
theorem zz7t(h:P:=by
 have h2:=HX.out;obtain ⟨v0,v1,v2,v3⟩:=h2.cell;obtain ⟨x0,x1,x2,x3⟩:=h2.Am;clear h2;go_wp2;exact zz20):P:=h
theorem zz7u(h:P:=by
 clear h
 go_in
 go_wp2_with ((with_reducible refine cT.mono ?_);rintro e w' ⟨rfl,rfl⟩)
 exact zz12):P:=h
theorem zz7v(h:P:=by
 go_roundw
 case rel=>exact ⟨k+1,by omega,by go_num,HA.out⟩
 case measure=>simp [intOf];omega):P:=h
theorem zz7w(h:P:=by
 subst e;rw [upd_same];exact .inl rfl):P:=h
theorem zz7x(h:P:=by
 have l1:=hr.iG;have l2:=A2 hr.seat.obj;have l3:=A2 hr.seat.ctx;have l4:=hr.Z9;exact zzf):P:=h
theorem zz7y(h:P:=by
 rw [CN] at w;obtain ⟨rfl,_⟩:i=i0/\_:=by simpa using w
 exact hL.ho k hk _ _ _ hr):P:=h
theorem zz7z(h:P:=by
 rw [hb,Fh hb] at c;rw [Gc hb,I_ hb];exact zz1g):P:=h
theorem zz80(h:P:=by
 rw [Qq (by omega),Qq (by omega),Qj e];unfold FL.CW
 repeat' split
 all_goals simp):P:=h
theorem zz81(h:P:=by
 have e0:Bo f.s t Dd.no.ev=none:=by unfold Bo;rw [Qq hk]
 unfold SS.fin;rw [e0]):P:=h
theorem zz82(h:P:=by
 have e:FO x=false:=decide_eq_false (by omega);rw [e];clear e;exact zzo):P:=h
theorem zz83(h:P:=by
 by_cases e:j=k
 ·exact zz3c
 ·exact zz6j):P:=h
theorem zz84(h:P:=by
 have hh:Hid (IJ s.ac.length t=false):=Qw (E4 (by omega));exact zz1v):P:=h
theorem zz85(h:P:=by
 unfold A5;rw [ho];simp [AR,Au]):P:=h
theorem zz86(h:P:=by
 rw [blk_alloc_lt _ _ _ (by rw [e2];omega),<-e1,blk_alloc_new];rfl):P:=h
theorem zz87(h:P:=by
 have hh:Hid (IJ cs.length a=false):=Qw (E4 (by omega));exact zz1v):P:=h
theorem zz88(h:P:=by
 have hh:Hid (IJ ms.length a=false):=Qw (E4 (by omega));exact zz1v):P:=h
theorem zz89(h:P:=by
 rw [CN] at w;obtain ⟨rfl,_⟩:i=i0/\_:=by simpa using w
 exact o1):P:=h
theorem zz0(h:P:=by
 refine bodyPost_ret (v:=Dd.val ⟨0,false,false,false⟩) (results_cell_row rfl _ _ w.heap.size 102 _ (0,0) _ rfl (AO HT.out.res rfl _ _ _ _) underlying102 rfl AB) rfl (HT.out.told HE.out.1 ⟨0,false,false,false⟩)):P:=h
theorem zz1(h:P:=by
 have cS:=De hF.fr.lk.raw.seat t;obtain ⟨v0,v1,v2,v3⟩:=hF.fr.cell;obtain ⟨x0,x1,x2,x3⟩:=hF.fr.Am;obtain ⟨p0,p1,p2,p3⟩:=hF.cell;have hn:=h.raw.seat.n2;by_cases ht:0<=t/\t<f.s.n
 ·obtain ⟨k,rfl⟩:=Qx ht.1
  have hk:k<f.s.n:=by omega
  have eS:f.s.FD (k:Int)=f.s.st k:=by unfold SS.FD;rw [Qj ht,Int.toNat_natCast]
  rw [eS] at cS;by_cases h1:f.s.st k=1
  ·have e1:f.mid L k u=f.acq L k u:=by unfold FL.mid;rw [Qj ht,Int.toNat_natCast,Qj h1]
   have e2:f.did L k u=f.A7 L k u:=by unfold FL.did;rw [Qj ht,Int.toNat_natCast,Qj h1]
   have es:=f.CO L k u;unfold FL.step;rw [e1] at es;rw [e1,e2];rw [h1] at cS;have cA:=ET hF.fr.lk k hk u hD;generalize f.acq L k u=g at*;generalize f.A7 L k u=d at*;have HE:=Qw (Qz h (Qz hF es));have HZ:=Qw hZ;clear h hF eS e1 e2 hB es hZ h1;exact zz7a
  by_cases h3:f.s.st k=3
  ·have e1:f.mid L k u=f.rel L k u:=by unfold FL.mid;rw [Qj ht,Int.toNat_natCast,Qq h1,Qj h3]
   have e2:f.did L k u=⟨3,false,false,false⟩:=by unfold FL.did;rw [Qj ht,Int.toNat_natCast,Qq h1,Qj h3]
   have es:=f.CO L k u;unfold FL.step;rw [e1] at es;rw [e1,e2];rw [h3] at cS;have cA:=EU hF.fr.lk k hk u hD;generalize f.rel L k u=g at*;have HE:=Qw (Qz h (Qz hF es));have HZ:=Qw hZ;clear h hF eS e1 e2 hB es hZ h1 h3;generalize f.s.n=n at*
   go_in
   go_wp2_with (first
    |(go_at_call 129;rw [<-HZ.out];(with_reducible refine cS.mono ?_);rintro e w' ⟨rfl,rfl⟩)
    |((with_reducible refine cA.mono ?_);intro e w2 hq;unfold AP at hq;obtain ⟨rfl,hA,hW⟩:=hq;dsimp only [Dd.val];have AJ:=HE.out.2.1.call HE.out.1 hA hW;obtain ⟨p0,p1,p2,p3⟩:=AJ.cell;obtain ⟨y0,y1,y2,y3⟩:=AJ.Am;have hK:=AJ.keep HE.out.1 ⟨3,false,false,false⟩;have cE:=Bb hK.fr.lk.raw.seat (k:Int) 3;have HK:=Qw hK;clear hA AJ hK hW)
    |((with_reducible refine cE.mono ?_);intro e w3 hq;unfold Ag at hq;obtain ⟨rfl,hS,hW⟩:=hq;have hY:=HK.out.ends HE.out.1 hS (SS.Bv _ _ _) hW;obtain ⟨e0,e1,e2,e3⟩:=hY.cell;obtain ⟨v0,v1,v2,v3⟩:=hY.fr.cell;obtain ⟨x0,x1,x2,x3⟩:=hY.fr.Am;have HT:=Qw hY;clear hY hS hW))
   exact zz7h
  by_cases h4:f.s.st k=4
  ·have e1:f.mid L k u=f.ask L k u:=by unfold FL.mid;rw [Qj ht,Int.toNat_natCast,Qq h1,Qq h3,Qj h4]
   have e2:f.did L k u=f.CW L k u:=by unfold FL.did;rw [Qj ht,Int.toNat_natCast,Qq h1,Qq h3,Qj h4]
   have es:=f.CO L k u;unfold FL.step;rw [e1] at es;rw [e1,e2];rw [h4] at cS;have cA:=J7 hF.fr.lk k hk u hD;generalize f.ask L k u=g at*;generalize f.CW L k u=d at*;have HE:=Qw (Qz h (Qz hF es));have HZ:=Qw hZ;clear h hF eS e1 e2 hB es hZ h1 h3 h4;exact zz7a
  have e1:f.mid L k u=f:=by unfold FL.mid;rw [Qj ht,Int.toNat_natCast,Qq h1,Qq h3,Qq h4]
  have e2:f.did L k u=Dd.no:=by unfold FL.did;rw [Qj ht,Int.toNat_natCast,Qq h1,Qq h3,Qq h4]
  have hK:=hF;have cE:=Bb hK.fr.lk.raw.seat (k:Int) Dd.no.ev;have HE:=Qw (Qz h hF);have HK:=Qw hK;have HZ:=Qw hZ;unfold FL.step;rw [e1,e2];clear h hF hK eS e1 e2 hB hZ b0 b1 b2;generalize f.s.st k=x at*;generalize f.s.n=n at*
  go_in
  go_wp2_with (first
   |(go_at_call 129;rw [<-HZ.out];(with_reducible refine cS.mono ?_);rintro e w' ⟨rfl,rfl⟩)
   |((with_reducible refine cE.mono ?_);intro e w3 hq;unfold Ag at hq;obtain ⟨rfl,hS,hW⟩:=hq;have hY:=HK.out.ends HE.out.1 hS (SS.Bv _ _ _) hW;obtain ⟨e0,e1,e2,e3⟩:=hY.cell;obtain ⟨v0,v1,v2,v3⟩:=hY.fr.cell;obtain ⟨x0,x1,x2,x3⟩:=hY.fr.Am;have HT:=Qw hY;clear hY hS hW))
  refine bodyPost_ret (v:=Dd.val Dd.no) (results_cell_row rfl _ _ (w.heap.size+1) 102 _ (0,0) _ rfl (AO HT.out.fr.res rfl _ _ _ _) underlying102 rfl AB) rfl (HT.out.fr.told HE.out.1 Dd.no)
 ·have eS:f.s.FD t=0:=Qq ht
  rw [eS] at cS;have e1:f.mid L t u=f:=by unfold FL.mid;rw [Qq ht]
  have e2:f.did L t u=Dd.no:=by unfold FL.did;rw [Qq ht]
  have hK:=hF;have cE:=Bb hK.fr.lk.raw.seat t Dd.no.ev;have HE:=Qw (Qz h hF);have HK:=Qw hK;have HZ:=Qw hZ;unfold FL.step;rw [e1,e2];clear h hF hK eS e1 e2 hB hZ b0 b1 b2 ht
  go_in
  go_wp2_with (first
   |(go_at_call 129;rw [<-HZ.out];(with_reducible refine cS.mono ?_);rintro e w' ⟨rfl,rfl⟩)
   |((with_reducible refine cE.mono ?_);intro e w3 hq;unfold Ag at hq;obtain ⟨rfl,hS,hW⟩:=hq;have hY:=HK.out.ends HE.out.1 hS (SS.Bv _ _ _) hW;obtain ⟨e0,e1,e2,e3⟩:=hY.cell;obtain ⟨v0,v1,v2,v3⟩:=hY.fr.cell;obtain ⟨x0,x1,x2,x3⟩:=hY.fr.Am;have HT:=Qw hY;clear hY hS hW))
  refine bodyPost_ret (v:=Dd.val Dd.no) (results_cell_row rfl _ _ (w.heap.size+1) 102 _ (0,0) _ rfl (AO HT.out.fr.res rfl _ _ _ _) underlying102 rfl AB) rfl (HT.out.fr.told HE.out.1 Dd.no)):P:=h
theorem zz2(h:P:=by
 unfold C8;have HH:=Qw cH;clear cH hn
 go_in
 go_wp2_with (first
  |((with_reducible refine (HH.out _ ((Wr.refl _ _).alloc _)).mono ?_);rintro e w1 ⟨rfl,rfl⟩)
  |((with_reducible refine (cS _).mono ?_);rintro e w1 ⟨rfl,rfl⟩))
 go_ret;exact ⟨rfl,HW.out⟩):P:=h
theorem zz3(h:P:=by
 have e1:(w.alloc (.cells cs 229)).heap.size=w.heap.size+1:=nblk_alloc _ _;have e2:((w.alloc (.cells cs 229)).alloc (.cells #[.int .i64 0,.bool false,.bool false,.bool false] 102)).heap.size=w.heap.size+1+1:=by rw [nblk_alloc,e1]
 have k:Wr Nil w (((w.alloc (.cells cs 229)).alloc (.cells #[.int .i64 0,.bool false,.bool false,.bool false] 102)).alloc (.cells #[.int .i64 0,.bool false,.bool false,.bool false] 102)):=(((Wr.refl _ w).alloc _).alloc _).alloc _;refine ⟨⟨⟨h.after k,k.mono λ_ _ e=>e.elim,?_,Nat.le_succ _⟩,?_,by omega,by omega⟩,?_⟩
 ·exact zz86
 ·rw [<-e2,blk_alloc_new];rfl
 ·rw [blk_alloc_lt _ _ _ (by rw [e2];omega),blk_alloc_lt _ _ _ (by rw [e1];omega),blk_alloc_new]):P:=h
theorem zz4(h:P:=by
 generalize f.s.n=n at*
 go_in
 go_wp2_with (first
  |(go_at_call 129;rw [<-HZ.out];(with_reducible refine cS.mono ?_);rintro e w' ⟨rfl,rfl⟩)
  |((with_reducible refine cA.mono ?_);intro e w2 hq;unfold A_ at hq;obtain ⟨rfl,hA,hW⟩:=hq;dsimp only [Dd.val];have AJ:=HE.out.2.1.call HE.out.1 hA hW;obtain ⟨p0,p1,p2,p3⟩:=AJ.cell;obtain ⟨y0,y1,y2,y3⟩:=AJ.Am;have hK:=AJ.keep HE.out.1 d;have cE:=Bb hK.fr.lk.raw.seat (k:Int) d.ev;rw [HE.out.2.2.1] at cE;have HK:=Qw hK;clear hA AJ hK hW)
  |((with_reducible refine cE.mono ?_);intro e w3 hq;unfold Ag at hq;obtain ⟨rfl,hS,hW⟩:=hq;have hY:=HK.out.ends HE.out.1 hS HE.out.2.2.2.1 HE.out.2.2.2.2 rfl hW;obtain ⟨e0,e1,e2,e3⟩:=hY.cell;obtain ⟨v0,v1,v2,v3⟩:=hY.fr.cell;obtain ⟨x0,x1,x2,x3⟩:=hY.fr.Am;have HT:=Qw hY;clear hY hS hW))
 refine bodyPost_ret (v:=Dd.val d) (results_cell_row rfl _ _ (w.heap.size+1) 102 _ (0,0) _ rfl (AO HT.out.fr.res rfl _ _ _ _) underlying102 rfl AB) rfl (HT.out.fr.told HE.out.1 d)):P:=h
theorem zz5(h:P:=by
 refine (Cu h.raw ⟨L.q.p,0,none⟩).mono ?_;rintro e w' ⟨rfl,rfl⟩;have hW:Wr (One L.lb) w (w.setCell ⟨L.lb,1,none⟩ (.pointer (some ⟨L.q.p,0,none⟩))):=(Wr.refl _ w).setCell _ _ λ_=>rfl;have hr:=h.raw;have h1:=h.far;have h2:=h.port.place.le;have h3:=h.low;exact ⟨rfl,⟨⟨hr.use _,h.port.wrote hW λb b1 _ e=>by unfold One at e;omega,h.far,Nat.le_trans h.top hW.size⟩,h.low,h.wr.trans hW λb hb e=>by unfold One at e;unfold Nil;omega⟩,hW.mono λb _ e=>by unfold One at e;unfold Low;omega⟩):P:=h
theorem zz6(h:P:=by
 have hF:=Fr.start h;obtain ⟨Z,hZ⟩:∃ Z,Z=w.alloc (.cells #[.int .i64 0,.bool false,.bool false,.bool false] 102):=⟨_,rfl⟩
 rw [<-hZ] at hF;have cM:=Cq hF.lk t u hD;have c0:=hF.lk.raw.cell0;rw [hZ] at c0;generalize f.step L t u=g at*;generalize f.did L t u=d at*;have HE:=Qw (Qz h hF);have HZ:=Qw hZ;clear h hF hZ
 go_in
 go_wp2_with (first
  |(go_at_call 136;rw [<-HZ.out];(with_reducible refine cM.mono ?_);intro e w2 hq;unfold AP at hq;obtain ⟨rfl,hA,hW⟩:=hq;dsimp only [Dd.val];have AJ:=Fr.call HE.out.1 HE.out.2 hA hW;obtain ⟨v0,v1,v2,v3⟩:=AJ.cell;obtain ⟨x0,x1,x2,x3⟩:=AJ.Am;have HT:=Qw AJ;clear hA AJ hW))
 refine bodyPost_ret (v:=Dd.val d) (results_cell_row rfl _ _ w.heap.size 102 _ (0,0) _ rfl (AO HT.out.res rfl _ _ _ _) underlying102 rfl AB) rfl (HT.out.told HE.out.1 d)):P:=h
theorem zz7(h:P:=by
 refine bodyPost_ret (v:=Dd.val Dd.no) (results_cell_row rfl _ _ (w.heap.size+1) 102 _ (0,0) _ rfl (AO HT.out.fr.res rfl _ _ _ _) underlying102 rfl AB) rfl (HT.out.fr.told HE.out.1 Dd.no)):P:=h
theorem zz8(h:P:=by
 generalize f.s.n=n at*
 go_in
 go_wp2_with (first
  |(go_at_call 129;rw [<-HZ.out];(with_reducible refine cS.mono ?_);rintro e w' ⟨rfl,rfl⟩)
  |((with_reducible refine cA.mono ?_);intro e w2 hq;unfold AP at hq;obtain ⟨rfl,hA,hW⟩:=hq;dsimp only [Dd.val];have AJ:=HE.out.2.1.call HE.out.1 hA hW;obtain ⟨p0,p1,p2,p3⟩:=AJ.cell;obtain ⟨y0,y1,y2,y3⟩:=AJ.Am;have hK:=AJ.keep HE.out.1 d;have cE:=Bb hK.fr.lk.raw.seat (k:Int) d.ev;have HK:=Qw hK;clear hA AJ hK hW)
  |((with_reducible refine cE.mono ?_);intro e w3 hq;unfold Ag at hq;obtain ⟨rfl,hS,hW⟩:=hq;have hY:=HK.out.ends HE.out.1 hS (SS.MG _ _ _ _ HE.out.2.2.2) hW;obtain ⟨e0,e1,e2,e3⟩:=hY.cell;obtain ⟨v0,v1,v2,v3⟩:=hY.fr.cell;obtain ⟨x0,x1,x2,x3⟩:=hY.fr.Am;have HT:=Qw hY;clear hY hS hW))
 rw [<-HE.out.2.2.1];refine bodyPost_ret (v:=Dd.val d) (results_cell_row rfl _ _ (w.heap.size+1) 102 _ (0,0) _ rfl (AO HT.out.fr.res rfl _ _ _ _) underlying102 rfl AB) rfl (HT.out.fr.told HE.out.1 d)):P:=h
theorem zz9(h:P:=by
 clear h0 hq hP hr hb ho
 go_in
 go_wp2_with (first
  |((with_reducible refine (cN _ ((Wr.refl _ _).alloc _)).mono ?_);intro e w2 D7;unfold DN at D7;obtain ⟨lb,rfl,hB⟩:=D7;have HB:=Qw hB;clear hB cN)
  |((with_reducible refine (JE _ _).mono ?_);rintro e w3 ⟨rfl,rfl⟩))
 go_ret2
 exact HB.out):P:=h
theorem zza(h:P:=by
 rw [show (E6 n ea).n=n*ea from rfl] at cN;generalize hm:n*ea=m at*
 go_wp2_with (first
  |((with_reducible refine cN.mono ?_);rintro e w' ⟨rfl,rfl⟩))
 go_loopw [12,44] (λ_ i wr=>∃ k:Nat,k<=m/\i= .int .i64 k/\LaySt w q t lb p sb tb b o n ea Q zs ((hs.length:Nat):Int) (hs++[x]++Ih ea zs k) (vs++[0]++List.replicate (3*k) 0) wr) (λ_ i _=>m-(intOf i).toNat)
 case atStart=>exact ⟨0,Nat.zero_le _,rfl,by simpa [Ih] using HL.out⟩
 case round=>
  clear HL;obtain ⟨k,hk,rfl,hl⟩:=hrel;by_cases hlt:k<m
  ·have hdiv:k/ea<n:=Nat.div_lt_of_lt_mul (by rw [Nat.mul_comm,hm];exact hlt)
   have yc:=hl.home hdiv;have mz:(0:Int)<=((k/ea:Nat):Int):=Int.natCast_nonneg _;have n9:((k/ea:Nat):Int)<(n:Int):=by omega
   have DG:=IA ea zs k;have DI:=CT k 0;have cO:=X9 hl k (by rw [hm];exact hlt) n2;have cR:=JK hl HX.out.2.2.2.1 (zs.getD (k/ea) 0) (by simp only [List.length_append,List.length_singleton,Jf];omega);rw [List.append_assoc (hs++[x]),<-DG,List.append_assoc (vs++[0]),<-DI] at cR;generalize zs.getD (k/ea) 0=y at*;generalize k/ea=d at*;have wk:IntKind.i64.wrap ((k:Int)+1)=(k:Int)+1:=by rw [IntKind.wrap_i64];omega
   clear hl DG DI hm hdiv
   go_wp2_with (first
    |((with_reducible refine cO.mono ?_);rintro e w' ⟨rfl,rfl⟩)
    |((with_reducible refine cR.mono ?_);intro e w4 hq;unfold Ax at hq;obtain ⟨rfl,hA⟩:=hq;have HA:=Qw hA;clear hA))
   exact zz7v
  ·obtain rfl:k=m:=by omega
   have HL:=Qw hl;have HM:=Qw hm;clear hl hm;go_wp2
   go_ret2
   rw [<-HM.out] at HL;exact DA HL.out HX.out.2.2.2.2.2):P:=h
theorem zzb(h:P:=by
 refine bodyPost_ret (v:=Dd.val d) (results_cell_row rfl _ _ w.heap.size 102 _ (0,0) _ rfl (AO HT.out.res rfl _ _ _ _) underlying102 rfl AB) rfl (HT.out.told HE.out.1 d)):P:=h
theorem zzc(h:P:=by
 refine bodyPost_ret (v:=Dd.val ⟨3,false,false,false⟩) (results_cell_row rfl _ _ w.heap.size 102 _ (0,0) _ rfl (AO HT.out.res rfl _ _ _ _) underlying102 rfl AB) rfl (HT.out.told HE.out.1 ⟨3,false,false,false⟩)):P:=h
theorem zzd(h:P:=by
 have k:=C0 X C (.int .i64 d'.ev) (.bool d'.BW) (.bool d'.arr) (.bool d'.lead);have hf:=h.far;have hC:∀ j,j<w.heap.size->¬ One C j:=λj hj e=>by cases e;omega
 refine ⟨⟨h.fr.lk.wrote k (hC _ (A2 h0.raw.obj)) (hC _ (A2 h0.raw.seat.obj)) (hC _ (A2 h0.raw.seat.ctx)) (hC _ (A2 h0.raw.tick)) (λb _ b2=>hC b (Nat.lt_of_lt_of_le b2 h0.top)),h.fr.wr.trans k λb hb e=>(hC b hb e).elim,(k.block B (A2 h.fr.res) λe=>h.ne e.symm).trans h.fr.res,h.fr.new⟩,AO h.did rfl _ _ _ _,h.far,h.ne⟩):P:=h
theorem zze(h:P:=by
 rw [e1,e2,Aq];refine ⟨some k,i::j::r',3,h.CL hk (.inl ⟨rfl,sk.symm⟩) rfl (by show (A5 _ _ _ _ _ _).ws.length=_;rw [b]) cc dd (λj e=>⟨A0 _ _ e,rfl,A0 _ _ e,rfl⟩) (by simp only [upd_same];omega) (by omega) (λ_=>by simp only [upd_same];omega) (λ_ _=>by first|exact upd_same _ _ _|omega) (by simp only [upd_same];refine ⟨by omega,?_,?_⟩<;>intros<;>first|trivial|omega) (h.Di k) (by simp only [upd_same];omega) (λhy hro=> ?_) (.same rfl (by decide) (by decide) (RT _ rfl ws)) (.inl (by simp only [upd_same];rw [sk,pk,Bn wo];simp [EA]<;>omega)) (λw=>absurd w (by decide)) (λ_=> .inl (by decide)) (λhL hy=> ?_)⟩
 ·show Cor _ _ _ _ (wT (A5 _ _ _ _ _ _)) (wS (A5 _ _ _ _ _ _)) (wN (A5 _ _ _ _ _ _)) (wO (A5 _ _ _ _ _ _)) (some k) (i::j::r')
  rw [wt,ws,wn,wo];exact h.Ae.O6 hk hr (Dj (p:=4) hy (upd_same _ _ _) (by omega) hi ((upd_same _ _ _).trans hN)) hro (by omega) (λw=>by omega) (λ_=>⟨r',rfl,hN,λw=>by omega⟩)
 ·have CN:FL.ro {f with pc:=upd f.pc k 4,A9:=upd f.A9 k (wN f.ps i),ps:=A5 f.ps k 1 (L.nA (f.nd k)) 0 0} k=_:=Dj (p:=4) hy (upd_same _ _ _) (by omega) hi ((upd_same _ _ _).trans hN)
  refine ⟨λj hj=>by show wS (A5 _ _ _ _ _ _) j≠2;rw [ws];exact hL.up j hj,λi0 p b w=> ?_,λi w=> ?_,λw=>absurd w (by decide),by decide,by decide⟩
  ·exact zz7y
  ·rw [CN] at w;cases w):P:=h
theorem zzf(h:P:=by
 have s0:=h0.size;exact ⟨(hr.after hW).place q hs,hP,⟨by dsimp only;omega,by dsimp only;omega,by dsimp only;omega,by dsimp only;omega⟩,h2,⟨by dsimp only;omega,by dsimp only;omega,by dsimp only;omega,by dsimp only;omega,by dsimp only;omega⟩,h0.nil hW⟩):P:=h
theorem zzg(h:P:=by
 refine bodyPost_ret (v:=Dd.val ⟨1,false,false,false⟩) (results_cell_row rfl _ _ w.heap.size 102 _ (0,0) _ rfl (AO HT.out.res rfl _ _ _ _) underlying102 rfl AB) rfl (HT.out.told HE.out.1 ⟨1,false,false,false⟩)):P:=h
theorem zzh(h:P:=by
 have k:=C0 Y B (.int .i64 d.ev) (.bool d.BW) (.bool d.arr) (.bool d.lead);have hB:∀ j,j<w.heap.size->¬ One B j:=λj hj e=>by have:=h.new;cases e;omega
 have hp:=A2 h0.raw.seat.obj;refine ⟨rfl,h.lk.wrote k (hB _ (A2 h0.raw.obj)) (hB _ (A2 h0.raw.seat.obj)) (hB _ (A2 h0.raw.seat.ctx)) (hB _ (A2 h0.raw.tick)) (λb _ b2=>hB b (Nat.lt_of_lt_of_le b2 h0.top)),?_⟩;exact h.wr.trans k λb hb e=>(hB b hb e).elim):P:=h
theorem zzi(h:P:=by
 have HE:=Qw (Qz h (Qz hF (Qz hs hpc)));clear h hF hp hs hpc
 go_in
 go_wp2;rw [<-hZ];clear hZ;go_big_quiet (first|(go_at_call 205;with_reducible exact Calls.quiet_of_same (cC _))|(go_at_call 206;with_reducible exact Calls.quiet_of_same (cS _)))
 generalize hX:Z.drewN _=X;have hY:=HE.out.2.1.after (by rw [<-hX];exact (Wr.refl Nil Z).drewN _:Wr Nil Z X);clear hX t0 t1 t2 t3 t4 t5;obtain ⟨p,hp,t0,t1,t2,t3,t4,t5⟩:=hY.lk.Ay hk;have z3:=hY.lk.raw.BO (k*6+3);have hT:=hY.lk.turns (hY.lk.raw.Du k 1 ⟨f.cl k,3,f.nd k,f.AL k,f.of k,f.wv k⟩ 3 (λq hq=>by rw [HE.out.2.2.1] at hq;exact hq.next (q:=3) (by decide) (λ_=>(by have:(f.ab k).pc=2:=HE.out.2.2.2;omega)) (λx=>by omega) (by decide)));have hA:=Fr.call HE.out.1 hY hT.1 (BH hT.2);obtain ⟨v0,v1,v2,v3⟩:=hA.cell;obtain ⟨x0,x1,x2,x3⟩:=hA.Am;have HA:=Qw hA;clear hA hT hY hp;go_wp2;refine bodyPost_ret (v:=Dd.val ⟨0,false,false,false⟩) (results_cell_row rfl _ _ w.heap.size 102 _ (0,0) _ rfl (AO HA.out.res rfl _ _ _ _) underlying102 rfl AB) rfl (HA.out.told HE.out.1 ⟨0,false,false,false⟩)):P:=h
theorem zzj(h:P:=by
 go_wp2;go_loopw [10,32] (λ_ i wr=>∃ k:Nat,k<=n/\i= .int .i64 k/\LaySt w q t lb p sb tb b o n zs ((hs.length:Nat):Int) (hs++[x]++MC (zs.take k)) (vs++[0]++List.replicate (2*k) 0) wr) (λ_ i _=>n-(intOf i).toNat)
 case atStart=>exact ⟨0,Nat.zero_le _,rfl,by simpa [MC] using HL.out⟩
 case round=>
  clear HL;obtain ⟨k,hk,rfl,hl⟩:=hrel;by_cases hlt:k<n
  ·have yc:=hl.home hlt
   have DG:=MD zs (k:=k) (by omega);have DI:=CT k 0;have cR:=JK hl HX.out.2.2.2.1 (zs.getD k 0) (by simp only [List.length_append,List.length_singleton,Ii,List.length_take];omega);rw [List.append_assoc (hs++[x]),<-DG,List.append_assoc (vs++[0]),<-DI] at cR;generalize zs.getD k 0=y at*;clear hl DG DI
   go_wp2_with (first
    |((with_reducible refine cR.mono ?_);intro e w4 hq;unfold Ax at hq;obtain ⟨rfl,hA⟩:=hq;have HA:=Qw hA;clear hA))
   exact zz7v
  ·obtain rfl:k=n:=by omega
   have HL:=Qw hl;clear hl;go_wp2
   go_ret2
   exact DA HX.out.1 HL.out hlen HX.out.2.2.2.2.2):P:=h
theorem zzk(h:P:=by
 refine ⟨λj hj=>by show wS (A5 _ _ _ _ _ _) j≠2;rw [ws];exact hL.up j hj,λi0 p b w=> ?_,λi w=> ?_,λw=>absurd w (by decide),by decide,by decide⟩
 ·exact zz7y
 ·rw [CN] at w;cases w):P:=h
theorem zzl(h:P:=by
 subst ha;have ho:Dg ps k 4 (i:Int)=true:=by simp [Dg,EH];omega
 have hb:E9 ps.ws (i:Int) old=decide (ps.ws.getD i 0=old):=by unfold E9;rw [FK hi,DW];simp
 refine ⟨?_,?_,?_,?_⟩
 ·unfold casT;rw [hb,Ld hk hi];simp
 ·unfold A5;rw [ho]
  show Fg ps.ws (i:Int) old v=_;unfold Fg;rw [hb];by_cases e:ps.ws.getD i 0=old
  ·rw [decide_eq_true e,Qj rfl,Qj e];simp [BA]
  ·rw [decide_eq_false e,Qq (by decide),Qq e]
 ·exact zz85
 ·unfold A5;rw [ho];simp [AR]):P:=h
theorem zzm(h:P:=by
 unfold A8 at h;rw [List.all_eq_true] at h;by_cases hi:i<zs.length
 ·exact h _ (by rw [List.getD_eq_getElem?_getD,List.getElem?_eq_getElem hi];exact List.getElem_mem hi)
 ·rw [List.getD_eq_getElem?_getD,List.getElem?_eq_none (by omega)];rfl):P:=h
theorem zzn(h:P:=by
 have h1:=h.lk.far;have h2:=h.lk.port.place.le;have h3:=h.low;have n:∀ b,b<L.q.k3->¬ S b:=λb hb e=>by have:=hS b e;omega
 have ht:=h.lk.top;refine ⟨h.lk.wrote k (n _ (by omega)) (n _ (by omega)) (n _ (by omega)) (n _ (by omega)) λb _ b2=>n b b2,h.low,h.wr.trans k λb hb e=> ?_⟩;exact n b (by omega) e):P:=h
theorem zzo(h:P:=by
 go_in
 go_wp2;go_ret;exact ⟨rfl,rfl⟩):P:=h
theorem zzp(h:P:=by
 cases j with
 |zero=>rfl
 |succ j=>show ps'.ws.getD _ 0=ps.ws.getD _ 0;rw [h];exact AG _ (by omega)):P:=h
theorem zzq(h:P:=by
 have ho:Dg ps k 1 (i:Int)=true:=by simp [Dg,EH];omega
 refine ⟨?_,?_,?_,?_⟩
 ·unfold A6;rw [ho];simp [CR,BK]
 ·unfold A5;rw [ho];simp [Gb]
 ·exact zz85
 ·unfold A5;rw [ho];simp [AR]):P:=h
theorem zzr(h:P:=by
 have e:f.did L t t=Dd.no:=by unfold FL.did;rw [Qq hk]
 have em:f.mid L t t=f:=by unfold FL.mid;rw [Qq hk]
 refine ⟨e,?_⟩;have e0:f.s.fin t Dd.no.ev=f.s:=by
  exact zz81
 unfold FL.step;rw [e,em,e0]):P:=h
theorem zzs(h:P:=by
 have k:=C0 X C (.int .i64 d'.ev) (.bool d'.BW) (.bool d'.arr) (.bool d'.lead);have hf:=h.far;have hC:∀ j,j<w.heap.size->¬ One C j:=λj hj e=>by cases e;omega
 refine ⟨⟨h.fr.lk.wrote k (λb b2=>hC b (Nat.lt_of_lt_of_le b2 h0.top)),h.fr.wr.trans k λb hb e=>(hC b hb e).elim,(k.block B (A2 h.fr.res) λe=>h.ne e.symm).trans h.fr.res,h.fr.new⟩,AO h.did rfl _ _ _ _,h.far,h.ne⟩):P:=h
theorem zzt(h:P:=by
 have e1:(w.alloc (.cells cs 229)).heap.size=w.heap.size+1:=nblk_alloc _ _;have e2:((w.alloc (.cells cs 229)).alloc (.cells #[.int .i64 0,.bool false,.bool false,.bool false] 102)).heap.size=w.heap.size+1+1:=by rw [nblk_alloc,e1]
 have k:Wr Nil w (((w.alloc (.cells cs 229)).alloc (.cells #[.int .i64 0,.bool false,.bool false,.bool false] 102)).alloc (.cells #[.int .i64 0,.bool false,.bool false,.bool false] 102)):=(((Wr.refl _ w).alloc _).alloc _).alloc _;refine ⟨⟨⟨h.after k,k.mono λ_ _ e=>e.elim,?_,Nat.le_succ _⟩,?_,by omega,by omega⟩,?_,k⟩
 ·exact zz86
 ·rw [<-e2,blk_alloc_new];rfl
 ·rw [blk_alloc_lt _ _ _ (by rw [e2];omega),blk_alloc_lt _ _ _ (by rw [e1];omega),blk_alloc_new]):P:=h
theorem zzu(h:P:=by
 refine ⟨λj hj=>by show wS (A5 _ _ _ _ _ _) j≠2;rw [ws];exact hL.up j hj,λi p b w=> ?_,λi w=> ?_,λ_=>⟨rfl,sk,by simp only [upd_same];omega,by simp only [upd_same];omega⟩,by decide,by decide⟩
 ·rw [CN] at w;cases w
 ·rw [CN] at w;cases w):P:=h
theorem zzv(h:P:=by
 go_in
 go_upto_region 1 with fail
 rw [<-HX.out]
 go_wp2_with (first
  |((with_reducible refine (O0 _ _ _ _ _ _ _ _ _ _ _).mono ?_);rintro e w3 ⟨rfl,NV⟩;have HR:=Qw NV;clear NV)
  |((with_reducible refine (HK.out _ HR.out).mono ?_);intro e w4 hq;unfold C8 at hq;obtain ⟨rfl,Wt⟩:=hq;have H4:=Qw (HR.out.nil Wt);clear Wt))
 go_ret;exact ⟨rfl,HW.out.nil H4.out⟩):P:=h
theorem zzw(h:P:=by
 intro m hm p o hr';have hmk:m≠k:=by rintro rfl;rw [e0] at hr';cases hr'
 obtain ⟨a1,a2,a3,a4,a5,a6⟩:=h.rs m hm p o (by rw [<-e m hmk];exact hr');refine ⟨a1,a2,a3,a4,a5,λz y hz hy=> ?_⟩;rw [e y (kQ y (AU hy).2)];exact a6 z y hz hy):P:=h
theorem zzx(h:P:=by
 have hi:i<s.n:=by have:=(List.getElem?_eq_some_iff.1 ht).1;simpa using this
 rw [List.getElem?_range hi] at ht;exact ⟨hi,by simpa using ht.symm⟩):P:=h
theorem zzy(h:P:=by
 refine bodyPost_ret (v:=Dd.val Dd.no) (results_cell_row rfl _ _ w.heap.size 102 _ (0,0) _ rfl (AO HT.out.res rfl _ _ _ _) underlying102 rfl AB) rfl (HT.out.told HE.out.1 Dd.no)):P:=h
theorem zzz(h:P:=by
 refine wpAnyH_ready (rs:=[20]) (by kernel_rfl) (by simp) ?_;refine AllReadyH.cons rfl (λK hK=> ?_) (AllReadyH.nil);go_simp;refine hK.out _ _ ⟨(World.cell?_setCell_other w7 _ _ _ HN.out.1).trans d1,(World.cell?_setCell_other w7 _ _ _ HN.out.2).trans d2⟩ (λAj=> ?_);clear hHeld K hK;have hHeld:=Aj;clear Aj
 (try simp only [Act.put,List.setIfInBounds_toArray,List.set_cons_zero,List.set_cons_succ])
 refine wpAnyH_done (by kernel_rfl) ?_ _;generalize w7.setCell ⟨w.heap.size,t,none⟩ (.slice (some ⟨g2,0,none⟩) (n+1) Od)=W8 at HE ⊢;clear d1 d2 d3 d4 hHeld c0 c1 c3 f3;go_wp2;go_roundw
 case rel=>exact ⟨k+1,by omega,by go_num,HE.out⟩
 case measure=>simp [intOf];omega):P:=h
theorem zz10(h:P:=by
 have ho:Dg ps k 2 (i:Int)=true:=by simp [Dg,EH];omega
 refine ⟨?_,?_,?_⟩
 ·unfold A5;rw [ho];simp [Gb,BA]
 ·exact zz85
 ·unfold A5;rw [ho];simp [AR]):P:=h
theorem zz11(h:P:=by
 refine bodyPost_ret (v:=Dd.val ⟨0,true,false,false⟩) (results_cell_row rfl _ _ w.heap.size 102 _ (0,0) _ rfl (AO HT.out.res rfl _ _ _ _) underlying102 rfl AB) rfl (HT.out.told HE.out.1 ⟨0,true,false,false⟩)):P:=h
theorem zz12(h:P:=by
 go_ret;exact ⟨rfl,rfl⟩):P:=h
theorem zz13(h:P:=by
 rw [List.getElem?_range hi] at ht;exact ⟨hi,by simpa using ht.symm⟩):P:=h
theorem zz14(h:P:=by
 go_roundw
 case rel=>exact ⟨k+1,by omega,by go_num,HA.out⟩
 case measure=>simp [intOf];omega):P:=h
theorem zz15(h:P:=by
 clear J9 Gj Zf Im hV1 hV2 hP hne dz eB W1 W2 k1 k2 hx hy h P hc hr n4
 go_in
 go_wp2_with (first
  |(go_at_call 94;with_reducible refine c1.mono ?_;rintro e w' ⟨rfl,rfl⟩)
  |(go_at_call 95;with_reducible refine c2.mono ?_;rintro e w' ⟨rfl,rfl⟩)
  |(go_at_call 96;with_reducible refine cT.mono ?_;intro e w3 h3;unfold Ez at h3;obtain ⟨rfl,fU,GK⟩:=h3))
 go_ret;obtain ⟨f1,f2,f3,f4,f5,f6,f7⟩:=HH.out;have r:=f4 w3 (f1.trans GK λb _ e=>by rcases e with e|e<;>simp [e]) ((GK.block _ (A2 f2) (f5 _ f6)).trans f2) ((GK.block _ (A2 f3) (f5 _ f7)).trans f3) fU;exact ⟨rfl,r.1,r.2⟩):P:=h
theorem zz16(h:P:=by
 intro c hc;obtain ⟨a1,a2⟩:=h.st c hc;refine ⟨a1,?_⟩;rcases a2 with a2|⟨m,m1,m2,p,m3⟩
 ·exact .inl a2
 ·exact .inr ⟨m,m1,m2,p,by rw [e m (by rintro rfl;rw [hr] at m3;cases m3)];exact m3⟩):P:=h
theorem zz17(h:P:=by
 refine wpAnyH_ready (rs:=[10]) (by kernel_rfl) (by simp) ?_;refine AllReadyH.cons rfl (λK hK=> ?_) AllReadyH.nil;go_simp;refine hK.out _ _ ((blk_setCell_other _ _ _ _ jR.out).trans Xf) (λAj=> ?_);clear hHeld K hK;have hHeld:=Aj;clear Aj
 (try simp only [Act.put,List.setIfInBounds_toArray,List.set_cons_zero,List.set_cons_succ])
 refine wpAnyH_done (by kernel_rfl) ?_ _;clear f3 Xf c5 hHeld;generalize w5.setCell ⟨m,3,none⟩ (.slice (some ⟨g,0,none⟩) (s.tr.length+1) ZV)=W6 at*;go_wp2;go_returns;exact ⟨rfl,_,HE.out.1,(Went.nil HM.out.2).trans HE.out.2⟩):P:=h
theorem zz18(h:P:=by
 have k:=C0 Y B (.int .i64 d.ev) (.bool d.BW) (.bool d.arr) (.bool d.lead);have hB:∀ j,j<w.heap.size->¬ One B j:=λj hj e=>by have:=h.new;cases e;omega
 refine ⟨rfl,h.lk.wrote k (λb b2=>hB b (Nat.lt_of_lt_of_le b2 h0.top)),?_⟩;exact h.wr.trans k λb hb e=>(hB b hb e).elim):P:=h
theorem zz19(h:P:=by
 have e:Bo s k ev=some y:=by unfold Bo;rw [Qj (by omega),Int.toNat_natCast,h]
 unfold SS.fin;rw [e,Int.toNat_natCast]):P:=h
theorem zz1a(h:P:=by
 induction A generalizing Q A' with
 |nil=>
  cases A' with
  |nil=>rw [h] at h';exact ⟨rfl,by simpa using h'⟩
  |cons a r=>
   rw [h] at h' hn;obtain ⟨rfl,e⟩:i=a/\X=r++i::X':=by simpa using h'
   rw [e] at hn;simp at hn
 |cons a r ih=>
  cases A' with
  |nil=>
   rw [h'] at h hn;obtain ⟨rfl,e⟩:i=a/\X'=r++i::X:=by simpa using h
   rw [e] at hn;simp at hn
  |cons a' r'=>
   rw [h] at h' hn;obtain ⟨rfl,e⟩:a=a'/\r++i::X=r'++i::X':=by simpa using h'
   obtain ⟨x,y⟩:=ih (List.nodup_cons.1 hn).2 rfl e;exact ⟨by rw [x],y⟩):P:=h
theorem zz1b(h:P:=by
 rw [A3 (A3 (A3 (A3 h 0 x0) 1 x1) 2 x2) 3 x3];obtain ⟨l⟩:=cs
 match l,h4 with
 |[a,b,c,d],_=>rfl):P:=h
theorem zz1c(h:P:=by
 unfold SS.fin Bo;split
 ·rename_i y hy
  split at hy
  ·rw [Int.toNat_natCast,h] at hy;cases hy
  ·cases hy
 ·rfl):P:=h
theorem zz1d(h:P:=by
 apply List.ext_getElem?;intro m;by_cases hm:m<n*2
 ·have ha:m/2<n:=by omega
  have e:m=m/2*2+m%2:=by omega
  have h2:=BB n (λ_=>0) (λ_=>0) (k:=m/2) ha (j:=m%2) (Nat.mod_lt _ (by decide));exact zz7l
 ·rw [List.getElem?_eq_none (by simp [madeCells];omega),List.getElem?_eq_none (by unfold BS;rw [CF (Ah _ _),List.length_range];omega)]):P:=h
theorem zz1e(h:P:=by
 have h:(prog.info? 108).map (·.size)=some 1:=by kernel_rfl
 exact Option.map_eq_some_iff.1 h):P:=h
theorem zz1f(h:P:=by
 obtain ⟨_,i0,r,p,b,hQ,hr2,_⟩:=h.Ae.gs k rfl;rw [hr] at hr2;obtain ⟨rfl,_⟩:i=i0/\_:=by simpa using hr2
 exact ⟨r,hQ⟩):P:=h
theorem zz1g(h:P:=by
 clear hb h
 go_in
 go_wp2_with (go_at_call 89;with_reducible refine c.mono ?_;intro e w' h';unfold C2 at h';obtain ⟨rfl,hP,hW⟩:=h')
 go_ret;exact ⟨rfl,hP,hW⟩):P:=h
theorem zz1h(h:P:=by
 have h1:=h.far;have h2:=h.port.place.le;unfold Low;rcases e with rfl|rfl|e
 ·omega
 ·omega
 ·exact e.2):P:=h
theorem zz1i(h:P:=by
 obtain ⟨q',hq,hP,hC⟩:=h.plan;obtain ⟨f1,f2,f3⟩:=h.far hC;have c:=Ci hP x v hL;rw [hq] at c;refine c.mono ?_;intro e w2 hp;unfold C4 at hp;obtain ⟨rfl,q2,D7,Fk,hW,Gj⟩:=hp;refine ⟨rfl,⟨q2,D7.trans hq,Fk,hC.trans Gj h.kp.size⟩,h.kp.trans hW λj hj e=> ?_,(hW.block _ (A2 h.obj) f1).trans h.obj,(hW.block _ (A2 h.tick) f3).trans h.tick,h.row.wrote hW λa ha e=> ?_,h.lt,h.ne⟩
 ·rcases hC j e with e|e
  ·exact .inl e
  ·omega
 ·cases ha
  exact f2 e):P:=h
theorem zz1j(h:P:=by
 by_cases e:t=k
 ·subst e;simp [Ct,upd_same]
 ·simp [Ct,A0 _ _ e,e]):P:=h
theorem zz1k(h:P:=by
 by_cases e:j=k
 ·subst e;rw [upd_same];omega
 ·rw [A0 _ _ e];exact h.Ev j):P:=h
theorem zz1l(h:P:=by
 subst ha;have ho:Dg ps k 3 (i:Int)=true:=by simp [Dg,EH];omega
 refine ⟨?_,?_,?_,?_⟩
 ·unfold A6;rw [ho];simp [CR,BK]
 ·unfold A5;rw [ho];simp [Gb,BA]
 ·exact zz85
 ·unfold A5;rw [ho];simp [AR]):P:=h
theorem zz1m(h:P:=by
 by_cases e:t=k
 ·subst e;simp [Ct]
 ·simp [Ct,e]):P:=h
theorem zz1n(h:P:=by
 obtain ⟨q',hq,hP,hC⟩:=h.plan;obtain ⟨f1,f2,f3⟩:=h.far hC;have k:Wr (One lb) wr (wr.setCell ⟨lb,i,none⟩ v):=(Wr.refl _ _).setCell _ _ λ_=>rfl;refine ⟨⟨q',hq,hP.wrote k λj hj e=>by cases e;exact f1 hj,hC⟩,h.kp.trans k λj _ e=> .inr (.inl e),A3 h.obj i v,(k.block _ (A2 h.tick) λe=>h.ne.2.2.2.2.2 e.symm).trans h.tick,h.row.wrote k λa ha e=> ?_,h.lt,h.ne⟩;cases ha;exact h.ne.2.2.2.1 e):P:=h
theorem zz1o(h:P:=by
 obtain ⟨_,rfl⟩:=GZ ht;rcases Il hl with rfl|rfl|rfl|rfl
 all_goals
  by_cases e:t=k
  ·subst e;simp [Og,upd_same]
  ·simp [Og,A0 _ _ e,e]):P:=h
theorem zz1p(h:P:=by
 by_cases hm:k∈g.toList++W
 ·rcases List.mem_append.1 hm with hm|hm
  ·simpa using hm
  ·have:=h.EN k hm;omega
 ·have:=h.FB k hk hm;omega):P:=h
theorem zz1q(h:P:=by
 exact .inr ⟨m,m1,m2,p,by rw [e m (by rintro rfl;rw [hr] at m3;cases m3)];exact m3⟩):P:=h
theorem zz1r(h:P:=by
 go_in
 go_wp2_with (first
  |((with_reducible refine (c1 _ rfl _).mono ?_);rintro e w' ⟨rfl,rfl⟩)
  |((with_reducible refine (c2 _).mono ?_);rintro e w' ⟨rfl,rfl⟩))
 go_ret;exact ⟨rfl,ZG.out⟩):P:=h
theorem zz1s(h:P:=by
 unfold A5;rw [ho];simp [AR,Au]):P:=h
theorem zz1t(h:P:=by
 have c1:=h.cell1;have f1:=h.frozen 1;clear h
 go_in
 go_wp2
 go_end0
 exact ⟨rfl,rfl⟩):P:=h
theorem zz1u(h:P:=by
 have ht:(0:Int)<=(k:Int)/\(k:Int)<f.s.n:=by omega
 unfold FL.did;rw [Qj ht,Int.toNat_natCast];refine ⟨λe=> ?_,λe=> ?_,λe=> ?_,λe1 e3 e4=> ?_⟩
 ·rw [Qj e]
  unfold FL.A7 Dd.no
  repeat' split
  all_goals simp
 ·rw [Qq (by omega),Qj e]
  skip
  repeat' split
  all_goals simp
 ·exact zz80
 ·rw [Qq e1,Qq e3,Qq e4]):P:=h
theorem zz1v(h:P:=by
 go_in
 go_wp2;go_ret;exact ⟨C3 hh.out.symm,rfl⟩):P:=h
theorem zz1w(h:P:=by
 cases i with
 |zero=>rfl
 |succ i=>show ps'.ws.getD _ 0=ps.ws.getD _ 0;rw [h];exact AG _ (by omega)):P:=h
theorem zz1x(h:P:=by
 have s1:=k.size;have hF:∀ j,w.heap.size<=j->¬ q.F j:=λj hj e=>by have:=h.lt e;omega
 refine ⟨⟨q,rfl,h.after k2,Came.refl _ _⟩,Wr.refl _ _,?_,?_,hr.after k2,by omega,hF _ (by omega),hb,hF _ (by omega),by omega,by omega,by omega⟩
 ·rw [hlb,<-e1]
  exact blk_alloc_new _ _
 ·rw [VY,hA,blk_alloc_lt _ _ _ (by rw [e1];omega)]
  exact blk_alloc_new _ _):P:=h
theorem zz1y(h:P:=by
 rw [A1 h.did,A1 h.did,A1 h.did,A1 h.did];exact ⟨rfl,rfl,rfl,rfl⟩):P:=h
theorem zz1z(h:P:=by
 rw [A1 h.res,A1 h.res,A1 h.res,A1 h.res];exact ⟨rfl,rfl,rfl,rfl⟩):P:=h
theorem zz20(h:P:=by
 refine bodyPost_ret (v:=Dd.val Dd.no) (results_cell_row rfl _ _ w.heap.size 102 _ (0,0) _ rfl (AO HX.out.res rfl _ _ _ _) underlying102 rfl AB) rfl (HX.out.told HE.out.1 Dd.no)):P:=h
theorem zz21(h:P:=by
 obtain ⟨A,B,h⟩:=h;rcases List.eq_nil_or_concat B with rfl|⟨B',b,rfl⟩
 ·have h:Q++[k]=(A++[i])++[j]:=by simpa using h
  obtain ⟨e1,e2⟩:=List.append_inj' h rfl;exact .inr ⟨⟨A,e1⟩,by simpa using e2.symm⟩
 ·have h:Q++[k]=(A++i::j::B')++[b]:=by simpa using h
  obtain ⟨e1,e2⟩:=List.append_inj' h rfl;exact .inl ⟨A,B',e1⟩):P:=h
theorem zz22(h:P:=by
 unfold A5;rw [ho];simp [AR]):P:=h
theorem zz23(h:P:=by
 have:=h.low;rcases hk with rfl|rfl|hk
 ·omega
 ·omega
 ·have:=hk.1;omega):P:=h
theorem zz24(h:P:=by
 rcases hk with rfl|rfl|hk
 ·exact A2 h.raw.seat.ctx
 ·exact A2 h.raw.tick
 ·exact Nat.lt_of_lt_of_le hk.2 h.top):P:=h
theorem zz25(h:P:=by
 unfold FL.lock SS.lock;split
 ·rename_i he
  unfold BZ at he;split at he
  ·rename_i hc
   split at he
   ·rename_i hs
    have hk:t.toNat<f.s.n:=by omega
    have hn:=h.idle hk hs;exact h.UR _ _ _ (λ_=> .inr rfl) (λ_=>rfl) λe=>absurd (List.mem_append_left W (by rw [e];simp)) hn
   ·omega
  ·omega
 ·exact h):P:=h
theorem zz26(h:P:=by
 go_wp2_with ((with_reducible refine cD.mono ?_);intro e w8 hq;unfold CE at hq;obtain ⟨rfl,ZB,Jr,Ba⟩:=hq;have H8:=Qw (Qz Jr Ba);clear Jr Ba)
 go_roundw
 case rel=>exact ⟨k+1,by omega,by go_num,by rw [HC.out];rfl,ZB,H8.out.1,HQ.out.2.trans (HQ.out.1▸H8.out.2)⟩
 case measure=>simp [intOf];omega):P:=h
theorem zz27(h:P:=by
 go_in
 go_wp2
 go_ret2
 exact ⟨rfl,rfl⟩):P:=h
theorem zz28(h:P:=by
 have ht:(0:Int)<=(k:Int)/\(k:Int)<f.s.n:=by omega
 have e:f.did L k k=f.AX L k k:=by unfold FL.did;rw [Qj ht,Int.toNat_natCast,Qq (by omega),Qj s3]
 have em:f.mid L k k=f.rel L k k:=by unfold FL.mid;rw [Qj ht,Int.toNat_natCast,Qq (by omega),Qj s3]
 refine ⟨e,?_⟩;unfold FL.step;rw [e,em]):P:=h
theorem zz29(h:P:=by
 rcases List.mem_append.1 hm with hm|hm
 ·have:=h.FZ k (by simpa using hm);omega
 ·have:=h.EN k hm;omega):P:=h
theorem zz2a(h:P:=by
 intro m hm p o hr' y r hy;have hr':ro m= .H_ p o:=by rw [<-e m (by rintro rfl;rw [e0] at hr';cases hr')];exact hr'
 have hc:cl m≠cl k:=λq=>Nc m hm q p o hr';rw [e y (λq=>hc (by subst q;exact ((h.wl _ y (by rw [hy];exact List.mem_cons_self)).2).symm))];exact h.rw m hm p o hr' y r hy):P:=h
theorem zz2b(h:P:=by
 refine ⟨rfl,⟨?_,b,Nat.le_trans c hW.size,by rw [Inn.PX];exact ty,by rw [Inn.Fv,SS.PV];exact pr⟩,K4 b.2.2.1 hW⟩;cases x with
 |tk f=>exact Kf.FlRaw.seats a hS (SS.Bu _ _ _) hW
 |cl f=>exact Kc.FlRaw.seats a hS (SS.Bu _ _ _) hW
 |mc f=>exact Km.FlRaw.seats a hS (SS.OH _ _ _ _) hW):P:=h
theorem zz2c(h:P:=by
 unfold A6 CR
 repeat' split
 ·exact h.wf a
 all_goals omega):P:=h
theorem zz2d(h:P:=by
 cases b with
 |same h0 h1 e=>exact e
 |BW hh e=>rw [hh] at hd;simp at hd
 |Bs hh e=>rw [hh] at hd;simp at hd
 |both hh e e'=>rw [hh] at hd;simp at hd):P:=h
theorem zz2e(h:P:=by
 have e1:(lp L.a1).a1=L.a1:=rfl;have e2:(lp L.a1).a2=L.a2:=h.symm;have d:f.did L t u=f.did (lp L.a1) t u:=by
  unfold FL.did FL.A7 FL.CW;rw [e1,e2]
 refine ⟨?_,d⟩;unfold FL.step;rw [d];have m:f.mid L t u=f.mid (lp L.a1) t u:=by
  unfold FL.mid FL.acq FL.rel FL.ask;rw [e1,e2]
 rw [m]):P:=h
theorem zz2f(h:P:=by
 unfold PS.Lg;rw [Qj (show 0<=(k:Int)/\(k:Int)<(E6 f.s.n f.ea).T from ⟨by omega,by show (k:Int)<(f.s.n:Int);omega⟩),Int.toNat_natCast,LZ hk]):P:=h
theorem zz2g(h:P:=by
 go_ret;exact ⟨rfl,HE.out,Wr.refl _ _⟩):P:=h
theorem zz2h(h:P:=by
 have ht:(0:Int)<=(k:Int)/\(k:Int)<f.s.n:=by omega
 have e:f.did L k k=Dd.no:=by unfold FL.did;rw [Qj ht,Int.toNat_natCast,Qq s1,Qq s3,Qq s4]
 have em:f.mid L k k=f:=by unfold FL.mid;rw [Qj ht,Int.toNat_natCast,Qq s1,Qq s3,Qq s4]
 refine ⟨e,?_⟩;unfold FL.step;rw [e,em,Aq]):P:=h
theorem zz2i(h:P:=by
 by_cases qc:c=nd t
 ·subst qc
  rw [upd_same,A0 _ _ (q.resolve_left λf=>f rfl)]
 ·rw [A0 _ _ qc]):P:=h
theorem zz2j(h:P:=by
 go_wp2
 go_round
 case rel=>exact ⟨k+1,by omega,by go_num,hb⟩
 case measure=>simp [intOf];omega):P:=h
theorem zz2k(h:P:=by
 have:=h.fr;intro u hu i' p' h';by_cases q:u=k<;>grind):P:=h
theorem zz2l(h:P:=by
 have ht:(0:Int)<=(k:Int)/\(k:Int)<f.s.n:=by omega
 have e:f.did L k k=f.A7 L k k:=by unfold FL.did;rw [Qj ht,Int.toNat_natCast,Qj s1]
 have em:f.mid L k k=f.acq L k k:=by unfold FL.mid;rw [Qj ht,Int.toNat_natCast,Qj s1]
 refine ⟨e,?_⟩;unfold FL.step;rw [e,em]):P:=h
theorem zz2m(h:P:=by
 rcases h.row.at with h0|⟨b',o',e,hc⟩
 ·omega
 ·cases e
  exact hc j hj):P:=h
theorem zz2n(h:P:=by
 refine ⟨⟨P,F,?_⟩,.same rfl (by decide) (λ_=>rfl),.same rfl rfl (GG (by rw [CN,hr]) hro)⟩;show Cor _ f.cN f.nN _ _ _ (wT (A5 _ _ _ _ _ _)) (wK (A5 _ _ _ _ _ _)) (wX (A5 _ _ _ _ _ _)) _ _ _ _ _;rw [wt,wk,wx];exact F4 c (I4 (CN.trans hr.symm) hro)):P:=h
theorem zz2o(h:P:=by
 rw [hz1] at h;simp only [Int.toNat_natCast] at h;rw [DZ n] at h;exact h):P:=h
theorem zz2p(h:P:=by
 refine ⟨λj hj=>by show wS (A5 _ _ _ _ _ _) j≠2;rw [ws];exact hL.up j hj,λi0 p b w=> ?_,λi w=> ?_,λw=>absurd w (by decide),by decide,by decide⟩
 ·exact zz89
 ·rw [CN] at w;cases w):P:=h
theorem zz2q(h:P:=by
 intro j hj;rw [<-List.append_assoc,List.mem_append,List.mem_singleton] at hj;rcases hj with hj|rfl
 ·exact h.lt j hj
 ·exact hk):P:=h
theorem zz2r(h:P:=by
 go_in
 go_wp2
 go_end0
 exact ⟨rfl,HE.out.1,BH HE.out.2⟩):P:=h
theorem zz2s(h:P:=by
 go_in
 go_wp2;refine bodyPost_ret (v:=Dd.val ⟨ev,false,false,false⟩) (results_cell_row rfl _ _ w.heap.size 102 _ (0,0) _ rfl (AO HE.out.2.res rfl _ _ _ _) underlying102 rfl AB) rfl (HE.out.2.told HE.out.1 ⟨ev,false,false,false⟩)):P:=h
theorem zz2t(h:P:=by
 rw [List.getD_eq_getElem?_getD,List.getElem?_replicate];split<;>rfl):P:=h
theorem zz2u(h:P:=by
 go_in
 go_wp2;refine bodyPost_ret (v:=Dd.val ⟨0,true,false,false⟩) (results_cell_row rfl _ _ w.heap.size 102 _ (0,0) _ rfl (AO HE.out.2.res rfl _ _ _ _) underlying102 rfl AB) rfl (HE.out.2.told HE.out.1 ⟨0,true,false,false⟩)):P:=h
theorem zz2v(h:P:=by
 exact ⟨⟨h1,h.port.wrote hW λb b1 _ e=>by have:=h.far.2.2.2;cases e;omega,h.far,Nat.le_trans h.top hW.size⟩,hW⟩):P:=h
theorem zz2w(h:P:=by
 go_wp2;refine bodyPost_ret (v:=Dd.val ⟨0,d.BW,false,false⟩) (results_cell_row rfl _ _ w.heap.size 102 _ (0,0) _ rfl (AO HT.out.fr.res rfl _ _ _ _) underlying102 rfl AB) rfl (HT.out.fr.told HE.out.1 ⟨0,d.BW,false,false⟩)):P:=h
theorem zz2x(h:P:=by
 go_wp2;refine bodyPost_ret (v:=Dd.val ⟨0,false,d.BW,false⟩) (results_cell_row rfl _ _ w.heap.size 102 _ (0,0) _ rfl (AO HT.out.fr.res rfl _ _ _ _) underlying102 rfl AB) rfl (HT.out.fr.told HE.out.1 ⟨0,false,d.BW,false⟩)):P:=h
theorem zz2y(h:P:=by
 go_wp2;refine bodyPost_ret (v:=Dd.val ⟨4,false,false,false⟩) (results_cell_row rfl _ _ w.heap.size 102 _ (0,0) _ rfl (AO HT.out.res rfl _ _ _ _) underlying102 rfl AB) rfl (HT.out.told HE.out.1 ⟨4,false,false,false⟩)):P:=h
theorem zz2z(h:P:=by
 go_wp2;refine bodyPost_ret (v:=Dd.val ⟨5,false,false,false⟩) (results_cell_row rfl _ _ w.heap.size 102 _ (0,0) _ rfl (AO HT.out.res rfl _ _ _ _) underlying102 rfl AB) rfl (HT.out.told HE.out.1 ⟨5,false,false,false⟩)):P:=h
theorem zz30(h:P:=by
 have h1:=h.lk.far;have h2:=h.lk.port.place.le;have h3:=h.low;have n:∀ b,b<L.q.k3->¬ S b:=λb hb e=>by have:=hS b e;omega
 have ht:=h.lk.top;refine ⟨h.lk.wrote k n,h.low,h.wr.trans k λb hb e=> ?_⟩;exact n b (by omega) e):P:=h
theorem zz31(h:P:=by
 have c:=Mn hR (by rw [<-HL.out];omega);clear hR;go_wp2_with (go_at_call 50;with_reducible refine c.mono ?_;rintro e w3 ⟨rfl,NV⟩)
 go_roundw
 case rel=>exact ⟨k+1,by omega,by go_num,NV⟩
 case measure=>simp [intOf];omega):P:=h
theorem zz32(h:P:=by
 unfold GD;show Fw _ (wS (A5 _ _ _ _ _ _)) _=_;rw [ws]):P:=h
theorem zz33(h:P:=by
 exact ⟨⟨s1,l1.1⟩,⟨s2,l1.2.1⟩,λk hk=>⟨l3 k hk,l1.2.2 k hk⟩,⟨s3,l2.1⟩,⟨s4,l2.2.1⟩,⟨s5,l2.2.2⟩,by simp only;omega,by simp only;omega,by simp only;omega,by simp only;omega,by simp only;omega⟩):P:=h
theorem zz34(h:P:=by
 by_cases e:t=k
 ·subst e;simp [IZ,SS.set,upd_same]
 ·simp [IZ,SS.set,A0 _ _ e,e]):P:=h
theorem zz35(h:P:=by
 refine bodyPost_ret (v:=Dd.val ⟨1,false,false,true⟩) (results_cell_row rfl _ _ w.heap.size 102 _ (0,0) _ rfl (AO HT.out.res rfl _ _ _ _) underlying102 rfl AB) rfl (HT.out.told HE.out.1 ⟨1,false,false,true⟩)):P:=h
theorem zz36(h:P:=by
 rw [CN] at w;cases w):P:=h
theorem zz37(h:P:=by
 subst q;rw [e0] at hr';rcases hr' with q|q<;>cases q):P:=h
theorem zz38(h:P:=by
 go_wp2
 go_ret2
 obtain ⟨f1,f2,f3,f4,f5⟩:=HF.out;unfold GN;exact ⟨b,bw,_,by rw [hb.out];rfl,f1,f2,f3,f4,f5⟩):P:=h
theorem zz39(h:P:=by
 rcases hC j hj with e|e
 ·exact .inl e
 ·exact .inr (by omega)):P:=h
theorem zz3a(h:P:=by
 have hl:=h.lt;have hn:=h.ne;refine ⟨λe=> ?_,λe=> ?_,λe=> ?_⟩
 ·rcases c _ e with e|e
  ·exact hn.1 e
  ·omega
 ·rcases c _ e with e|e
  ·exact hn.2.1 e
  ·omega
 ·rcases c _ e with e|e
  ·exact hn.2.2.1 e
  ·omega):P:=h
theorem zz3b(h:P:=by
 rw [hn];exact (k.block _ (A2 h.tick) (λe=>h.ne.2.2.2.1 e.symm)).trans h.tick):P:=h
theorem zz3c(h:P:=by
 subst e;rw [upd_same];omega):P:=h
theorem zz3d(h:P:=by
 have:c=0\/c=1\/c=2\/c=3\/c=4\/c=5\/c=6\/c=7:=by omega
 rcases this with rfl|rfl|rfl|rfl|rfl|rfl|rfl|rfl<;>rfl):P:=h
theorem zz3e(h:P:=by
 show (f.mid L t u).ps.ws.length=_/\(f.mid L t u).ps.ac.length=_;unfold FL.mid FL.acq FL.rel FL.ask A5
 repeat' split
 all_goals first|exact ⟨rfl,rfl⟩|(dsimp only [AR];exact ⟨L3 _ _ _ _ _,Au _ _ _⟩)):P:=h
theorem zz3f(h:P:=by
 intro j hj;rw [List.mem_append,List.mem_singleton] at hj;rcases hj with hj|rfl
 ·exact h.EN j hj
 ·exact hs):P:=h
theorem zz3g(h:P:=by
 unfold SS.fin Bo Ai;rw [Qj (show 0<=(k:Int)/\(k:Int)<s.n by omega),Int.toNat_natCast];cases AH (s.st k) ev with
 |some y=>rfl
 |none=>
  funext j
  by_cases e:j=k
  ·subst e;rw [upd_same];rfl
  ·rw [A0 _ _ e]):P:=h
theorem zz3h(h:P:=by
 clear h
 go_in
 go_wp2_with (first
  |(go_at_call 133;with_reducible refine c.mono ?_;rintro e w' ⟨rfl,rfl⟩)
  |((with_reducible refine c2.mono ?_);rintro e w' ⟨rfl,hF⟩))
 go_ret;exact ⟨rfl,hF⟩):P:=h
theorem zz3i(h:P:=by
 refine (Ci (h.after k) x 0 (by omega)).mono ?_;intro e w2 hp;unfold C4 at hp;obtain ⟨rfl,q2,D7,Fk,hW,Gj⟩:=hp;exact ⟨rfl,q2,D7,Fk,hW,Gj,(hr.after k).wrote hW λa ha e=>by cases ha;exact hb e⟩):P:=h
theorem zz3j(h:P:=by
 have:=h.df;have:=h.de;intro u v hu hv i' p' h1 h2;by_cases q:v=k<;>grind):P:=h
theorem zz3k(h:P:=by
 simp only [Nat.mul_one,madeCells,Value.cells];apply Array.ext
 ·simp
 ·intro i h1 h2
  simp [Nat.mod_one]):P:=h
theorem zz3l(h:P:=by
 cases h with
 |same h0 h1 h2 e=>exact .same h0 h1 e
 |BW hd j ht e=>obtain rfl:k=j:=by omega
                exact .BW hd e
 |Bs hd j ht e hn=>obtain rfl:k=j:=by omega
                   exact .Bs hd e):P:=h
theorem zz3m(h:P:=by
 refine ⟨e,?_⟩;unfold FL.step;rw [e,em]):P:=h
theorem zz3n(h:P:=by
 refine ⟨?_,b,Nat.le_trans c k.size,d,e⟩;cases x with
 |tk f=>exact Kf.FlRaw.wrote a k h1 h2 h3 h4
 |cl f=>exact Kc.FlRaw.wrote a k h1 h2 h3 h4
 |mc f=>exact Km.FlRaw.wrote a k h1 h2 h3 h4):P:=h
theorem zz3o(h:P:=by
 rw [hn];exact (k.block _ (A2 h.obj) h.ne.1).trans h.obj):P:=h
theorem zz3p(h:P:=by
 by_cases e:j=k
 ·subst e;rw [upd_same] at hs;omega
 ·rw [A0 _ _ e] at hs hp;exact h.out j hj hs hp):P:=h
theorem zz3q(h:P:=by
 subst e;rw [upd_same] at hs;omega):P:=h
theorem zz3r(h:P:=by
 have hn:=N7 (R:=i::r) (λj hj=>h.Ae.waits (j:=j) hj) h.Ae.nodup;rw [Fx (by rw [q3];decide),o1] at hn;show ¬ k∈Fw _ (wS (A5 _ _ _ _ _ _)) r;rw [ws];exact (List.nodup_cons.1 hn).1):P:=h
theorem zz3s(h:P:=by
 refine bodyPost_ret (v:=Dd.val Dd.no) (results_cell_row rfl _ _ w.heap.size 102 _ (0,0) _ rfl (AO HU.out.res rfl _ _ _ _) underlying102 rfl AB) rfl (HU.out.told HE.out.1 Dd.no)):P:=h
theorem zz3t(h:P:=by
 intro m hm p o hr' y r hy;rw [e y (kW _ y (by rw [hy];exact List.mem_cons_self))];exact h.rw m hm p o (by rw [<-e m (by rintro rfl;rw [e0] at hr';cases hr')];exact hr') y r hy):P:=h
theorem zz3u(h:P:=by
 show Cor _ _ _ _ (wT (A5 _ _ _ _ _ _)) (wS (A5 _ _ _ _ _ _)) (wN (A5 _ _ _ _ _ _)) (wO (A5 _ _ _ _ _ _)) (some k) (i::r);rw [wt,ws,wn,wo];exact h.Ae.PO hk hr (FQ hy hi ha) hro):P:=h
theorem zz3v(h:P:=by
 have:=h.FZ k (by simpa using hm);omega):P:=h
theorem zz3w(h:P:=by
 unfold SS.fin Bo;by_cases h:0<=t/\t<s.n
 ·rw [Qj h]
  have:AH (s.st t.toNat) 0=none:=by
   unfold AH
   repeat' split
   all_goals first|rfl|(exfalso;omega)
  rw [this]
 ·rw [Qq h]):P:=h
theorem zz3x(h:P:=by
 by_cases e:j=k
 ·subst e;rw [upd_same]
 ·rw [A0 _ _ e] at h1 h3 ⊢;exact h.Iu j hj h1 h3):P:=h
theorem zz3y(h:P:=by
 intro j hj Jn;rw [<-List.append_assoc,List.mem_append,not_or] at Jn;exact h.FB j hj Jn.1):P:=h
theorem zz3z(h:P:=by
 rw [A0 _ _ λe=>h1 (by rw [e];exact s1)];exact h.Iu j hj h1 h3):P:=h
theorem zz40(h:P:=by
 rw [Qj ht,Int.toNat_natCast,Qj s1,Qq (by omega),Qq (by omega)]):P:=h
theorem zz41(h:P:=by
 have h1:=h.held hj (.inl ej);have h2:=h.held hk (.inl ek);rw [h1] at h2;simpa using h2):P:=h
theorem zz42(h:P:=by
 have lw:=h.raw.low;have g:=h.raw.Lu;have hf:=h.far.1;exact ⟨⟨a,h.port.wrote b (λj b1 _ e=>by unfold One at e;omega),h.far,Nat.le_trans h.top b.size⟩,b⟩):P:=h
theorem zz43(h:P:=by
 obtain rfl:k=j:=Option.some.inj hj;rw [upd_same] at hs;omega):P:=h
theorem zz44(h:P:=by
 rw [List.getD_eq_getElem?_getD,List.getElem?_set,Qq h,<-List.getD_eq_getElem?_getD]):P:=h
theorem zz45(h:P:=by
 refine ⟨rfl,?_⟩;cases W with
 |nil=>simp at hi
 |cons a r=>
  obtain rfl:a=k:=by simpa using hi
  exact ⟨r,rfl,by simpa using (List.nodup_cons.1 hnd).1⟩):P:=h
theorem zz46(h:P:=by
 rcases e with e|e
 ·exact .inl e
 ·refine .inr ⟨λc hc hh=> ?_,?_⟩
  ·have:=h.far.2 c hc hh;unfold Bk at e;omega
  ·have:=h.far.1;unfold Bk at e;omega):P:=h
theorem zz47(h:P:=by
 show upd f.s.st k 0 j=0\/upd f.s.st k 0 j=1;by_cases e:j=k
 ·exact zz7w
 ·rw [A0 _ _ e]
  exact h.FB j hj (by simpa [e] using hn)):P:=h
theorem zz48(h:P:=by
 have hW:Wr (One L.tb) w (w.setCell ⟨L.tb,i,none⟩ v):=(Wr.refl _ w).setCell _ _ λ_=>rfl;rw [A1 ((hW.block _ (A2 h.obj) h.ne.2.1).trans h.obj)];rfl):P:=h
theorem zz49(h:P:=by
 obtain ⟨A,B,rfl⟩:=List.append_of_mem h;rcases List.eq_nil_or_concat A with rfl|⟨A',a,rfl⟩
 ·exact absurd rfl (hh B)
 ·exact ⟨a,A',B,by simp⟩):P:=h
theorem zz4a(h:P:=by
 rw [A0 _ _ λe=>by subst e;omega] at hp;obtain ⟨a,r,q1,q2,q3⟩:=h.Yc j hj hs hp;exact ⟨a,r,q1,q2,by rw [A0 _ _ λe=>by subst e;omega];exact q3⟩):P:=h
theorem zz4b(h:P:=by
 cases hg:g with
 |none=>rfl
 |some t=>
  obtain ⟨_,r',p,e1,e2,_⟩:=h.gs t hg;rw [hh] at e1;obtain ⟨rfl,_⟩:=List.cons.inj e1;rw [hr] at e2;cases e2):P:=h
theorem zz4c(h:P:=by
 exact absurd hE (by decide)):P:=h
theorem zz4d(h:P:=by
 rw [<-List.append_assoc,List.nodup_append];exact ⟨h.nodup,by simp,λa h1 b h2 e=>by rw [List.mem_singleton] at h2;subst e;subst h2;exact hn h1⟩):P:=h
theorem zz4e(h:P:=by
 rw [<-List.append_assoc,List.nodup_append];exact ⟨h.nodup,by simp,λa h1 b h2 q=>by rw [List.mem_singleton] at h2;subst q;subst h2;exact hn h1⟩):P:=h
theorem zz4f(h:P:=by
 show (List.replicate (n+1) (0:Int)).getD _ 0=if (0:Int)=0 then 0 else 1;rw [Qj rfl,List.getD_eq_getElem?_getD,List.getElem?_replicate];split<;>rfl):P:=h
theorem zz4g(h:P:=by
 apply List.ext_getElem?;intro j;rw [List.getElem?_set];by_cases hj:j<N
 ·by_cases e:i=j
  ·subst e;simp [Bp,hj]
  ·simp [Bp,hj,e]
 ·simp [Bp,hj]
  omega):P:=h
theorem zz4h(h:P:=by
 have e:((g.toList++W)++[k]).length=(g.toList++W).length+1:=by rw [List.length_append,List.length_singleton]
 rw [h.Md,<-List.append_assoc,e];omega):P:=h
theorem zz4i(h:P:=by
 unfold Bo AH at e
 repeat' split at e
 all_goals first|(cases e;decide)|cases e):P:=h
theorem zz4j(h:P:=by
 have:=h.Jp;unfold IE at*;grind):P:=h
theorem zz4k(h:P:=by
 rw [e y q] at hr';exact h.ri y hy hr'):P:=h
theorem zz4l(h:P:=by
 have hb:Hid (A8 hs=false):=Qw (JP (k:=k) (by omega) (by rw [<-X1.out.1];unfold FO;simp;omega));go_wp2;go_ret;exact ⟨Bm hb.out.symm,rfl⟩):P:=h
theorem zz4m(h:P:=by
 rw [<-List.append_assoc,List.mem_append,List.mem_singleton];by_cases e:j=k
 ·subst e;rw [upd_same];simp
 ·rw [A0 _ _ e,h.dr j hj];simp [e]):P:=h
theorem zz4n(h:P:=by
 subst hs;exact ⟨h.raw.Ja hS hn hp k,h.port.wrote k (λb b1 _ e=>by have:=h.far.2.2.1;cases e;omega),h.far,Nat.le_trans h.top k.size⟩):P:=h
theorem zz4o(h:P:=by
 rw [AZ f.got k rfl,AZ f.s.st k rfl,AZ (wP f.ps) _ rfl,AZ ((f.Lc (f.nd k)).s.st) _ rfl,AZ (λc=>(f.Lc c).s.st) _ rfl] at this;exact this):P:=h
theorem zz4p(h:P:=by
 rw [A0 _ _ λe=>by subst e;omega];exact h.KG j hj hs):P:=h
theorem zz4q(h:P:=by
 show upd f.s.st k 2 j=1;rw [A0 _ _ (λe=>by subst e;exact (List.nodup_cons.1 h.nodup).1 hj)];exact h.EN j (List.mem_cons_of_mem _ hj)):P:=h
theorem zz4r(h:P:=by
 rw [List.getElem?_append_left hi] at hj;have hm:=List.mem_of_getElem? hj;rw [A0 _ _ (λe=>by subst e;exact hn hm)];exact h.num i j hj):P:=h
theorem zz4s(h:P:=by
 rw [List.getElem?_eq_none (by simp [madeCells];omega),List.getElem?_eq_none (by unfold BS;rw [CF (Ah _),List.length_range];omega)]):P:=h
theorem zz4t(h:P:=by
 by_cases e:j=k
 ·subst e;rw [upd_same];exact ⟨λ_=>List.mem_append_right _ hm,λ_=>by omega⟩
 ·rw [A0 _ _ e];exact h.QT j hj hs):P:=h
theorem zz4u(h:P:=by
 intro c a b hab;rw [e b (λq=> ?_)]
 ·exact h.aw c a b hab
 ·subst q
  obtain rfl:=(h.wl c _ (AU hab).2).2;exact Cm (h.nw _) hab r hw):P:=h
theorem zz4v(h:P:=by
 show upd f.s.st k x j=0\/upd f.s.st k x j=1;by_cases e:j=k
 ·subst e;rw [upd_same];exact h0 hn
 ·rw [A0 _ _ e];exact h.FB j hj hn):P:=h
theorem zz4w(h:P:=by
 have:=h.ob;intro x hx1 hx2;by_cases w:x=i<;>grind):P:=h
theorem zz4x(h:P:=by
 refine ⟨h.1,λj=> ?_⟩;show upd s.st k x j≠4;by_cases e:j=k
 ·subst e;rw [upd_same];exact hx
 ·rw [A0 _ _ e];exact h.2 j):P:=h
theorem zz4y(h:P:=by
 rw [h.Md];simp only [Option.toList_some,Option.toList_none,List.length_append,List.length_singleton,List.length_nil];omega):P:=h
theorem zz4z(h:P:=by
 cases x
 ·rfl
 ·exact congrArg (·+2) h
 ·exact congrArg (2*·+1) h):P:=h
theorem zz50(h:P:=by
 rcases hno with ⟨_,w⟩|⟨j,r',w1,w2,w3|w3⟩
 ·exact absurd w q
 ·exact absurd w3.1 q
 ·exact ⟨j,r',w1,w2,w3.1⟩):P:=h
theorem zz51(h:P:=by
 exact (kX.mono (λ_ _ e=>e.elim):Wr q.F w X).trans hl.kp λj hj e=>by
  rcases e with e|e|e
  ·exact e
  ·omega
  ·omega):P:=h
theorem zz52(h:P:=by
 obtain ⟨A,B,rfl⟩:=h;intro e;have:=(DD hn (A:=A++[i]) (A':=[]) (i:=j) (X:=B) (X':=r) (by simp) e).1;simp at this):P:=h
theorem zz53(h:P:=by
 rcases (h.raw.BP k).1 with hd|hd|hd
 ·exact ED h k hk u hd hD
 ·exact DT h k hk u hd hD
 ·exact EE h k hk u hd hD):P:=h
theorem zz54(h:P:=by
 refine ⟨e,?_⟩;unfold FL.step;rw [e,em,BU (by rw [s1];rfl)]):P:=h
theorem zz55(h:P:=by
 rw [A0 _ _ λe=>by subst e;omega] at hp;exact h.dX j hj hs hp):P:=h
theorem zz56(h:P:=by
 obtain rfl:k=j:=by simpa using hj
 exact .inl (upd_same _ _ _)):P:=h
theorem zz57(h:P:=by
 show upd f.s.st k 2 j=0\/upd f.s.st k 2 j=1;rw [A0 _ _ (λe=>by subst e;exact hn (by simp))];exact h.FB j hj hn):P:=h
theorem zz58(h:P:=by
 exact ⟨rfl,hP.memory hM (Dv _ _ _) GK,Ir hP.place hW GK⟩):P:=h
theorem zz59(h:P:=by
 obtain ⟨g,nx,ow,h⟩:=h;obtain ⟨g',W',nx',WG,a,b,c⟩:=h.step h1 h2 t;exact ⟨W',⟨g',nx',WG,a⟩,b,c⟩):P:=h
theorem zz5a(h:P:=by
 rw [List.take_add_one,List.getElem?_eq_getElem hk,List.getD_eq_getElem?_getD,List.getElem?_eq_getElem hk];rfl):P:=h
theorem zz5b(h:P:=by
 unfold FL.mid
 repeat' split
 ·exact f.F3 L _ u
 all_goals rfl):P:=h
theorem zz5c(h:P:=by
 by_cases e:j=t.toNat
 ·subst e;rw [upd_same];exact .inr (.inl ⟨h0,rfl⟩)
 ·rw [A0 _ _ e];exact .inl rfl):P:=h
theorem zz5d(h:P:=by
 by_cases e:j=t.toNat
 ·subst e;rw [upd_same];exact .inr (.inr ⟨h2,rfl⟩)
 ·rw [A0 _ _ e];exact .inl rfl):P:=h
theorem zz5e(h:P:=by
 split
 ·unfold SS.set;exact A0 _ _ (by simpa using h)
 ·rfl):P:=h
theorem zz5f(h:P:=by
 exact DX (f:=Bl n n) hR (by omega) (h0.trans hW λk hk e=>by have:=hq k e;unfold Nil;omega) hA Ly Gn Ba):P:=h
theorem zz5g(h:P:=by
 have h1:k*f.ea<=64*8:=Nat.mul_le_mul (by omega) Ww.2;omega):P:=h
theorem zz5h(h:P:=by
 have hh:Hid (hasB ws.length a=false):=Qw (En (by omega))
 go_in
 go_wp2;go_ret;exact ⟨Bm hh.out.symm,rfl⟩):P:=h
theorem zz5i(h:P:=by
 rcases hk with rfl|rfl|hk
 ·exact A2 h.raw.seat.ctx
 ·exact h.raw.Z9
 ·exact Nat.lt_of_lt_of_le hk.2 h.top):P:=h
theorem zz5j(h:P:=by
 show upd f.s.st k x j=1;by_cases e:j=k
 ·subst e;rw [upd_same];exact h1 hj
 ·rw [A0 _ _ e];exact h.EN j hj):P:=h
theorem zz5k(h:P:=by
 have H:=Lib.hid (show false=Bj s by unfold Bj;simp;omega)
 go_in
 go_wp2;go_ret;exact ⟨Bm H.out,rfl⟩):P:=h
theorem zz5l(h:P:=by
 by_cases e:j=k
 ·subst e;rw [upd_same]
 ·rw [A0 _ _ e]):P:=h
theorem zz5m(h:P:=by
 obtain rfl:k=n:=by omega
 clear hat hok;go_wp2;go_ret;refine ⟨⟨_,rfl,?_⟩,rfl⟩;rw [hb.out];rfl):P:=h
theorem zz5n(h:P:=by
 rw [st t];by_cases q:t=k
 ·subst q;rw [upd_same];exact k2
 ·rw [A0 _ _ q];exact h.dR t (by omega)):P:=h
theorem zz5o(h:P:=by
 unfold GD;show Fw _ _ (i::r)=k::Fw _ (wS (A5 _ _ _ _ _ _)) r;rw [ws,Fx (by rw [q3];decide),o1]):P:=h
theorem zz5p(h:P:=by
 by_cases e:j=k
 ·subst e;rw [upd_same];exact ⟨hx,(h.BP j).2⟩
 ·rw [A0 _ _ e];exact h.BP j):P:=h
theorem zz5q(h:P:=by
 obtain ⟨A,rfl⟩:=h;obtain ⟨A',h'⟩:=h';have:=congrArg List.getLast? h';simpa using this):P:=h
theorem zz5r(h:P:=by
 rw [h];by_cases e:j=i
 ·subst e;rw [Qj rfl];exact BI v (by omega)
 ·rw [Qq e,AG _ (by omega)]):P:=h
theorem zz5s(h:P:=by
 have:=h.raw.low;have:=h.raw.Lu;have:=h.far.1;have:=h.k0;unfold One at e;unfold LF Bk;omega):P:=h
theorem zz5t(h:P:=by
 funext j
 by_cases e:j=k
 ·subst e;rw [upd_same,upd_same]
 ·rw [A0 _ _ e,A0 _ _ e,A0 _ _ e]):P:=h
theorem zz5u(h:P:=by
 intro t ht;split
 ·exact UB t ht
 ·rfl):P:=h
theorem zz5v(h:P:=by
 obtain ⟨A,B,h⟩:=h;rintro ⟨A',h'⟩;have:=(DD hn h (A':=A') (X':=[]) h').2;cases this):P:=h
theorem zz5w(h:P:=by
 rw [e y (kW _ y (by rw [hy];exact List.mem_cons_self))];exact h.rw m hm p o hr' y r' hy):P:=h
theorem zz5x(h:P:=by
 go_wp2;go_ret;refine ⟨⟨_,rfl,?_⟩,rfl⟩;rw [hb.out];exact decide_eq_true (by omega)):P:=h
theorem zz5y(h:P:=by
 rw [d1,d2];exact ⟨g,W,nx,ow,h,Nat.le_succ _,.same rfl (by decide) (by decide) rfl⟩):P:=h
theorem zz5z(h:P:=by
 rw [Qj ht,Int.toNat_natCast,Qq (by omega),Qj s3]):P:=h
theorem zz60(h:P:=by
 rw [w c q] at hab;have q2:=kW c b (AU hab).2;rw [e b q2,a b q2];exact h.aw c x b hab):P:=h
theorem zz61(h:P:=by
 by_cases e:j=k
 ·subst e;rw [upd_same];simp [LN]
 ·rw [A0 _ _ e,h.dr j hj];simp [e]):P:=h
theorem zz62(h:P:=by
 rw [d1,d2];exact ⟨g,W,e,h,Nat.le_succ _,.same rfl (by decide) (by decide) rfl⟩):P:=h
theorem zz63(h:P:=by
 rw [e] at x;have e':(A.alloc o).heap.size=k:=by simpa using x
 exact .inr (by omega)):P:=h
theorem zz64(h:P:=by
 by_cases e:j=k
 ·subst e;rw [upd_same];exact h2 hj
 ·rw [A0 _ _ e];exact h.FZ j hj):P:=h
theorem zz65(h:P:=by
 rw [w _ (λq3=> ?_)]
 ·exact b
 ·rw [q3,hwr] at b;exact q (List.cons.inj b).1.symm):P:=h
theorem zz66(h:P:=by
 show upd f.s.st k 0 j=1;rw [A0 _ _ (λe=>by subst e;exact LN hj)];exact h.EN j hj):P:=h
theorem zz67(h:P:=by
 by_cases e:j=k
 ·subst e;exact p0
 ·rw [A0 _ _ e] at h1 h3;exact h.Iu j hj h1 h3):P:=h
theorem zz68(h:P:=by
 by_cases q:y=k
 ·subst q;rw [e0];intro q;cases q
 ·rw [e y q];exact a6 z y hz hy):P:=h
theorem zz69(h:P:=by
 have:=h.df;intro u v hu hv x p0 q1 q2;by_cases w:u=k<;>by_cases w2:v=k<;>grind):P:=h
theorem zz6a(h:P:=by
 go_ret;exact HF.out _ _ _ _ HQ.out):P:=h
theorem zz6b(h:P:=by
 have hj:j<n:=hj;rw [hk j hj];omega):P:=h
theorem zz6c(h:P:=by
 have:=h.dd;intro u v hu hv x q1 q2;by_cases w:u=k<;>by_cases w2:v=k<;>grind):P:=h
theorem zz6d(h:P:=by
 subst e;rw [upd_same] at hp;omega):P:=h
theorem zz6e(h:P:=by
 unfold FL.mid
 repeat' split
 ·exact f.F3 L _ u
 ·exact f.JW L _ u
 all_goals rfl):P:=h
theorem zz6f(h:P:=by
 have:=hf.2 c hc hh;exact (hr.loc c hc hh).wrote k λb b1 b2=>n b (by omega)):P:=h
theorem zz6g(h:P:=by
 by_cases e:j=k
 ·subst e;omega
 ·rw [A0 _ _ e] at hs;exact h.out j hj hs hp):P:=h
theorem zz6h(h:P:=by
 go_wp2;go_ret;obtain ⟨q',hp,hP,hW,hC⟩:=hR;exact ⟨rfl,q',hp,hP,hW,hC⟩):P:=h
theorem zz6i(h:P:=by
 unfold FL.did FL.A7;rw [Qj ht,Int.toNat_natCast,Qj s1,Qq (by omega),Qj hd]):P:=h
theorem zz6j(h:P:=by
 rw [A0 _ _ e] at hs ⊢;exact h.KG j hj hs):P:=h
theorem zz6k(h:P:=by
 exact (CA (x:=2) (p:=0) (upd_same _ _ _) (upd_same _ _ _) rfl rfl).symm):P:=h
theorem zz6l(h:P:=by
 clear h
 go_in
 go_wp2;go_big_quiet (fail)
 go_wp2;go_ret;exact ⟨rfl,_,rfl⟩):P:=h
theorem zz6m(h:P:=by
 rw [CN] at w;obtain rfl:i=i0:=by simpa using w
 exact hL.ho k hk _ _ _ hr):P:=h
theorem zz6n(h:P:=by
 unfold upd;split
 ·rename_i e;rw [e]
 ·rfl):P:=h
theorem zz6o(h:P:=by
 by_cases e:j=k
 ·subst e;omega
 ·rw [A0 _ _ e] at hs;exact h.KG j hj hs):P:=h
theorem zz6p(h:P:=by
 rw [A1 g1,List.getElem?_toArray];exact BB s.n G hk (j:=2) (by decide)):P:=h
theorem zz6q(h:P:=by
 rw [hn];exact (k.block _ (A2 g1) (λe=>h.ne.2.2.2.1 e.symm)).trans g1):P:=h
theorem zz6r(h:P:=by
 exact (CA (x:=3) (p:=5) (by exact s3) (upd_same _ _ _) rfl rfl).symm):P:=h
theorem zz6s(h:P:=by
 intro u hu x p0 q;by_cases w:u=k<;>grind):P:=h
theorem zz6t(h:P:=by
 go_ret;exact ⟨rfl,HE.out.1,HE.out.2⟩):P:=h
theorem zz6u(h:P:=by
 rcases ht2 with e|e
 ·exact hF2 _ e (hF _ (by omega))
 ·exact Em _ e):P:=h
theorem zz6v(h:P:=by
 rcases hs with ⟨e,e'⟩|e
 ·rw [e,e'];exact BV _ _ j
 ·rw [e];rfl):P:=h
theorem zz6w(h:P:=by
 rintro ⟨A,B,h⟩;cases A with
 |nil=>simp at h
 |cons a r=>simp at h):P:=h
theorem zz6x(h:P:=by
 rw [VP] at h;simp only [Int.toNat_natCast] at h;rw [JL] at h;exact h):P:=h
theorem zz6y(h:P:=by
 rw [e] at x;have e':(A.alloc o).heap.size=p:=by simpa using x
 omega):P:=h
theorem zz6z(h:P:=by
 rw [hsp,Go.Addr.add_lit] at Wv;exact Wv):P:=h
theorem zz70(h:P:=by
 by_cases h:j<k
 ·rw [Qj h,Qj (by omega)]
 ·rw [Qq h,Qq (by omega)]):P:=h
theorem zz71(h:P:=by
 induction Q generalizing e with
 |nil=>rfl
 |cons a r ih=>exact ih _):P:=h
theorem zz72(h:P:=by
 rcases e with e|e|e
 ·have:=h.lt e;omega
 ·exact hk2 e
 ·exact Gn e):P:=h
theorem zz73(h:P:=by
 cases g with
 |none=>exact h
 |some t=>exact List.mem_of_mem_tail h):P:=h
end Go.Proofs.YtmnephejhkfchaaGreat

import Derived.Test.YtmnephejhkfchaaGreatRow8
namespace Go.Proofs.YtmnephejhkfchaaGreat
set_option maxHeartbeats 8000000
open _root_.Go.Proofs.Tryz
open Go.RowKit Go.BigFrame
set_option linter.unusedVariables false
set_option maxRecDepth 100000
structure Fd (w:World) (B:Nat) (X:World) (L:Lp) (f:FL) (nx:Nat->Value) (C:Nat) (d:Dd):Prop where
 fr:Fr w B X L f nx
 did:X.heap[C]? =some (.cells (Eh d) 102 (0,0))
 far:w.heap.size<=C
 ne:C≠B
section
variable {w X Y:World} {B C:Nat} {L:Lp} {f g f0:FL} {nx nx' W7:Nat->Value} {d:Dd}
theorem Fd.cell (h:Fd w B X L f nx C d):X.cell? ⟨C,0,none⟩=some (.int .i64 d.ev)/\X.cell? ⟨C,1,none⟩=some (.bool d.BW)/\X.cell? ⟨C,2,none⟩=some (.bool d.arr)/\X.cell? ⟨C,3,none⟩=some (.bool d.lead):=zz1y
theorem Fd.Am (h:Fd w B X L f nx C d):X.frozen? ⟨C,0,none⟩=false/\X.frozen? ⟨C,1,none⟩=false/\X.frozen? ⟨C,2,none⟩=false/\X.frozen? ⟨C,3,none⟩=false:=
 ⟨A4 h.did 0,A4 h.did 1,A4 h.did 2,A4 h.did 3⟩
theorem Fd.call (h0:LkM w L f0 W7) (h:Fd w B X L f nx C d) (hl:LkM Y L g nx') (k:Wr (LF L) X Y):Fd w B Y L g nx' C d:=
 ⟨Fr.call h0 h.fr hl k,(k.block C (A2 h.did) (λe=>by have:=h0.Cz e;have:=h.far;omega)).trans h.did,h.far,h.ne⟩
theorem Fd.keep (h0:LkM w L f0 W7) (h:Fd w B X L f nx C d) (d':Dd):
  Fd w B ((((X.setCell ⟨C,0,none⟩ (.int .i64 d'.ev)).setCell ⟨C,1,none⟩ (.bool d'.BW)).setCell ⟨C,2,none⟩ (.bool d'.arr)).setCell ⟨C,3,none⟩ (.bool d'.lead)) L f nx C d':=zzs
theorem Fr.did {C:Nat} (h:Fr w B X L f nx) (hC:X.heap.size=C):Fd w B (X.alloc (.cells #[.int .i64 0,.bool false,.bool false,.bool false] 102)) L f nx C Dd.no:=by
 subst hC;exact ⟨h.after ((Wr.refl _ X).alloc _),Go.Deep.blk_alloc_new X _,h.wr.size,λe=>by have:=A2 h.res;omega⟩
theorem Fr.laid (h:Fr w B X L f nx) (d:Dd):Fd w B (X.alloc (.cells #[.int .i64 d.ev,.bool d.BW,.bool d.arr,.bool d.lead] 102)) L f nx X.heap.size d:=
 ⟨h.after ((Wr.refl _ X).alloc _),Go.Deep.blk_alloc_new X _,h.wr.size,λe=>by have:=A2 h.res;omega⟩
theorem Fd.after (h:Fd w B X L f nx C d) (k:Wr Nil X Y):Fd w B Y L f nx C d:=⟨h.fr.after k,(k.block C (A2 h.did) id).trans h.did,h.far,h.ne⟩
end
theorem JF {w X:World} {L:Lp} {f:FL} {nx:Nat->Value} (h:LkM w L f nx) {k:Nat} (hk:k<f.s.n) (u y:Int) (hD:f.ps.D.length<4611686018427387904):
  Calls prog (f.Lc (f.nd k)).DK #[.pointer (some ⟨(L.li (f.nd k)).lb,0,none⟩),.int .i64 (f.own k:Nat),.int .i64 u,.int .i64 y] w
   (A_ w L {f with Lc:=upd f.Lc (f.nd k) ((f.lk (f.nd k)).step (f.la (f.nd k):Nat) (f.own k:Nat) u),ps:=((f.lk (f.nd k)).step (f.la (f.nd k):Nat) (f.own k:Nat) u).ps} nx ((f.lk (f.nd k)).did (f.la (f.nd k):Nat) (f.own k:Nat) u).val):=by
 obtain ⟨n1,n2⟩:=h.raw.GL k hk;have ha:=h.raw.CM.2.2 _ n1 n2;refine (P4 (h.raw.loc _ n1 n2) h.port (h.far.2 _ n1 n2) h.top (f.own k:Nat) u y hD).mono ?_;rintro e w' ⟨rfl,h1,h2,h3⟩;rw [ha] at h1 h2 ⊢;exact ⟨rfl,h.ag n1 n2 h1 h2 h3,aZ h n1 n2 h3⟩
theorem Jy {w:World} {L:Lp} {f:FL} {nx:Nat->Value} (h:LkM w L f nx) {k:Nat} (hk:k<f.s.n) (u:Int) (hD:f.ps.D.length<4611686018427387904):
  Calls prog 83 #[.pointer (some ⟨L.lb,0,none⟩),.pointer (some ⟨L.tb,k*4,none⟩),.int .i64 u] w
   (A_ w L {f with Lc:=upd f.Lc (f.nd k) ((f.lk (f.nd k)).step (f.la (f.nd k):Nat) (f.own k:Nat) u),ps:=((f.lk (f.nd k)).step (f.la (f.nd k):Nat) (f.own k:Nat) u).ps}
     (if ((f.lk (f.nd k)).did (f.la (f.nd k):Nat) (f.own k:Nat) u).ev=1 then upd nx k (.func (.func 84) #[] #[]) else nx)
     (Dd.val ⟨0,((f.lk (f.nd k)).did (f.la (f.nd k):Nat) (f.own k:Nat) u).BW,false,false⟩)):=by
 have hF:=Fr.start h;obtain ⟨n1,n2⟩:=h.raw.GL k hk;obtain ⟨Z,hZ⟩:∃ Z,Z=w.alloc (.cells #[.int .i64 0,.bool false,.bool false,.bool false] 102):=⟨_,rfl⟩
 rw [<-hZ] at hF;have r1:=hF.lk.raw.RQ hk;have XA:¬ Z.heap.size=L.tb:=by have:=A2 hF.lk.raw.tick;omega
 have XB:¬ L.tb=Z.heap.size:=by have:=A2 hF.lk.raw.tick;omega
 have cL:=λW (q:Wr Nil Z W)=>DU (hF.lk.after q) hk;have vS:=(hF.lk.raw.loc _ n1 n2).BG;have nS:=(hF.lk.raw.loc _ n1 n2).Ce;have cI:=λW (q:Wr Nil Z W)=>JF (X:=w) (hF.lk.after q) hk u 0 hD;generalize ((f.lk (f.nd k)).step (f.la (f.nd k):Nat) (f.own k:Nat) u)=x' at*;generalize ((f.lk (f.nd k)).did (f.la (f.nd k):Nat) (f.own k:Nat) u)=d at*;have Em:=(f.Lc (f.nd k)).Ee;generalize (f.Lc (f.nd k)).DK=F at*;unfold Ip.val at cL;have HE:=Qw (Qz h (Qz hk hF));have HZ:=Qw hZ;clear h hF hZ n1 n2;obtain ⟨f',hf'⟩:∃ f',f'=({f with Lc:=upd f.Lc (f.nd k) x',ps:=x'.ps}:FL):=⟨_,rfl⟩
 rw [<-hf'] at cI;rw [<-hf'];have hk':k<f'.s.n:=by rw [hf'];exact hk
 have how:f'.own=f.own:=by rw [hf']
 clear hf';obtain ⟨nx',hnx⟩:∃ nx',nx'=(if d.ev=1 then upd nx k (.func (.func 84) #[] #[]) else nx):=⟨_,rfl⟩
 rw [<-hnx];have HH:=Qw (Qz hk' (Qz how hnx));clear hk' how hnx
 go_in
 go_wp2;rw [<-HZ.out]
 go_cut [7] from 8 to 19 (λv7 wx=>∃ C,v7= .pointer (some ⟨C,0,none⟩)/\Fd w w.heap.size wx L f' nx C d)
 case first=>
  go_region_held3 (λw'=>w'.cell? ⟨L.tb,k*4+1,none⟩=some (.int .i64 (f.own k:Nat))) (first|exact r1|go_keep) (first
   |(go_at_call 82;(first|(with_reducible refine (cL _ ((Wr.refl _ _).drew)).mono ?_)|(with_reducible refine (cL _ (((Wr.refl _ _).alloc _).drew)).mono ?_));rintro e w1 ⟨rfl,n,rfl⟩)
   |((first|(with_reducible refine (cI _ ((Wr.refl _ _).drewN _)).mono ?_)|(with_reducible refine (cI _ (((Wr.refl _ _).drewN _).alloc _)).mono ?_)|(with_reducible refine (cI _ (((Wr.refl _ _).alloc _).drewN _)).mono ?_));intro e w2 hq;unfold A_ at hq;obtain ⟨rfl,hA,hW⟩:=hq;dsimp only [Dd.val];have r1:=hA.raw.RQ HH.out.1;rw [HH.out.2.1] at r1;first
    |(have hT:=Fd.call (C:=Z.heap.size) HE.out.1 (Fd.after (Fr.did HE.out.2.2 rfl) ((Wr.refl _ _).drewN _)) hA hW;obtain ⟨p0,p1,p2,p3⟩:=hT.cell;obtain ⟨y0,y1,y2,y3⟩:=hT.Am;have HT:=Qw hT;clear hT)
    |(have hT:=Fd.call (C:=Z.heap.size) HE.out.1 (Fr.did (HE.out.2.2.after ((Wr.refl _ _).drewN _)) rfl) hA hW;obtain ⟨p0,p1,p2,p3⟩:=hT.cell;obtain ⟨y0,y1,y2,y3⟩:=hT.Am;have HT:=Qw hT;clear hT)
    |have HT:=Qw (Fr.call HE.out.1 (HE.out.2.2.after ((Wr.refl _ _).drewN _)) hA hW)))
  all_goals
   go_wp2
   go_meet
   first
    |exact ⟨_,rfl,HT.out.keep HE.out.1 d⟩
    |exact ⟨_,rfl,HT.out.laid d⟩
 case rest=>
  obtain ⟨C,rfl,hK⟩:=hcut;obtain ⟨p0,p1,p2,p3⟩:=hK.cell;obtain ⟨v0,v1,v2,v3⟩:=hK.fr.cell;obtain ⟨x0,x1,x2,x3⟩:=hK.fr.Am;by_cases e1:d.ev=1
  ·have e2:=HH.out.2.2
   rw [Qj e1] at e2;rw [e1] at p0;have cN:=hK.fr.lk.raw.Oe HH.out.1;have zN:=hK.fr.lk.raw.Oh (k*4+2);obtain ⟨hN,hW⟩:=hK.fr.lk.FR k (.func (.func 84) #[] #[]);have Oq:=hK.call HE.out.1 hN (BH hK.fr.lk hW);rw [<-e2] at Oq;clear e2;obtain ⟨P0,P1,P2,P3⟩:=Oq.cell;obtain ⟨V0,V1,V2,V3⟩:=Oq.fr.cell;obtain ⟨X0,X1,X2,X3⟩:=Oq.fr.Am;have HT:=Qw Oq;clear hK Oq hN hW;exact zz2w
  ·have e2:=HH.out.2.2
   rw [Qq e1] at e2;rw [<-e2] at hK;clear e2;have b1:(d.ev==1)=false:=by rw [<-Bool.not_eq_true];exact λq=>e1 (by simpa using q)
   have HT:=Qw hK;clear hK;exact zz2w
end Go.Proofs.YtmnephejhkfchaaGreat

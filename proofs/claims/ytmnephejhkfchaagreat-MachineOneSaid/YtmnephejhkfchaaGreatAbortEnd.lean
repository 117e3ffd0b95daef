
import Derived.Test.YtmnephejhkfchaaGreatAbortPick
import Derived.Test.YtmnephejhkfchaaGreatAbortRel
namespace Go.Proofs.YtmnephejhkfchaaGreat.Ka
set_option maxHeartbeats 8000000
open _root_.Go.Proofs.Tryz Go.Deep
open Go.RowKit Go.BigFrame
set_option linter.unusedVariables false
set_option maxRecDepth 100000
structure Fd (w:World) (B:Nat) (X:World) (L:Lp) (f:FL) (σ:Nat->Int) (C:Nat) (d:Dd):Prop where
 fr:Fr w B X L f σ
 did:X.heap[C]? =some (.cells (Eh d) 102 (0,0))
 far:w.heap.size<=C
 ne:C≠B
section
variable {w X Y:World} {B C:Nat} {L:Lp} {f g f0:FL} {σ σ' σ0:Nat->Int} {d:Dd}
theorem Fd.cell (h:Fd w B X L f σ C d):X.cell? ⟨C,0,none⟩=some (.int .i64 d.ev)/\X.cell? ⟨C,1,none⟩=some (.bool d.BW)/\X.cell? ⟨C,2,none⟩=some (.bool d.arr)/\X.cell? ⟨C,3,none⟩=some (.bool d.lead):=zz1y
theorem Fd.Am (h:Fd w B X L f σ C d):X.frozen? ⟨C,0,none⟩=false/\X.frozen? ⟨C,1,none⟩=false/\X.frozen? ⟨C,2,none⟩=false/\X.frozen? ⟨C,3,none⟩=false:=
 ⟨A4 h.did 0,A4 h.did 1,A4 h.did 2,A4 h.did 3⟩
theorem Fd.call (h0:LkM w L f0 σ0) (h:Fd w B X L f σ C d) (hl:LkM Y L g σ') (k:Wr (LF L) X Y):Fd w B Y L g σ' C d:=
 ⟨Fr.call h0 h.fr hl k,(k.block C (A2 h.did) (λe=>by have:=h0.Cz e;have:=h.far;omega)).trans h.did,h.far,h.ne⟩
theorem Fd.keep (h0:LkM w L f0 σ0) (h:Fd w B X L f σ C d) (d':Dd):
  Fd w B ((((X.setCell ⟨C,0,none⟩ (.int .i64 d'.ev)).setCell ⟨C,1,none⟩ (.bool d'.BW)).setCell ⟨C,2,none⟩ (.bool d'.arr)).setCell ⟨C,3,none⟩ (.bool d'.lead)) L f σ C d':=zzs
theorem Fd.ends {s':SS} (h0:LkM w L f0 σ0) (h:Fd w B X L g σ C d) (hS:SeatAt Y L.p L.b s') (hn:s'.n=g.s.n) (hp:s'.UK) (hs:σ=s'.st) (k:Wr (One L.b) X Y):Fd w B Y L {g with s:=s'} s'.st C d:=
 h.call h0 (h.fr.lk.ends hS hn hp hs k) (CH k)
end
theorem C5 {w:World} {L:Lp} {f:FL} (h:LkAt w L f) (cs:Array Value):
  Fd w (w.heap.size+1) (((w.alloc (.cells cs 229)).alloc (.cells #[.int .i64 0,.bool false,.bool false,.bool false] 102)).alloc (.cells #[.int .i64 0,.bool false,.bool false,.bool false] 102)) L f f.s.st (w.heap.size+1+1) Dd.no/\
  (((w.alloc (.cells cs 229)).alloc (.cells #[.int .i64 0,.bool false,.bool false,.bool false] 102)).alloc (.cells #[.int .i64 0,.bool false,.bool false,.bool false] 102)).heap[w.heap.size]? =some (.cells cs 229 (0,0))/\
  Wr Nil w (((w.alloc (.cells cs 229)).alloc (.cells #[.int .i64 0,.bool false,.bool false,.bool false] 102)).alloc (.cells #[.int .i64 0,.bool false,.bool false,.bool false] 102)):=zzt
theorem Sh {w:World} {L:Lp} {f:FL} (h:LkAt w L f) (k:Nat) (hk:k<f.s.n) (u x:Int) (hs:f.s.st k=1) (hD:f.ps.D.length<4611686018427387904) {P N:Nat} (hP:w.cell? ⟨P,0,none⟩=some (.pointer (some ⟨L.lb,0,none⟩))) (hN:w.cell? ⟨N,0,none⟩=some (.int .i64 x)):
  Calls prog 177 #[.int .i64 (k:Int),.int .i64 u,.pointer (some ⟨P,0,none⟩),.pointer (some ⟨N,0,none⟩)] w (A_ w L (f.acq L k u x) (upd f.s.st k (Ai (f.s.st k) (f.A7 L k u x).ev)) (f.A7 L k u x).val):=by
 have hF:=Fr.start h;obtain ⟨Z,hZ⟩:∃ Z,Z=w.alloc (.cells #[.int .i64 0,.bool false,.bool false,.bool false] 102):=⟨_,rfl⟩
 rw [<-hZ] at hF;have cL:=ET hF.lk k hk u x hs hD;have Sp:Wr Nil w Z:=by rw [hZ];exact (Wr.refl _ w).alloc _
 have q0:=Sp.cell hP id;have q1:=Sp.cell hN id;rw [hZ] at q0 q1;generalize (upd f.s.st k (Ai (f.s.st k) (f.A7 L k u x).ev))=σ' at*;generalize f.acq L k u x=g at*;generalize f.A7 L k u x=d at*;have HE:=Qw (Qz h hF);clear h hF hs Sp hP hN
 go_in
 go_wp2_with (first
  |(go_at_call 178;rw [<-hZ];(with_reducible refine cL.mono ?_);intro e w2 hq;unfold A_ at hq;obtain ⟨rfl,hB,hW⟩:=hq;dsimp only [Dd.val];have BX:=Fr.call HE.out.1 HE.out.2 hB hW;obtain ⟨v0,v1,v2,v3⟩:=BX.cell;obtain ⟨x0,x1,x2,x3⟩:=BX.Am;have HT:=Qw BX;clear hB BX hW))
 exact zzb
theorem Cq {w:World} {L:Lp} {f:FL} (h:LkAt w L f) (t u x:Int) (hD:f.ps.D.length<4611686018427387904) {P N:Nat} (hP:w.cell? ⟨P,0,none⟩=some (.pointer (some ⟨L.lb,0,none⟩))) (hN:w.cell? ⟨N,0,none⟩=some (.int .i64 x)):
  Calls prog 136 #[.pointer (some ⟨L.p,0,none⟩),.int .i64 t,.int .i64 u,.agg #[Value.func (.func 177) #[] #[.pointer (some ⟨P,0,none⟩),.pointer (some ⟨N,0,none⟩)],Value.func (.func 179) #[.pointer (some ⟨L.lb,0,none⟩)] #[],Value.nilFunc]] w (AP w L (f.step L t u x) (f.did L t u x).val):=by
 obtain ⟨hF,hB,Sp⟩:=C5 h #[Value.func (.func 177) #[] #[.pointer (some ⟨P,0,none⟩),.pointer (some ⟨N,0,none⟩)],Value.func (.func 179) #[.pointer (some ⟨L.lb,0,none⟩)] #[],Value.nilFunc];obtain ⟨Z,hZ⟩:∃ Z,Z=((w.alloc (.cells #[Value.func (.func 177) #[] #[.pointer (some ⟨P,0,none⟩),.pointer (some ⟨N,0,none⟩)],Value.func (.func 179) #[.pointer (some ⟨L.lb,0,none⟩)] #[],Value.nilFunc] 229)).alloc (.cells #[.int .i64 0,.bool false,.bool false,.bool false] 102)).alloc (.cells #[.int .i64 0,.bool false,.bool false,.bool false] 102):=⟨_,rfl⟩
 rw [<-hZ] at hF hB Sp;have q0:=Sp.cell hP id;have q1:=Sp.cell hN id;have b0:Z.cell? ⟨w.heap.size,0,none⟩=some (Value.func (.func 177) #[] #[.pointer (some ⟨P,0,none⟩),.pointer (some ⟨N,0,none⟩)]):=(A1 hB 0).trans rfl;have b1:Z.cell? ⟨w.heap.size,1,none⟩=some (Value.func (.func 179) #[.pointer (some ⟨L.lb,0,none⟩)] #[]):=(A1 hB 1).trans rfl;have cS:=De hF.fr.lk.raw.seat t;obtain ⟨v0,v1,v2,v3⟩:=hF.fr.cell;obtain ⟨x0,x1,x2,x3⟩:=hF.fr.Am;obtain ⟨p0,p1,p2,p3⟩:=hF.cell;have hn:=h.raw.seat.n2;have Io:=h.raw.np;clear hP hN Sp;by_cases ht:0<=t/\t<f.s.n
 ·obtain ⟨k,rfl⟩:=Qx ht.1
  have hk:k<f.s.n:=by omega
  have eS:f.s.FD (k:Int)=f.s.st k:=by unfold SS.FD;rw [Qj ht,Int.toNat_natCast]
  rw [eS] at cS;by_cases h1:f.s.st k=1
  ·have e1:f.mid L k u x=f.acq L k u x:=by unfold FL.mid;rw [Qj ht,Int.toNat_natCast,Qj h1]
   have e2:f.did L k u x=f.A7 L k u x:=by unfold FL.did;rw [Qj ht,Int.toNat_natCast,Qj h1]
   have es:=f.CO L k u x;have cA:=Sh hF.fr.lk k hk u x h1 hD q0 q1;unfold FL.step;rw [e1] at es;rw [e1,e2];have ef:=SS.Oj f.s k hk (f.A7 L k u x).ev;have en:(f.s.fin k (f.A7 L k u x).ev).n=(f.acq L k u x).s.n:=by rw [es];exact f.s.Bv _ _
   have ep:=SS.Ij Io (k:Int) (f.A7 L k u x).ev;rw [<-ef] at cA;rw [h1] at cS;generalize f.acq L k u x=g at*;generalize f.A7 L k u x=d at*;have HE:=Qw (Qz h (Qz hF (Qz es (Qz en ep))));have HZ:=Qw hZ;clear h hF eS e1 e2 hB es hZ h1 ef en ep Io q0 q1;exact zz4
  by_cases h3:f.s.st k=3
  ·have e1:f.mid L k u x=f.rel L k u:=by unfold FL.mid;rw [Qj ht,Int.toNat_natCast,Qq h1,Qj h3]
   have e2:f.did L k u x=f.AX k:=by unfold FL.did;rw [Qj ht,Int.toNat_natCast,Qq h1,Qj h3]
   have es:=f.CO L k u x;have cA:=EU hF.fr.lk k hk u h3 hD;unfold FL.step;rw [e1] at es;rw [e1,e2];have ef:=SS.Oj f.s k hk (f.AX k).ev;have en:(f.s.fin k (f.AX k).ev).n=(f.rel L k u).s.n:=by rw [es];exact f.s.Bv _ _
   have ep:=SS.Ij Io (k:Int) (f.AX k).ev;rw [<-ef] at cA;rw [h3] at cS;generalize f.rel L k u=g at*;generalize f.AX k=d at*;have HE:=Qw (Qz h (Qz hF (Qz es (Qz en ep))));have HZ:=Qw hZ;clear h hF eS e1 e2 hB es hZ h1 h3 ef en ep Io q0 q1;exact zz4
  have h4:¬ f.s.st k=4:=Io.2.1 k;have e1:f.mid L k u x=f:=by unfold FL.mid;rw [Qj ht,Int.toNat_natCast,Qq h1,Qq h3]
  have e2:f.did L k u x=Dd.no:=by unfold FL.did;rw [Qj ht,Int.toNat_natCast,Qq h1,Qq h3]
  have cE:=Bb hF.fr.lk.raw.seat (k:Int) Dd.no.ev;have ef:f.s.st=(f.s.fin k Dd.no.ev).st:=(SS.MH f.s k).symm;have en:(f.s.fin k Dd.no.ev).n=f.s.n:=f.s.Bv _ _;have ep:=SS.Ij Io (k:Int) Dd.no.ev;have HE:=Qw (Qz h (Qz hF (Qz ef (Qz en ep))));have HZ:=Qw hZ;unfold FL.step;rw [e1,e2];clear h hF e1 e2 hB hZ b0 b1 ef en ep q0 q1 eS Io;generalize f.s.st k=y at*;generalize f.s.n=n at*;exact zz77
 ·have eS:f.s.FD t=0:=Qq ht
  rw [eS] at cS;have e1:f.mid L t u x=f:=by unfold FL.mid;rw [Qq ht]
  have e2:f.did L t u x=Dd.no:=by unfold FL.did;rw [Qq ht]
  have cE:=Bb hF.fr.lk.raw.seat t Dd.no.ev;have ef:f.s.st=(f.s.fin t Dd.no.ev).st:=(SS.MH f.s t).symm;have en:(f.s.fin t Dd.no.ev).n=f.s.n:=f.s.Bv _ _;have ep:=SS.Ij Io t Dd.no.ev;have HE:=Qw (Qz h (Qz hF (Qz ef (Qz en ep))));have HZ:=Qw hZ;unfold FL.step;rw [e1,e2];clear h hF e1 e2 hB hZ b0 b1 ef en ep q0 q1 Io ht;exact zz77
theorem CB {w:World} {L:Lp} {f:FL} (h:LkAt w L f) (t u x:Int) (hD:f.ps.D.length<4611686018427387904):
  Calls prog 175 #[.pointer (some ⟨L.lb,0,none⟩),.int .i64 t,.int .i64 u,.int .i64 x] w (AP w L (f.step L t u x) (f.did L t u x).val):=by
 obtain ⟨V,hV⟩:∃ V,V=(w.alloc (.cells #[.pointer (some ⟨L.lb,0,none⟩)] 90)).alloc (.cells #[.int .i64 x] 3):=⟨_,rfl⟩
 have fe:Wr Nil w V:=by rw [hV];exact ((Wr.refl _ w).alloc _).alloc _
 have sV:V.heap.size=w.heap.size+1+1:=by rw [hV,nblk_alloc,nblk_alloc]
 have hF:=Fr.start (h.after fe);obtain ⟨Z,hZ⟩:∃ Z,Z=V.alloc (.cells #[.int .i64 0,.bool false,.bool false,.bool false] 102):=⟨_,rfl⟩
 rw [<-hZ] at hF;have VT:Wr Nil V Z:=by rw [hZ];exact (Wr.refl _ _).alloc _
 have e1:(w.alloc (.cells #[.pointer (some ⟨L.lb,0,none⟩)] 90)).heap.size=w.heap.size+1:=nblk_alloc _ _;have bP:V.heap[w.heap.size]? =some (.cells #[.pointer (some ⟨L.lb,0,none⟩)] 90 (0,0)):=by rw [hV,blk_alloc_lt _ _ _ (by rw [e1];omega),blk_alloc_new]
 have bN:V.heap[w.heap.size+1]? =some (.cells #[.int .i64 x] 3 (0,0)):=by rw [hV,<-e1,blk_alloc_new]
 have q0:Z.cell? ⟨w.heap.size,0,none⟩=some (.pointer (some ⟨L.lb,0,none⟩)):=VT.cell ((A1 bP 0).trans rfl) id;have q1:Z.cell? ⟨w.heap.size+1,0,none⟩=some (.int .i64 x):=VT.cell ((A1 bN 0).trans rfl) id;have cM:=Cq hF.drew.lk t u x hD (P:=w.heap.size) (N:=w.heap.size+1) q0 q1;have c0:Z.drew.cell? ⟨L.lb,0,none⟩=some (.pointer (some ⟨L.p,0,none⟩)):=hF.lk.raw.cell0;have Q0:Z.drew.cell? ⟨w.heap.size,0,none⟩=some (.pointer (some ⟨L.lb,0,none⟩)):=q0;have QP:RowKit.Hid (∀ (X Y:World),Wr (LF L) V Y->Y.cell? ⟨w.heap.size,0,none⟩=some (.pointer (some ⟨L.lb,0,none⟩))):=Qw (λ_ Y k=>k.cell ((A1 bP 0).trans rfl) λe=>absurd (h.Cz e) (Nat.lt_irrefl _));rw [sV] at hF;generalize f.step L t u x=g at*;generalize f.did L t u x=d at*;have HE:=Qw (Qz h (Qz hF (Qz fe (Qz bP (Qz sV VT)))));clear h hF e1 bP bN fe q0 q1 sV VT
 go_in
 go_wp2;rw [<-hV,<-hZ];clear hV hZ
 go_region_held3 (λw'=>w'.cell? ⟨L.lb,0,none⟩=some (.pointer (some ⟨L.p,0,none⟩))/\w'.cell? ⟨w.heap.size,0,none⟩=some (.pointer (some ⟨L.lb,0,none⟩))) (first|with_reducible exact ⟨d0,D0⟩|with_reducible exact ⟨r0,R0⟩|exact ⟨c0,Q0⟩) (first
  |((with_reducible refine cM.mono ?_);intro e w2 hq;unfold A_ at hq;obtain ⟨rfl,hA,hW⟩:=hq;dsimp only [Dd.val];have AJ:=Fr.call (HE.out.1.after HE.out.2.2.1) HE.out.2.1.drew hA hW;obtain ⟨v0,v1,v2,v3⟩:=AJ.cell;obtain ⟨x0,x1,x2,x3⟩:=AJ.Am;have hC:=(AJ.told (HE.out.1.after HE.out.2.2.1) d).2.1;have d0:=AJ.lk.raw.cell0;have r0:=hC.raw.cell0;have D0:=QP.out w2 _ AJ.wr;have R0:=QP.out w2 _ (AJ.told (HE.out.1.after HE.out.2.2.1) d).2.2;have HT:=Qw AJ;clear hA AJ hW hC))
 go_wp2;refine bodyPost_ret (v:=Dd.val d) (results_cell_row rfl _ _ (w.heap.size+1+1) 102 _ (0,0) _ rfl (AO HT.out.res rfl _ _ _ _) underlying102 rfl AB) rfl ?_;obtain ⟨e1,e2,e3⟩:=HT.out.told (HE.out.1.after HE.out.2.2.1) d;exact ⟨e1,e2,(Hx HE.out.2.2.1).trans e3 λ_ _ e=>e⟩
end Go.Proofs.YtmnephejhkfchaaGreat.Ka

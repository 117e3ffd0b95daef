
import Derived.Test.YtmnephejhkfchaaGreatHierRel
namespace Go.Proofs.YtmnephejhkfchaaGreat.Kh
set_option maxHeartbeats 8000000
open _root_.Go.Proofs.Tryz Go.Deep
open Go.RowKit Go.BigFrame
set_option linter.unusedVariables false
set_option maxRecDepth 100000
structure Fd (w:World) (B:Nat) (X:World) (L:Lp) (f:FL) (σ:Nat->Int) (C:Nat) (d:Dd):Prop where
 fr:Fr w B X L f σ
 did:X.heap[C]? =some (.cells (Eh d) 102 (0,0))
 far:w.heap.size<=C
 ne:C≠B
section
variable {w X Y:World} {B C:Nat} {L:Lp} {f g f0:FL} {σ σ' σ0:Nat->Int} {d:Dd}
theorem Fd.cell (h:Fd w B X L f σ C d):X.cell? ⟨C,0,none⟩=some (.int .i64 d.ev)/\X.cell? ⟨C,1,none⟩=some (.bool d.BW)/\X.cell? ⟨C,2,none⟩=some (.bool d.arr)/\X.cell? ⟨C,3,none⟩=some (.bool d.lead):=zz1y
theorem Fd.Am (h:Fd w B X L f σ C d):X.frozen? ⟨C,0,none⟩=false/\X.frozen? ⟨C,1,none⟩=false/\X.frozen? ⟨C,2,none⟩=false/\X.frozen? ⟨C,3,none⟩=false:=
 ⟨A4 h.did 0,A4 h.did 1,A4 h.did 2,A4 h.did 3⟩
theorem Fd.call (h0:LkM w L f0 σ0) (h:Fd w B X L f σ C d) (hl:LkM Y L g σ') (k:Wr (LF L) X Y):Fd w B Y L g σ' C d:=
 ⟨Fr.call h0 h.fr hl k,(k.block C (A2 h.did) (λe=>by have:=h0.Cz e;have:=h.far;omega)).trans h.did,h.far,h.ne⟩
theorem Fd.keep (h0:LkM w L f0 σ0) (h:Fd w B X L f σ C d) (d':Dd):
  Fd w B ((((X.setCell ⟨C,0,none⟩ (.int .i64 d'.ev)).setCell ⟨C,1,none⟩ (.bool d'.BW)).setCell ⟨C,2,none⟩ (.bool d'.arr)).setCell ⟨C,3,none⟩ (.bool d'.lead)) L f σ C d':=zzs
theorem Fd.ends {s':SS} (h0:LkM w L f0 σ0) (h:Fd w B X L g σ C d) (hS:SeatAt Y L.p L.b s') (hn:s'.n=g.s.n) (hp:s'.UL) (hs:σ=s'.st) (k:Wr (One L.b) X Y):Fd w B Y L {g with s:=s'} s'.st C d:=
 h.call h0 (h.fr.lk.ends hS hn hp hs k) (CH k)
end
theorem C5 {w:World} {L:Lp} {f:FL} (h:LkAt w L f) (cs:Array Value):
  Fd w (w.heap.size+1) (((w.alloc (.cells cs 229)).alloc (.cells #[.int .i64 0,.bool false,.bool false,.bool false] 102)).alloc (.cells #[.int .i64 0,.bool false,.bool false,.bool false] 102)) L f f.s.st (w.heap.size+1+1) Dd.no/\
  (((w.alloc (.cells cs 229)).alloc (.cells #[.int .i64 0,.bool false,.bool false,.bool false] 102)).alloc (.cells #[.int .i64 0,.bool false,.bool false,.bool false] 102)).heap[w.heap.size]? =some (.cells cs 229 (0,0))/\
  Wr Nil w (((w.alloc (.cells cs 229)).alloc (.cells #[.int .i64 0,.bool false,.bool false,.bool false] 102)).alloc (.cells #[.int .i64 0,.bool false,.bool false,.bool false] 102)):=zzt
theorem Cq {w:World} {L:Lp} {f:FL} (h:LkAt w L f) (t u:Int) (hD:f.ps.D.length<4611686018427387904):
  Calls prog 136 #[.pointer (some ⟨L.p,0,none⟩),.int .i64 t,.int .i64 u,.agg #[Value.func (.func 195) #[.pointer (some ⟨L.lb,0,none⟩)] #[],Value.func (.func 196) #[.pointer (some ⟨L.lb,0,none⟩)] #[],Value.nilFunc]] w (AP w L (f.step L t u) (f.did L t u).val):=by
 obtain ⟨hF,hB,Sp⟩:=C5 h #[Value.func (.func 195) #[.pointer (some ⟨L.lb,0,none⟩)] #[],Value.func (.func 196) #[.pointer (some ⟨L.lb,0,none⟩)] #[],Value.nilFunc];obtain ⟨Z,hZ⟩:∃ Z,Z=((w.alloc (.cells #[Value.func (.func 195) #[.pointer (some ⟨L.lb,0,none⟩)] #[],Value.func (.func 196) #[.pointer (some ⟨L.lb,0,none⟩)] #[],Value.nilFunc] 229)).alloc (.cells #[.int .i64 0,.bool false,.bool false,.bool false] 102)).alloc (.cells #[.int .i64 0,.bool false,.bool false,.bool false] 102):=⟨_,rfl⟩
 rw [<-hZ] at hF hB Sp;have b0:Z.cell? ⟨w.heap.size,0,none⟩=some (Value.func (.func 195) #[.pointer (some ⟨L.lb,0,none⟩)] #[]):=(A1 hB 0).trans rfl;have b1:Z.cell? ⟨w.heap.size,1,none⟩=some (Value.func (.func 196) #[.pointer (some ⟨L.lb,0,none⟩)] #[]):=(A1 hB 1).trans rfl;have cS:=De hF.fr.lk.raw.seat t;obtain ⟨v0,v1,v2,v3⟩:=hF.fr.cell;obtain ⟨x0,x1,x2,x3⟩:=hF.fr.Am;obtain ⟨p0,p1,p2,p3⟩:=hF.cell;have hn:=h.raw.seat.n2;have Io:=h.raw.np;clear Sp;by_cases ht:0<=t/\t<f.s.n
 ·obtain ⟨k,rfl⟩:=Qx ht.1
  have hk:k<f.s.n:=by omega
  have eS:f.s.FD (k:Int)=f.s.st k:=by unfold SS.FD;rw [Qj ht,Int.toNat_natCast]
  rw [eS] at cS;by_cases h1:f.s.st k=1
  ·have e1:f.mid L k u=f.acq L k u:=by unfold FL.mid;rw [Qj ht,Int.toNat_natCast,Qj h1]
   have e2:f.did L k u=f.A7 L k u:=by unfold FL.did;rw [Qj ht,Int.toNat_natCast,Qj h1]
   have es:=f.CO L k u;have cA:=ET hF.fr.lk k hk u h1 hD;unfold FL.step;rw [e1] at es;rw [e1,e2];have ef:=SS.Ol f.s k hk (f.A7 L k u).ev;rw [h1] at ef;have en:(f.s.fin k (f.A7 L k u).ev).n=(f.acq L k u).s.n:=by rw [es];exact f.s.Bv _ _
   have ep:=SS.Ik Io (k:Int) (f.A7 L k u).ev;rw [<-ef] at cA;rw [h1] at cS;generalize f.acq L k u=g at*;generalize f.A7 L k u=d at*;have HE:=Qw (Qz h (Qz hF (Qz es (Qz en ep))));have HZ:=Qw hZ;clear h hF eS e1 e2 hB es hZ h1 ef en ep Io;exact zz4
  by_cases h3:f.s.st k=3
  ·have e1:f.mid L k u=f.rel L k u:=by unfold FL.mid;rw [Qj ht,Int.toNat_natCast,Qq h1,Qj h3]
   have e2:f.did L k u=f.AX L k u:=by unfold FL.did;rw [Qj ht,Int.toNat_natCast,Qq h1,Qj h3]
   have es:=f.CO L k u;have cA:=EU hF.fr.lk k hk u h3 hD;unfold FL.step;rw [e1] at es;rw [e1,e2];have ef:=SS.Ol f.s k hk (f.AX L k u).ev;rw [h3] at ef;have en:(f.s.fin k (f.AX L k u).ev).n=(f.rel L k u).s.n:=by rw [es];exact f.s.Bv _ _
   have ep:=SS.Ik Io (k:Int) (f.AX L k u).ev;rw [<-ef] at cA;rw [h3] at cS;generalize f.rel L k u=g at*;generalize f.AX L k u=d at*;have HE:=Qw (Qz h (Qz hF (Qz es (Qz en ep))));have HZ:=Qw hZ;clear h hF eS e1 e2 hB es hZ h1 h3 ef en ep Io;exact zz4
  have h4:¬ f.s.st k=4:=Io.2 k;have e1:f.mid L k u=f:=by unfold FL.mid;rw [Qj ht,Int.toNat_natCast,Qq h1,Qq h3]
  have e2:f.did L k u=Dd.no:=by unfold FL.did;rw [Qj ht,Int.toNat_natCast,Qq h1,Qq h3]
  have cE:=Bb hF.fr.lk.raw.seat (k:Int) Dd.no.ev;have ef:f.s.st=(f.s.fin k Dd.no.ev).st:=(SS.MI f.s k).symm;have en:(f.s.fin k Dd.no.ev).n=f.s.n:=f.s.Bv _ _;have ep:=SS.Ik Io (k:Int) Dd.no.ev;have HE:=Qw (Qz h (Qz hF (Qz ef (Qz en ep))));have HZ:=Qw hZ;unfold FL.step;rw [e1,e2];clear h hF e1 e2 hB hZ b0 b1 ef en ep eS Io;generalize f.s.st k=y at*;generalize f.s.n=n at*;exact zz77
 ·have eS:f.s.FD t=0:=Qq ht
  rw [eS] at cS;have e1:f.mid L t u=f:=by unfold FL.mid;rw [Qq ht]
  have e2:f.did L t u=Dd.no:=by unfold FL.did;rw [Qq ht]
  have cE:=Bb hF.fr.lk.raw.seat t Dd.no.ev;have ef:f.s.st=(f.s.fin t Dd.no.ev).st:=(SS.MI f.s t).symm;have en:(f.s.fin t Dd.no.ev).n=f.s.n:=f.s.Bv _ _;have ep:=SS.Ik Io t Dd.no.ev;have HE:=Qw (Qz h (Qz hF (Qz ef (Qz en ep))));have HZ:=Qw hZ;unfold FL.step;rw [e1,e2];clear h hF e1 e2 hB hZ b0 b1 ef en ep Io ht;exact zz77
open _root_.Go.Proofs.Tryz
theorem CB {w:World} {L:Lp} {f:FL} (h:LkAt w L f) (t u x:Int) (hD:f.ps.D.length<4611686018427387904):
  Calls prog 193 #[.pointer (some ⟨L.lb,0,none⟩),.int .i64 t,.int .i64 u,.int .i64 x] w (AP w L (f.step L t u) (f.did L t u).val):=by
 have hF:=Fr.start h;obtain ⟨Z,hZ⟩:∃ Z,Z=w.alloc (.cells #[.int .i64 0,.bool false,.bool false,.bool false] 102):=⟨_,rfl⟩
 rw [<-hZ] at hF;have cM:=Cq hF.lk t u hD;have c0:=hF.lk.raw.cell0;rw [hZ] at c0;generalize f.step L t u=g at*;generalize f.did L t u=d at*;have HE:=Qw (Qz h hF);have HZ:=Qw hZ;clear h hF hZ
 go_in
 go_wp2_with (first
  |(go_at_call 136;rw [<-HZ.out];(with_reducible refine cM.mono ?_);intro e w2 hq;unfold A_ at hq;obtain ⟨rfl,hA,hW⟩:=hq;dsimp only [Dd.val];have AJ:=Fr.call HE.out.1 HE.out.2 hA hW;obtain ⟨v0,v1,v2,v3⟩:=AJ.cell;obtain ⟨x0,x1,x2,x3⟩:=AJ.Am;have HT:=Qw AJ;clear hA AJ hW))
 exact zzb
end Go.Proofs.YtmnephejhkfchaaGreat.Kh

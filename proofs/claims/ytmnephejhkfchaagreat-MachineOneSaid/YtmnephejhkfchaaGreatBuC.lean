
import Derived.Test.YtmnephejhkfchaaGreatClhEnd
import Derived.Test.YtmnephejhkfchaaGreatFlatOrd
namespace Go.Proofs.YtmnephejhkfchaaGreat.Kc
set_option maxHeartbeats 8000000
open _root_.Go.Proofs.Tryz Go.Deep
open Go.RowKit Go.BigFrame
set_option linter.unusedVariables false
set_option maxRecDepth 100000
abbrev FC (p:Nat) (x y:Int) (tb n:Nat):Array Value:= #[.pointer (some ⟨p,0,none⟩),.pointer none,.int .i64 x,.int .i64 y,.slice (some ⟨tb,0,none⟩) n n]
def CP (k j:Nat):Int:=if j<k then (j:Int)+1 else 0
theorem Ns (k:Nat):upd (CP k) k ((k:Int)+1)=CP (k+1):=by
 funext j
 unfold CP upd;by_cases e:j=k
 ·subst e;simp
 ·rw [Qq e]
  show (if j<k then (j:Int)+1 else 0)=if j<k+1 then (j:Int)+1 else 0;exact zz70
theorem W4:CP 0=λ_=>0:=by funext j;unfold CP;rw [Qq (by omega)]
theorem Qe {n:Nat} (hn:n<=64) (j:Nat):0<=CP n j/\CP n j<4294967296:=by unfold CP;split<;>omega
structure LaySt (w:World) (q:Pl) (t:Int) (lb tb b o n:Nat) (zs:List Int) (cs:Array Value) (m:Nat) (hs vs:List Int) (wr:World):Prop where
 plan:∃ q':Pl,q'.p=q.p/\PlanAt wr q' t hs vs/\Came w q.F q'.F
 kp:Wr (λj=>q.F j\/j=lb\/j=tb) w wr
 obj:wr.heap[lb]? =some (.cells cs 123 (0,0))
 tick:wr.heap[tb]? =some (.cells (BS n (λ_=>0) (CP m) (λ_=>0)).toArray 160 (0,0))
 row:Ad .i64 wr (some ⟨b,o,none⟩) n zs
 lt:lb<w.heap.size/\b<w.heap.size/\tb<w.heap.size
 ne:¬ q.F lb/\¬ q.F b/\¬ q.F tb/\b≠lb/\b≠tb/\lb≠tb
namespace LaySt
variable {w wr w':World} {q:Pl} {t:Int} {lb tb b o n m:Nat} {zs:List Int} {cs:Array Value} {hs vs:List Int}
theorem far (h:LaySt w q t lb tb b o n zs cs m hs vs wr) {q':Pl} (c:Came w q.F q'.F):¬ q'.F lb/\¬ q'.F b/\¬ q'.F tb:=zz3a
theorem set (h:LaySt w q t lb tb b o n zs cs m hs vs wr) (i:Nat) (v:Value):LaySt w q t lb tb b o n zs (cs.setIfInBounds i v) m hs vs (wr.setCell ⟨lb,i,none⟩ v):=zz1n
theorem FR (h:LaySt w q t lb tb b o n zs cs m hs vs wr):LaySt w q t lb tb b o n zs cs (m+1) hs vs (wr.setCell ⟨tb,m*3+1,none⟩ (.int .u32 ((m:Int)+1))):=by
 obtain ⟨q',hq,hP,hC⟩:=h.plan;obtain ⟨f1,f2,f3⟩:=h.far hC;have k:Wr (One tb) wr (wr.setCell ⟨tb,m*3+1,none⟩ (.int .u32 ((m:Int)+1))):=(Wr.refl _ _).setCell _ _ λ_=>rfl;refine ⟨⟨q',hq,hP.wrote k λj hj e=>by cases e;exact f3 hj,hC⟩,h.kp.trans k λj _ e=> .inr (.inr e),(k.block _ (A2 h.obj) h.ne.2.2.2.2.2).trans h.obj,?_,h.row.wrote k λa ha e=> ?_,h.lt,h.ne⟩
 ·rw [A3 h.tick,List.setIfInBounds_toArray,He,Ns]
 ·cases ha
  exact h.ne.2.2.2.2.1 e
theorem home (h:LaySt w q t lb tb b o n zs cs m hs vs wr) {j:Nat} (hj:j<n):wr.cell? ⟨b,o+j,none⟩=some (.int .i64 (zs.getD j 0)):=zz2m
theorem K1 (h:LaySt w q t lb tb b o n zs cs m hs vs wr) (hn:0<n):wr.cell? ⟨b,o,none⟩=some (.int .i64 (zs.getD 0 0)):=h.home hn
theorem place {p r:Nat} {x y:Int} (h:LaySt w q t lb tb b o n zs (FC p x y tb r) m hs vs wr):wr.cell? ⟨lb,4,none⟩=some (.slice (some ⟨tb,0,none⟩) r r):=by rw [A1 h.obj];rfl
theorem node (h:LaySt w q t lb tb b o n zs cs m hs vs wr) {j:Nat} (hj:j<n):wr.cell? ⟨tb,j*3+1,none⟩=some (.int .u32 (CP m j)):=by
 rw [A1 h.tick,List.getElem?_toArray];exact BB n _ _ _ hj (j:=1) (by decide)
end LaySt
def Ax (w:World) (q:Pl) (t:Int) (lb tb b o n:Nat) (zs:List Int) (cs:Array Value) (m:Nat) (hs vs:List Int) (r:Value) (e:Ending) (w':World):Prop:=e= .returned r/\LaySt w q t lb tb b o n zs cs m hs vs w'
section
variable {w wr:World} {q:Pl} {t:Int} {lb tb b o n m:Nat} {zs:List Int} {cs:Array Value} {hs vs:List Int}
theorem DY (h:LaySt w q t lb tb b o n zs cs m hs vs wr) (x v:Int) (hL:hs.length<=1000000):
  Calls prog 50 #[.pointer (some ⟨q.p,0,none⟩),.int .i64 x,.int .u32 v] wr (Ax w q t lb tb b o n zs cs m (hs++[x]) (vs++[v]) (.int .i64 (hs.length:Nat))):=zz1i
end
theorem GH (zs:List Int) {k:Nat} (hk:k<zs.length):zs.take (k+1)=zs.take k++[zs.getD k 0]:=zz5a
theorem CT (k:Nat) (x:Int):List.replicate (k+1) x=List.replicate k x++[x]:=by rw [List.replicate_succ']
theorem Gp {w:World} {q:Pl} {t:Int} {lb b o n cap p tb:Nat} {zs:List Int} {hs vs:List Int} (h:LaySt w q t lb tb b o n zs (FC p 0 0 tb n) 0 hs vs w) (n1:1<=n) (n2:n<=64) (hL:hs.length<=900000):
  Calls prog 54 #[.pointer (some ⟨lb,0,none⟩),.pointer (some ⟨q.p,0,none⟩),.slice (some ⟨b,o,none⟩) n cap] w
   (Ax w q t lb tb b o n zs (FC p (hs.length:Nat) ((hs.length:Nat)+1) tb n) n (hs++[zs.getD 0 0]++[zs.getD 0 0]++zs) (vs++[0]++[0]++List.replicate n 0) (.tuple #[])):=by
 have hc:=h.K1 n1;have hlen:=h.row.len;obtain ⟨x,hx⟩:∃ x,x=zs.getD 0 0:=⟨_,rfl⟩
 rw [<-hx] at hc ⊢;have cW:=DY h x 0 (by omega);have o0:=A1 h.obj;have f2:=A4 h.obj 2;have HH:=Qw (Qz h hx);clear h hx;have n0:(0:Nat)<n:=n1
 go_in
 go_wp2_with (first
  |((with_reducible refine cW.mono ?_);intro e w2 hq;unfold Ax at hq;obtain ⟨rfl,hA⟩:=hq;have g2:=A4 hA.obj 2;have q2:w2.cell? ⟨lb,2,none⟩=some (.int .i64 0):=(A1 hA.obj 2).trans rfl;have Im:LaySt w q t lb tb b o n zs (FC p (hs.length:Nat) 0 tb n) 0 (hs++[x]) (vs++[0]) (w2.setCell ⟨lb,2,none⟩ (.int .i64 (hs.length:Nat))):=hA.set 2 (.int .i64 (hs.length:Nat));have y0:=Im.K1 n0;rw [<-HH.out.2] at y0;have cX:=DY Im x 0 (by simp;omega);rw [show (((hs++[x]).length:Nat):Int)=(hs.length:Int)+1 by simp] at cX;clear hA Im)
  |((with_reducible refine cX.mono ?_);intro e w3 hq;unfold Ax at hq;obtain ⟨rfl,hA⟩:=hq;have g3:=A4 hA.obj 3;have q3:w3.cell? ⟨lb,3,none⟩=some (.int .i64 0):=(A1 hA.obj 3).trans rfl;have AJ:LaySt w q t lb tb b o n zs (FC p (hs.length:Nat) ((hs.length:Nat)+1) tb n) 0 (hs++[x]++[x]) (vs++[0]++[0]) (w3.setCell ⟨lb,3,none⟩ (.int .i64 ((hs.length:Nat)+1))):=hA.set 3 (.int .i64 ((hs.length:Nat)+1));have HA:=Qw AJ;clear hA AJ))
 clear cW cX hc o0 f2 g2 g3 q2 q3 y0 n0;go_loopw [6,7,26] (λ_ _ i wr=>∃ k:Nat,k<=n/\i= .int .i64 k/\LaySt w q t lb tb b o n zs (FC p (hs.length:Nat) ((hs.length:Nat)+1) tb n) k (hs++[x]++[x]++zs.take k) (vs++[0]++[0]++List.replicate k 0) wr) (λ_ _ i _=>n-(intOf i).toNat)
 case atStart=>exact ⟨0,Nat.zero_le _,rfl,by simpa using HA.out⟩
 case round=>
  clear HA HH;obtain ⟨k,hk,rfl,hl⟩:=hrel;by_cases hlt:k<n
  ·have yc:=hl.home hlt
   have DG:=GH zs (k:=k) (by omega);have DI:=CT k 0;have cW:=DY hl (zs.getD k 0) 0 (by simp only [List.length_append,List.length_singleton,List.length_take];omega);rw [List.append_assoc (hs++[x]++[x]),<-DG,List.append_assoc (vs++[0]++[0]),<-DI] at cW;generalize zs.getD k 0=y at*;have mA:IntKind.u32.wrap ((k:Int)+1)=(k:Int)+1:=by show ((k:Int)+1)%4294967296=_;omega
   clear hl DG DI
   go_wp2_with (first
    |((with_reducible refine cW.mono ?_);intro e w2 hq;unfold Ax at hq;obtain ⟨rfl,hA⟩:=hq;have j4:=hA.place;have j1:=hA.node hlt;have jz:=A4 hA.tick (k*3+1);have HA:=Qw hA.FR;clear hA))
   exact zz14
  ·obtain rfl:k=n:=by omega
   have HL:=Qw hl;clear hl;go_wp2
   go_end0
   have e:=HL.out;rw [List.take_of_length_le (by omega)] at e;exact ⟨rfl,e⟩
theorem LP:(prog.info? 160).map (λi=>(i.zero,i.size,i.bytes))=some (some (.agg #[.int .i64 0,.int .u32 0,.int .u32 0]),3,16):=by kernel_rfl
theorem DZ (n:Nat):madeCells (Value.agg #[.int .i64 0,.int .u32 0,.int .u32 0]).cells (n*3)=(BS n (λ_=>0) (CP 0) (λ_=>0)).toArray:=by
 rw [W4];apply Array.ext';show (madeCells (#[.int .i64 0,.int .u32 0,.int .u32 0]:Array Value) (n*3)).toList=BS n (λ_=>0) (λ_=>0) (λ_=>0);apply List.ext_getElem?;intro m;by_cases hm:m<n*3
 ·have ha:m/3<n:=by omega
  have e:m=m/3*3+m%3:=by omega
  have h2:=BB n (λ_=>0) (λ_=>0) (λ_=>0) (k:=m/3) ha (j:=m%3) (Nat.mod_lt _ (by decide));rw [<-e] at h2;rw [h2];unfold madeCells;rw [Array.toList_map,List.getElem?_map,Array.toList_range,List.getElem?_range hm];have:m%3=0\/m%3=1\/m%3=2:=by omega
  rcases this with h|h|h<;>simp [h,Ct]
 ·rw [List.getElem?_eq_none (by simp [madeCells];omega),List.getElem?_eq_none (by unfold BS;rw [CF (Ah _ _ _),List.length_range];omega)]
def FF (w:World) (q:Pl) (t:Int) (hs vs:List Int) (n:Nat) (zs:List Int) (e:Ending) (w':World):Prop:=
 ∃ (L:Lp) (q':Pl),e= .returned (.tuple #[.pointer (some ⟨L.lb,0,none⟩),.int .i64 0])/\FlRaw w' L (.pointer none) (AQ n false true) (λ_=>0) (CP n) (λ_=>0)/\
  (w.heap.size<=L.lb/\w.heap.size<=L.p/\w.heap.size<=L.b/\w.heap.size<=L.tb)/\L.a1=hs.length/\L.a2=hs.length+1/\q'.p=q.p/\PlanAt w' q' t (hs++[zs.getD 0 0]++[zs.getD 0 0]++zs) (vs++[0]++[0]++List.replicate n 0)/\Wr q.F w w'/\Came w q.F q'.F
theorem CG {w ws:World} {q:Pl} {t:Int} {hs vs:List Int} {b o n:Nat} {zs:List Int} (h:PlanAt w q t hs vs) (k:Wr Nil w ws) (hr:Ad .i64 w (some ⟨b,o,none⟩) n zs) (QH:b<w.heap.size) (hb:¬ q.F b) (A cs:Array Value) (hA:(BS n (λ_=>0) (CP 0) (λ_=>0)).toArray=A) {lb tb:Nat} (hlb:lb=ws.heap.size+1) (VY:tb=ws.heap.size):
  LaySt ((ws.alloc (.cells A 160)).alloc (.cells cs 123)) q t lb tb b o n zs cs 0 hs vs ((ws.alloc (.cells A 160)).alloc (.cells cs 123)):=by
 have k2:Wr Nil w ((ws.alloc (.cells A 160)).alloc (.cells cs 123)):=(k.alloc _).alloc _;have e1:(ws.alloc (.cells A 160)).heap.size=ws.heap.size+1:=nblk_alloc _ _;have e2:((ws.alloc (.cells A 160)).alloc (.cells cs 123)).heap.size=ws.heap.size+1+1:=by rw [nblk_alloc,e1]
 exact zz1x
theorem DA {w wq wr:World} {q:Pl} {t:Int} {hs vs:List Int} {b o n p sb lb tb:Nat} {zs:List Int} {A:Array Value} (h:PlanAt w q t hs vs) (k1:Wr Nil w wq) (hS:SeatAt wq p sb (AQ n false true)) (hp:w.heap.size<=p) (Eg:w.heap.size<=sb) (VY:tb=wq.heap.size) (hlb:lb=wq.heap.size+1) (n2:n<=64) (hL:hs.length<=900000) (cs:Array Value)
  (hl:LaySt ((wq.alloc (.cells A 160)).alloc (.cells cs 123)) q t lb tb b o n zs (FC p (hs.length:Nat) ((hs.length:Nat)+1) tb n) n (hs++[zs.getD 0 0]++[zs.getD 0 0]++zs) (vs++[0]++[0]++List.replicate n 0) wr):
  FF w q t hs vs n zs (.returned (.tuple #[.pointer (some ⟨lb,0,none⟩),.int .i64 0])) wr:=by
 generalize hX:(wq.alloc (.cells A 160)).alloc (.cells cs 123)=X at hl;have e1:(wq.alloc (.cells A 160)).heap.size=wq.heap.size+1:=nblk_alloc _ _;have e2:X.heap.size=wq.heap.size+1+1:=by rw [<-hX,nblk_alloc,e1]
 have k3:Wr Nil wq X:=by rw [<-hX];exact ((Wr.refl _ _).alloc _).alloc _
 have kX:Wr Nil w X:=k1.nil k3;have s1:=k1.size;have s3:=k3.size;have hF:∀ k,w.heap.size<=k->k≠lb->k≠tb->¬ (q.F k\/k=lb\/k=tb):=λk hk hk2 Gn e=>zz72;have l1:=A2 hS.obj;have l2:=A2 hS.ctx;have hne:=hS.ne;have Zo:=hS.wrote (k3.mono λ_ _ e=>e.elim:Wr Nil wq X) id id;obtain ⟨q',hq,hP,hC⟩:=hl.plan;refine ⟨⟨lb,p,sb,tb,hs.length,(hs.length:Int)+1,⟨0,0,0,0,0,0,0,0,0,0,0,0,.pointer none⟩,[]⟩,q',rfl,⟨hl.obj,Zo.wrote hl.kp (hF p hp (by omega) (by omega)) (hF sb Eg (by omega) (by omega)),hl.tick,⟨by dsimp only;omega,by dsimp only;omega,by dsimp only;omega,by dsimp only;omega,by dsimp only;omega⟩,λj=>⟨.inl rfl,Qe n2 j,by decide⟩,by dsimp only;omega⟩,⟨by dsimp only;omega,by dsimp only;omega,by dsimp only;omega,by dsimp only;omega⟩,rfl,rfl,hq,hP,?_,λj hj=> ?_⟩
 ·exact zz51
 ·exact zz39
theorem Cv {w:World} {q:Pl} {t:Int} {hs vs:List Int} (h:PlanAt w q t hs vs) {b o n cap:Nat} {zs:List Int} (hr:Ad .i64 w (some ⟨b,o,none⟩) n zs) (ho:A8 zs=true) (n1:1<=n) (n2:n<=64) (hL:hs.length<=900000) (hb:¬ q.F b):
  Calls prog 36 #[.pointer (some ⟨q.p,0,none⟩),.slice (some ⟨b,o,none⟩) n cap] w (FF w q t hs vs n zs):=by
 obtain ⟨i0,hi,hz0,hz1,hz2⟩:=info_parts LP;have hmk:∀ w:World,(Instr.makeSlice 121 (.int .i64 (n:Int)) (.int .i64 (n:Int))).run prog w= .ok (.slice (some ⟨w.heap.size,0,none⟩) n n) (w.alloc (.cells (BS n (λ_=>0) (CP 0) (λ_=>0)).toArray 160)):=by
  intro w;have h:=Go.run_make (P:=prog) w 121 160 i0 _ underlying121 hi hz0 .i64 .i64 n n (by omega) (by omega) (by rw [hz2];omega) (by omega);exact zz2o
 generalize hA:(BS n (λ_=>0) (CP 0) (λ_=>0)).toArray=A at hmk;have cS:=EY (cap:=cap) hr ho false true n1 n2;have Fy:b<w.heap.size:=World.block_lt_of_cell? w _ (hr.cell ⟨b,o,none⟩ rfl 0 (by omega));have HX:=Qw (Qz h (Qz hr (Qz hA (Qz Fy hb))));clear h hr ho hA hb Fy
 go_in
 go_wp2_with (first
  |((with_reducible refine cS.mono ?_);intro e wq hq;unfold Br at hq;obtain ⟨p,sb,rfl,hS,hp,Eg,hW⟩:=hq;have HS:=Qw (Qz hS (Qz hp (Qz Eg hW)));clear hS hp Eg hW cS)
  |((with_reducible refine (Gp (CG HX.out.1 HS.out.2.2.2 HX.out.2.1 HX.out.2.2.2.1 HX.out.2.2.2.2 A (FC p 0 0 wq.heap.size n) HX.out.2.2.1 rfl rfl) n1 n2 hL).mono ?_);intro e wr hq;unfold Ax at hq;obtain ⟨rfl,hl⟩:=hq;have HL:=Qw hl;clear hl))
 go_ret2
 obtain ⟨h,hr,hA,Fy,hb⟩:=HX.out;exact DA h HS.out.2.2.2 HS.out.1 HS.out.2.1 HS.out.2.2.1 rfl rfl n2 hL _ HL.out
open _root_.Go.Proofs.Tryz
def Low (L:Lp) (k:Nat):Prop:=k<L.q.k3
theorem LkAt.low {w w':World} {L:Lp} {f:FL} (h:LkAt w L f) (k:Wr (LF L) w w'):Wr (Low L) w w':=k.mono λb _ e=>zz1h
structure LkS (w0 w:World) (L:Lp) (f:FL):Prop where
 lk:LkAt w L f
 low:w0.heap.size<=L.lb/\w0.heap.size<=L.p/\w0.heap.size<=L.b/\w0.heap.size<=L.tb/\w0.heap.size<=L.q.k0
 wr:Wr Nil w0 w
namespace LkS
variable {w0 w w':World} {L:Lp} {f f':FL}
theorem after (h:LkS w0 w L f) (k:Wr Nil w w'):LkS w0 w' L f:=⟨h.lk.after k,h.low,h.wr.nil k⟩
theorem apart {S:Nat->Prop} (h:LkS w0 w L f) (k:Wr S w w') (hS:∀ b,S b->L.q.k3<=b):LkS w0 w' L f:=zzn
theorem Hy (h:LkS w0 w L f) {k:Nat} (hk:LF L k):w0.heap.size<=k:=zz23
theorem call (h:LkS w0 w L f) (hl:LkAt w' L f') (k:Wr (LF L) w w'):LkS w0 w' L f':=⟨hl,h.low,h.wr.trans k λb hb e=>by have:=h.Hy e;unfold Nil;omega⟩
theorem cell0 (h:LkS w0 w L f):w.cell? ⟨L.lb,0,none⟩=some (.pointer (some ⟨L.p,0,none⟩)):=h.lk.raw.cell0
end LkS
def Bf (w0 w:World) (L:Lp) (f:FL) (v:Value) (e:Ending) (w':World):Prop:=e= .returned v/\LkS w0 w' L f/\Wr (Low L) w w'
section
variable {w0 w:World} {L:Lp} {f:FL}
theorem Cr (h:LkS w0 w L f) (t d:Int):Calls prog 127 #[.pointer (some ⟨L.p,0,none⟩),.int .i64 t,.int .i64 d] w (Bf w0 w L (f.lock t d) (.int .i64 (BZ f.s t d))):=
 (Eo h.lk.raw.seat t d).mono λe w' ⟨he,hS,hW⟩=>⟨he,h.call (h.lk.seats hS (SS.Bz _ _ _) hW) (CH hW),h.lk.low (CH hW)⟩
theorem Bt (h:LkS w0 w L f) (t:Int):Calls prog 131 #[.pointer (some ⟨L.p,0,none⟩),.int .i64 t] w (Bf w0 w L (f.turn t 3) (.int .i64 (BR f.s t))):=
 (DJ h.lk.raw.seat t).mono λe w' ⟨he,hS,hW⟩=>⟨he,h.call (h.lk.seats hS (SS.Bu _ _ _) hW) (CH hW),h.lk.low (CH hW)⟩
theorem Cs (h:LkS w0 w L f) (t u x:Int) (hD:f.ps.D.length<4611686018427387904):Calls prog 150 #[.pointer (some ⟨L.lb,0,none⟩),.int .i64 t,.int .i64 u,.int .i64 x] w (Bf w0 w L (f.step L t u) (f.did L t u).val):=
 (CB h.lk t u x hD).mono λe w' ⟨he,hl,hW⟩=>⟨he,h.call hl hW,h.lk.low hW⟩
end
structure G' (w0 w:World) (L:Lp) (f:FL):Prop where
 raw:Ey w L (.pointer none) f
 port:PortAt w L.q L.hs f.ps
 far:L.lb<L.q.k0/\L.p<L.q.k0/\L.b<L.q.k0/\L.tb<L.q.k0
 top:L.q.k3<=w.heap.size
 low:w0.heap.size<=L.lb/\w0.heap.size<=L.p/\w0.heap.size<=L.b/\w0.heap.size<=L.tb/\w0.heap.size<=L.q.k0
 wr:Wr Nil w0 w
theorem Dp {w0 w:World} {L:Lp} {f:FL} (h:G' w0 w L f):
  Calls prog 151 #[.pointer (some ⟨L.lb,0,none⟩),.pointer (some ⟨L.q.p,0,none⟩)] w λe w'=>e= .returned (.tuple #[])/\LkS w0 w' L f/\Wr (Low L) w w':=zz5
theorem DX {w0 w1 w2:World} {L0:Lp} {q:Place} {f:FL} {hs:List Int} (hr:Ey w1 L0 (.pointer none) f) (hl:w0.heap.size<=L0.lb/\w0.heap.size<=L0.p/\w0.heap.size<=L0.b/\w0.heap.size<=L0.tb) (h0:Wr Nil w0 w1)
  (hP:PortAt w2 q hs f.ps) (h1:w1.heap.size<=q.k0) (h2:q.k3<=w2.heap.size) (hW:Wr Nil w1 w2):G' w0 w2 {L0 with q:=q,hs:=hs} f:=zz7g
abbrev Ef (n:Nat):List Int:=[0]++[0]++List.replicate n 0
abbrev Bd (zs:List Int):List Int:=[zs.getD 0 0]++[zs.getD 0 0]++zs
def Bl (n t:Nat):FL:=⟨AQ n false true,λ_=>0,CP n,λ_=>0,Dq t (Ef n)⟩
theorem Co {zs:List Int} (h:A8 zs=true) (i:Nat):FO (zs.getD i 0)=true:=zzm
theorem Hv {zs:List Int} (h:A8 zs=true):A8 (Bd zs)=true:=by
 have h0:=Co h 0;unfold A8 at h ⊢;unfold Bd;rw [List.all_append,List.all_append,h,Bool.and_true];show ((FO (zs.getD 0 0)&&true)&&(FO (zs.getD 0 0)&&true))=true;rw [h0];rfl
theorem G_ (n j:Nat):(Ef n).getD j 0=0:=by
 match j with
 |0=>rfl
 |1=>rfl
 |j+2=>
  show (List.replicate n (0:Int)).getD j 0=0;exact zz2t
def EP (w0:World) (n:Nat) (L:Lp) (w':World):Prop:=L.a1=0/\L.a2=1/\G' w0 w' L (Bl n n)
theorem Cn {w0 w w1:World} {q q':Pl} {n:Nat} {zs:List Int} {L0:Lp} (h0:Wr Nil w0 w) (hq:∀ k,q.F k->w0.heap.size<=k) (n1:1<=n) (n2:n<=64) (ho:A8 zs=true) (hn:zs.length=n)
  (hR:FlRaw w1 L0 (.pointer none) (AQ n false true) (λ_=>0) (CP n) (λ_=>0)) (hl:w.heap.size<=L0.lb/\w.heap.size<=L0.p/\w.heap.size<=L0.b/\w.heap.size<=L0.tb) (h1:L0.a1=0) (h2:L0.a2=1) (Eu:q'.p=q.p) (hP:PlanAt w1 q' n (Bd zs) (Ef n)) (hW:Wr q.F w w1):
  Calls prog 26 #[.pointer (some ⟨q.p,0,none⟩)] w1 λe w'=>∃ L:Lp,e= .returned (.tuple #[.pointer (some ⟨L.q.p,0,none⟩),.int .i64 0])/\EP w0 n L w'/\L.lb=L0.lb/\L.hs=Bd zs:=by
 have c:=Ch hP (λj=>by rw [G_];decide) n1 n2 (by simp [Bd];omega) (Hv ho);rw [Eu] at c;refine c.mono ?_;rintro e w' ⟨qq,rfl,hA,Ly,Gn,Ba⟩;have s0:=h0.size;refine ⟨{L0 with q:=qq,hs:=Bd zs},rfl,⟨h1,h2,?_⟩,rfl,rfl⟩;exact zz5f
end Go.Proofs.YtmnephejhkfchaaGreat.Kc

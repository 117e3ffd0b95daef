
import Derived.Test.YtmnephejhkfchaaGreatFlatEnd
namespace Go.Proofs.YtmnephejhkfchaaGreat.Kf
set_option maxHeartbeats 8000000
open _root_.Go.Proofs.Tryz Go.Deep
open Go.RowKit Go.BigFrame
set_option linter.unusedVariables false
set_option maxRecDepth 100000
structure Bx (w:World) (P b o n cap:Nat) (pp:Nat) (x v:Int):Prop where
 c0:w.cell? ⟨P,0,none⟩=some (.pointer (some ⟨pp,0,none⟩))
 c1:w.cell? ⟨P+1,0,none⟩=some (.slice (some ⟨b,o,none⟩) n cap)
 c2:w.cell? ⟨P+1+1,0,none⟩=some (.int .u32 v)
 c3:w.cell? ⟨b,o,none⟩=some (.int .i64 x)
theorem Bx.wrote {w w':World} {P b o n cap pp:Nat} {x v:Int} {S:Nat->Prop} (h:Bx w P b o n cap pp x v) (k:Wr S w w') (h0:¬ S P) (h1:¬ S (P+1)) (h2:¬ S (P+1+1)) (h3:¬ S b):Bx w' P b o n cap pp x v:=
 ⟨k.cell h.c0 h0,k.cell h.c1 h1,k.cell h.c2 h2,k.cell h.c3 h3⟩
theorem VH {w:World} {q:Pl} {t:Int} {hs vs:List Int} (h:PlanAt w q t hs vs) {P b o n cap:Nat} {x v:Int} (hB:Bx w P b o n cap q.p x v) (n1:1<=n) (n2:n<=64) (hL:hs.length<=1000000)
  (h0:¬ q.F P) (h1:¬ q.F (P+1)) (h2:¬ q.F (P+1+1)) (h3:¬ q.F b):
  Calls prog 49 #[.pointer (some ⟨P,0,none⟩),.pointer (some ⟨P+1,0,none⟩),.pointer (some ⟨P+1+1,0,none⟩)] w (C4 w q t (hs++[x]) (vs++[v]) (.int .i64 (hs.length:Nat))):=by
 have cW:=Ci (h.after ((Wr.refl Nil w).drew)) x v hL;obtain ⟨c0,c1,c2,c3⟩:=hB;have k1:(0:Int)<n:=by omega
 have k2:¬ ((n:Int)<=0):=by omega
 have k3:(0:Nat)<n:=n1;have HE:=Qw (Qz h0 (Qz h1 (Qz h2 h3)));clear h h0 h1 h2 h3
 go_in
 go_wp2;go_region_held3 (λw'=>w'.cell? ⟨P,0,none⟩=some (.pointer (some ⟨q.p,0,none⟩))/\w'.cell? ⟨P+1,0,none⟩=some (.slice (some ⟨b,o,none⟩) n cap)/\w'.cell? ⟨P+1+1,0,none⟩=some (.int .u32 v)/\w'.cell? ⟨b,o,none⟩=some (.int .i64 x)) (first|exact ⟨c0,c1,c2,c3⟩|exact ⟨d0,d1,d2,d3⟩) (first|((with_reducible refine cW.mono ?_);intro e w2 hq;unfold C4 at hq;obtain ⟨rfl,q',hq',hP,hW,hC⟩:=hq;have d0:=((Wr.refl q.F w).drew.trans hW λ_ _ e=>e).cell c0 HE.out.1;have d1:=((Wr.refl q.F w).drew.trans hW λ_ _ e=>e).cell c1 HE.out.2.1;have d2:=((Wr.refl q.F w).drew.trans hW λ_ _ e=>e).cell c2 HE.out.2.2.1;have d3:=((Wr.refl q.F w).drew.trans hW λ_ _ e=>e).cell c3 HE.out.2.2.2;have HT:=Qw (Qz hq' (Qz hP (Qz hW hC)));clear hq' hP hW hC))
 go_wp2;go_ret;obtain ⟨g1,g2,g3,g4⟩:=HT.out;exact ⟨rfl,q',g1,g2,(Wr.refl q.F w).drew.trans g3 λ_ _ e=>e,g4⟩
structure Mid (wq:World) (q:Pl) (t:Int) (P b o n cap:Nat) (x v:Int) (W:World) (q':Pl) (hs vs:List Int):Prop where
 plan:PlanAt W q' t hs vs
 bx:Bx W P b o n cap q'.p x v
 pq:q'.p=q.p
 wr:Wr q.F wq W
 came:Came wq q.F q'.F
 far:P+1+1<wq.heap.size/\b<wq.heap.size/\¬ q.F P/\¬ q.F (P+1)/\¬ q.F (P+1+1)/\¬ q.F b
def Kg (wq:World) (q:Pl) (t:Int) (P b o n cap:Nat) (x v:Int) (hs vs:List Int) (q0:Pl) (W0:World) (r:Value) (e:Ending) (W:World):Prop:=∃ q',e= .returned r/\Mid wq q t P b o n cap x v W q' hs vs/\Wr q0.F W0 W/\Came W0 q0.F q'.F
namespace Mid
variable {wq:World} {q:Pl} {t:Int} {P b o n cap:Nat} {x v:Int} {W W':World} {q':Pl} {hs vs:List Int}
theorem after (h:Mid wq q t P b o n cap x v W q' hs vs) (k:Wr Nil W W'):Mid wq q t P b o n cap x v W' q' hs vs:=
 ⟨h.plan.after k,h.bx.wrote k id id id id,h.pq,h.wr.trans k λ_ _ e=>e.elim,h.came,h.far⟩
theorem off (h:Mid wq q t P b o n cap x v W q' hs vs) {k:Nat} (hk:k<wq.heap.size) (hn:¬ q.F k):¬ q'.F k:=λe=>by
 rcases h.came k e with e|e
 ·exact hn e
 ·omega
theorem word (h:Mid wq q t P b o n cap x v W q' hs vs) (n1:1<=n) (n2:n<=64) (hL:hs.length<=1000000) (k:Wr Nil W W'):
  Calls prog 49 #[.pointer (some ⟨P,0,none⟩),.pointer (some ⟨P+1,0,none⟩),.pointer (some ⟨P+1+1,0,none⟩)] W' (Kg wq q t P b o n cap x v (hs++[x]) (vs++[v]) q' W' (.int .i64 (hs.length:Nat))):=by
 have h':=h.after k;obtain ⟨f1,f2,f3,f4,f5,f6⟩:=h.far;have o1:=h'.off (show P<wq.heap.size by omega) f3;have o2:=h'.off (show P+1<wq.heap.size by omega) f4;have o3:=h'.off f1 f5;have o4:=h'.off f2 f6;refine (VH h'.plan h'.bx n1 n2 hL o1 o2 o3 o4).mono ?_;rintro e w2 ⟨rfl,q2,e2,hP,hW,hC⟩;refine ⟨q2,rfl,⟨hP,?_,e2.trans h'.pq,h'.wr.trans hW λk hk e=> ?_,h'.came.trans hC h'.wr.size,h.far⟩,hW,hC⟩
 ·rw [e2];exact h'.bx.wrote hW o1 o2 o3 o4
 ·rcases h'.came k e with e|e
  ·exact e
  ·omega
end Mid
theorem iA:(prog.info? 232).map (λi=>(i.zero,i.size,i.bytes))=some (some (.agg #[.int .u32 0,.bool false]),2,8):=by kernel_rfl
theorem DZ (n:Nat):madeCells (Value.agg #[.int .u32 0,.bool false]).cells (n*2)=(BS n (λ_=>0) (λ_=>false)).toArray:=by
 apply Array.ext';show (madeCells (#[.int .u32 0,.bool false]:Array Value) (n*2)).toList=BS n (λ_=>0) (λ_=>false);apply List.ext_getElem?;intro m;by_cases hm:m<n*2
 ·have ha:m/2<n:=by omega
  have e:m=m/2*2+m%2:=by omega
  have h2:=BB n (λ_=>0) (λ_=>false) (k:=m/2) ha (j:=m%2) (Nat.mod_lt _ (by decide));exact zz7l
 ·rw [List.getElem?_eq_none (by simp [madeCells];omega),List.getElem?_eq_none (by unfold BS;rw [CF (Ah _ _),List.length_range];omega)]
def Ej (w:World) (q:Pl) (t:Int) (hs vs:List Int) (n:Nat) (x v:Int) (e:Ending) (w':World):Prop:=
 ∃ (L:Lp) (q':Pl),e= .returned (.tuple #[.pointer (some ⟨L.lb,0,none⟩),.int .i64 0])/\FlRaw w' L (.pointer none) (AQ n false true) (λ_=>0) (λ_=>false)/\
  (w.heap.size<=L.lb/\w.heap.size<=L.p/\w.heap.size<=L.b/\w.heap.size<=L.tb)/\L.a1=hs.length/\L.a2=hs.length+1/\q'.p=q.p/\PlanAt w' q' t (hs++[x]++[x]) (vs++[v]++[v])/\Wr q.F w w'/\Came w q.F q'.F
theorem DA {w X wq W:World} {q q':Pl} {t:Int} {hs vs:List Int} {P b o n cap p sb tb:Nat} {x v:Int} {A:Array Value} (h:PlanAt w q t hs vs) (E_:Wr Nil w X) (hS:SeatAt wq p sb (AQ n false true)) (hp:X.heap.size<=p) (Eg:X.heap.size<=sb) (hW:Wr Nil X wq)
  (hM:Mid wq q t P b o n cap x v W q' (hs++[x]++[x]) (vs++[v]++[v])) (hA:(BS n (λ_=>0) (λ_=>false)).toArray=A) (hT:W.heap[tb]? =some (.cells A 232 (0,0))) (ht:wq.heap.size<=tb)
  (Y:World) (hY:Y=W.alloc (.cells #[.pointer (some ⟨p,0,none⟩),.pointer none,.int .i64 (hs.length:Nat),.int .i64 ((hs.length:Nat)+1),.slice (some ⟨tb,0,none⟩) n n] 114)) (lb:Nat) (hlb:lb=W.heap.size) (r:Value) (hr:r= .tuple #[.pointer (some ⟨lb,0,none⟩),.int .i64 0]):
  Ej w q t hs vs n x v (.returned r) Y:=by
 subst hr hlb hY hA;have s1:=E_.size;have s2:=hW.size;have hF:∀ k,w.heap.size<=k->¬ q.F k:=λk hk e=>by have:=h.lt e;omega
 have Xh:=hS.wrote hM.wr (hF p (by omega)) (hF sb (by omega));have lp:=A2 Xh.obj;have oM:=A2 Xh.ctx;have mO:=A2 hT;have oL:=A2 hS.obj;have mK:=A2 hS.ctx;have k:Wr Nil W (W.alloc (.cells #[.pointer (some ⟨p,0,none⟩),.pointer none,.int .i64 (hs.length:Nat),.int .i64 ((hs.length:Nat)+1),.slice (some ⟨tb,0,none⟩) n n] 114)):=(Wr.refl _ W).alloc _;have s3:=hM.wr.size;have hne:=hS.ne;refine ⟨⟨W.heap.size,p,sb,tb,hs.length,(hs.length:Int)+1,⟨0,0,0,0,0,0,0,0,0,0,0,0,.pointer none⟩,[]⟩,q',rfl,⟨blk_alloc_new W _,Xh.after k,(k.block tb mO id).trans hT,⟨by dsimp only;omega,by dsimp only;omega,by dsimp only;omega,by dsimp only;omega,by dsimp only;omega⟩,λ_=>by decide⟩,⟨by dsimp only;omega,by dsimp only;omega,by dsimp only;omega,by dsimp only;omega⟩,rfl,rfl,hM.pq,hM.plan.after k,?_,?_⟩
 ·exact ((E_.nil hW).mono λ_ _ e=>e.elim).trans (hM.wr.trans k λ_ _ e=>e.elim) λ_ _ e=>e
 ·exact λj hj=>by
   rcases hM.came j hj with e|e
   ·exact .inl e
   ·exact .inr (by omega)
theorem Cv {w:World} {q:Pl} {t:Int} {hs vs:List Int} (h:PlanAt w q t hs vs) {b o n cap:Nat} {zs:List Int} {v:Int} (hr:Ad .i64 w (some ⟨b,o,none⟩) n zs) (ho:A8 zs=true) (n1:1<=n) (n2:n<=64) (hL:hs.length<=900000) (hb:¬ q.F b) (hv:0<=v/\v<4294967296):
  Calls prog 34 #[.pointer (some ⟨q.p,0,none⟩),.slice (some ⟨b,o,none⟩) n cap,.int .u32 v] w (Ej w q t hs vs n (zs.getD 0 0) v):=by
 obtain ⟨i0,hi,hz0,hz1,hz2⟩:=info_parts iA;have hmk:∀ w:World,(Instr.makeSlice 112 (.int .i64 (n:Int)) (.int .i64 (n:Int))).run prog w= .ok (.slice (some ⟨w.heap.size,0,none⟩) n n) (w.alloc (.cells (BS n (λ_=>0) (λ_=>false)).toArray 232)):=by
  intro w;have h:=Go.run_make (P:=prog) w 112 232 i0 _ underlying112 hi hz0 .i64 .i64 n n (by omega) (by omega) (by rw [hz2];omega) (by omega);exact zz2o
 obtain ⟨x,hx⟩:∃ x,x=zs.getD 0 0:=⟨_,rfl⟩
 rw [<-hx];generalize hA:(BS n (λ_=>0) (λ_=>false)).toArray=A at hmk;have hc:=hr.cell ⟨b,o,none⟩ rfl 0 (by omega);have hc:w.cell? ⟨b,o,none⟩=some (.int .i64 x):=by rw [hx];exact hc
 obtain ⟨X,hX⟩:∃ X,X=((w.alloc (.cells #[.pointer (some ⟨q.p,0,none⟩)] 62)).alloc (.cells #[.slice (some ⟨b,o,none⟩) n cap] 22)).alloc (.cells #[.int .u32 v] 23):=⟨_,rfl⟩
 have E_:Wr Nil w X:=by rw [hX];exact (((Wr.refl _ _).alloc _).alloc _).alloc _
 have c0:X.cell? ⟨w.heap.size,0,none⟩=some (.pointer (some ⟨q.p,0,none⟩)):=by rw [A1 (show X.heap[w.heap.size]? =some (.cells #[.pointer (some ⟨q.p,0,none⟩)] 62 (0,0)) by rw [hX,blk_alloc_lt _ _ _ (by rw [nblk_alloc,nblk_alloc];omega),blk_alloc_lt _ _ _ (by rw [nblk_alloc];omega),blk_alloc_new])];rfl
 have c1:X.cell? ⟨w.heap.size+1,0,none⟩=some (.slice (some ⟨b,o,none⟩) n cap):=by
  have e:(w.alloc (.cells #[.pointer (some ⟨q.p,0,none⟩)] 62)).heap.size=w.heap.size+1:=nblk_alloc _ _;rw [A1 (show X.heap[w.heap.size+1]? =some (.cells #[.slice (some ⟨b,o,none⟩) n cap] 22 (0,0)) by rw [hX,<-e,blk_alloc_lt _ _ _ (by rw [nblk_alloc _ (.cells #[.slice (some ⟨b,o,none⟩) n cap] 22)];omega),blk_alloc_new])];rfl
 have c2:X.cell? ⟨w.heap.size+1+1,0,none⟩=some (.int .u32 v):=by
  have e:((w.alloc (.cells #[.pointer (some ⟨q.p,0,none⟩)] 62)).alloc (.cells #[.slice (some ⟨b,o,none⟩) n cap] 22)).heap.size=w.heap.size+1+1:=by rw [nblk_alloc,nblk_alloc]
  rw [A1 (show X.heap[w.heap.size+1+1]? =some (.cells #[.int .u32 v] 23 (0,0)) by rw [hX,<-e,blk_alloc_new])];rfl
 have hB:Bx X w.heap.size b o n cap q.p x v:=⟨c0,c1,c2,E_.old hc⟩
 have cS:=EY (cap:=cap) (hr.after E_) ho false true n1 n2;have Fy:b<w.heap.size:=World.block_lt_of_cell? w _ hc;have HX:=Qw (Qz hX (Qz E_ (Qz h (Qz hB (Qz hr (Qz ho (Qz hA Fy)))))));clear hX E_ h hB hr hc ho hA Fy hx
 go_in
 go_wp2_with (first
  |(go_at_call 48;rw [<-HX.out.1];(with_reducible refine cS.mono ?_);intro e wq hq;unfold Br at hq;obtain ⟨p,sb,rfl,hS,hp,Eg,hW⟩:=hq;have b1:=hW.old c1;have HS:=Qw (Qz hS (Qz hp (Qz Eg hW)));clear hS hp Eg hW))
 have hM:Mid wq q t w.heap.size b o n cap x v wq q hs vs:=by
  obtain ⟨hX,E_,h,hB,hr,ho,hA,Fy⟩:=HX.out;have hW:=HS.out.2.2.2;have hsz:X.heap.size=w.heap.size+1+1+1:=by rw [hX,nblk_alloc,nblk_alloc,nblk_alloc]
  have hs2:=hW.size;have hn:∀ k,w.heap.size<=k->¬ q.F k:=λk hk e=>by have:=h.lt e;omega
  exact ⟨(h.after E_).after hW,hB.wrote hW id id id id,rfl,Wr.refl _ _,Came.refl _ _,by omega,by omega,hn _ (Nat.le_refl _),hn _ (by omega),hn _ (by omega),hb⟩
 have cW:=λW (k:Wr Nil wq W)=>hM.word n1 n2 (by omega) k;clear hM
 go_region_held3 (λw'=>w'.cell? ⟨w.heap.size+1,0,none⟩=some (.slice (some ⟨b,o,none⟩) n cap)) (first|exact b1|exact i1|exact i2|go_keep) (first
  |((with_reducible refine (cW _ (by first|exact (Wr.refl _ _).drew|exact ((Wr.refl _ _).drew).alloc _|exact ((Wr.refl _ _).alloc _).drew)).mono ?_);intro e w2 hq;unfold Kg at hq;obtain ⟨q1,rfl,LL,FW,J9⟩:=hq;clear cW;have cX:=λW (k:Wr Nil w2 W)=>LL.word n1 n2 (by simp;omega) k;have i1:=LL.bx.c1;have HM:=Qw (Qz LL (Qz FW J9));clear LL FW J9)
  |((with_reducible refine (cX _ (by first|exact (Wr.refl _ _)|exact (Wr.refl _ _).drew|exact ((Wr.refl _ _).drew).alloc _|exact (Wr.refl _ _).alloc _)).mono ?_);intro e w3 hq;unfold Kg at hq;obtain ⟨q2,rfl,Jr,hF2,Gj⟩:=hq;clear cX;have i2:=Jr.bx.c1;have Rb:=Qw (Qz Jr hF2);clear Jr hF2 Gj))
 all_goals
  go_wp2
  go_ret2
  obtain ⟨hX,E_,h,hB,hr,ho,hA,Fy⟩:=HX.out;obtain ⟨hS,hp,Eg,hW⟩:=HS.out;obtain ⟨LL,FW,J9⟩:=HM.out;obtain ⟨Jr,hF2⟩:=Rb.out
  first
   |exact DA h E_ hS hp Eg hW (Jr.after ((Wr.refl Nil w3).alloc (.cells A 232))) hA (blk_alloc_new w3 _) (by have:=Jr.wr.size;omega) _ rfl _ (nblk_alloc w3 _).symm _ rfl
   |exact DA h E_ hS hp Eg hW Jr hA (tb:=w2.heap.size) ((hF2.block w2.heap.size (Nat.lt_of_lt_of_eq (Nat.lt_succ_self _) (nblk_alloc w2 _).symm) (λe=>by have:=LL.plan.lt e;omega)).trans (blk_alloc_new w2 _)) (by have:=LL.wr.size;omega) _ rfl _ rfl _ rfl
   |exact DA h E_ hS hp Eg hW Jr hA (tb:=wq.heap.size) ((hF2.block wq.heap.size (Nat.lt_of_lt_of_le (Nat.lt_of_lt_of_eq (Nat.lt_succ_self _) (nblk_alloc wq _).symm) FW.size) (λe=>by
     have hz:(wq.alloc (.cells A 232)).heap.size=wq.heap.size+1:=nblk_alloc wq _;rcases J9 _ e with e|e
     ·have:=h.lt e;have:=E_.size;have:=hW.size;omega
     ·have e':(wq.alloc (.cells A 232)).heap.size<=wq.heap.size:=e
      omega)).trans ((FW.block wq.heap.size (Nat.lt_of_lt_of_eq (Nat.lt_succ_self _) (nblk_alloc wq _).symm) (λe=>by have:=h.lt e;have:=E_.size;have:=hW.size;omega)).trans (blk_alloc_new wq _))) (Nat.le_refl _) _ rfl _ rfl _ rfl
open _root_.Go.Proofs.Tryz
def Low (L:Lp) (k:Nat):Prop:=k<L.q.k3
theorem LkAt.low {w w':World} {L:Lp} {f:FL} (h:LkAt w L f) (k:Wr (LF L) w w'):Wr (Low L) w w':=k.mono λb _ e=>zz1h
structure LkS (w0 w:World) (L:Lp) (f:FL):Prop where
 lk:LkAt w L f
 low:w0.heap.size<=L.lb/\w0.heap.size<=L.p/\w0.heap.size<=L.b/\w0.heap.size<=L.tb/\w0.heap.size<=L.q.k0
 wr:Wr Nil w0 w
namespace LkS
variable {w0 w w':World} {L:Lp} {f f':FL}
theorem after (h:LkS w0 w L f) (k:Wr Nil w w'):LkS w0 w' L f:=⟨h.lk.after k,h.low,h.wr.nil k⟩
theorem apart {S:Nat->Prop} (h:LkS w0 w L f) (k:Wr S w w') (hS:∀ b,S b->L.q.k3<=b):LkS w0 w' L f:=zzn
theorem Hy (h:LkS w0 w L f) {k:Nat} (hk:LF L k):w0.heap.size<=k:=zz23
theorem call (h:LkS w0 w L f) (hl:LkAt w' L f') (k:Wr (LF L) w w'):LkS w0 w' L f':=⟨hl,h.low,h.wr.trans k λb hb e=>by have:=h.Hy e;unfold Nil;omega⟩
theorem cell0 (h:LkS w0 w L f):w.cell? ⟨L.lb,0,none⟩=some (.pointer (some ⟨L.p,0,none⟩)):=h.lk.raw.cell0
end LkS
def Bf (w0 w:World) (L:Lp) (f:FL) (v:Value) (e:Ending) (w':World):Prop:=e= .returned v/\LkS w0 w' L f/\Wr (Low L) w w'
section
variable {w0 w:World} {L:Lp} {f:FL}
theorem Cr (h:LkS w0 w L f) (t d:Int):Calls prog 127 #[.pointer (some ⟨L.p,0,none⟩),.int .i64 t,.int .i64 d] w (Bf w0 w L (f.lock t d) (.int .i64 (BZ f.s t d))):=
 (Eo h.lk.raw.seat t d).mono λe w' ⟨he,hS,hW⟩=>⟨he,h.call (h.lk.seats hS (SS.Bz _ _ _) hW) (CH hW),h.lk.low (CH hW)⟩
theorem Bt (h:LkS w0 w L f) (t:Int):Calls prog 131 #[.pointer (some ⟨L.p,0,none⟩),.int .i64 t] w (Bf w0 w L (f.turn t 3) (.int .i64 (BR f.s t))):=
 (DJ h.lk.raw.seat t).mono λe w' ⟨he,hS,hW⟩=>⟨he,h.call (h.lk.seats hS (SS.Bu _ _ _) hW) (CH hW),h.lk.low (CH hW)⟩
theorem Cs (h:LkS w0 w L f) (t u x:Int) (hD:f.ps.D.length<4611686018427387904):Calls prog 130 #[.pointer (some ⟨L.lb,0,none⟩),.int .i64 t,.int .i64 u,.int .i64 x] w (Bf w0 w L (f.step L t u) (f.did L t u).val):=
 (CB h.lk t u x hD).mono λe w' ⟨he,hl,hW⟩=>⟨he,h.call hl hW,h.lk.low hW⟩
end
structure G' (w0 w:World) (L:Lp) (f:FL):Prop where
 raw:Ey w L (.pointer none) f
 port:PortAt w L.q L.hs f.ps
 far:L.lb<L.q.k0/\L.p<L.q.k0/\L.b<L.q.k0/\L.tb<L.q.k0
 top:L.q.k3<=w.heap.size
 low:w0.heap.size<=L.lb/\w0.heap.size<=L.p/\w0.heap.size<=L.b/\w0.heap.size<=L.tb/\w0.heap.size<=L.q.k0
 wr:Wr Nil w0 w
theorem Dp {w0 w:World} {L:Lp} {f:FL} (h:G' w0 w L f):
  Calls prog 132 #[.pointer (some ⟨L.lb,0,none⟩),.pointer (some ⟨L.q.p,0,none⟩)] w λe w'=>e= .returned (.tuple #[])/\LkS w0 w' L f/\Wr (Low L) w w':=zz5
theorem DX {w0 w1 w2:World} {L0:Lp} {q:Place} {f:FL} {hs:List Int} (hr:Ey w1 L0 (.pointer none) f) (hl:w0.heap.size<=L0.lb/\w0.heap.size<=L0.p/\w0.heap.size<=L0.b/\w0.heap.size<=L0.tb) (h0:Wr Nil w0 w1)
  (hP:PortAt w2 q hs f.ps) (h1:w1.heap.size<=q.k0) (h2:q.k3<=w2.heap.size) (hW:Wr Nil w1 w2):G' w0 w2 {L0 with q:=q,hs:=hs} f:=zz7g
def Bl (n t:Nat) (v:Int):FL:=⟨AQ n false true,λ_=>0,λ_=>false,Dq t [v,v]⟩
def EP (w0:World) (n:Nat) (v:Int) (L:Lp) (w':World):Prop:=L.a1=0/\L.a2=1/\G' w0 w' L (Bl n n v)
theorem Cn {w0 w w1:World} {q q':Pl} {n:Nat} {x v:Int} {L0:Lp} (h0:Wr Nil w0 w) (hq:∀ k,q.F k->w0.heap.size<=k) (n1:1<=n) (n2:n<=64) (hx:FO x=true) (hv:0<=v/\v<4294967296)
  (hR:FlRaw w1 L0 (.pointer none) (AQ n false true) (λ_=>0) (λ_=>false)) (hl:w.heap.size<=L0.lb/\w.heap.size<=L0.p/\w.heap.size<=L0.b/\w.heap.size<=L0.tb) (h1:L0.a1=0) (h2:L0.a2=1) (Eu:q'.p=q.p) (hP:PlanAt w1 q' n [x,x] [v,v]) (hW:Wr q.F w w1):
  Calls prog 26 #[.pointer (some ⟨q.p,0,none⟩)] w1 λe w'=>∃ L:Lp,e= .returned (.tuple #[.pointer (some ⟨L.q.p,0,none⟩),.int .i64 0])/\EP w0 n v L w'/\L.lb=L0.lb/\L.hs=[x,x]:=by
 have ho:A8 [x,x]=true:=by simp [A8,hx]
 have c:=Ch hP (λj=>by
  match j with
  |0=>exact hv
  |1=>exact hv
  |_+2=>simp) n1 n2 (by simp) ho
 rw [Eu] at c;refine c.mono ?_;rintro e w' ⟨qq,rfl,hA,Ly,Gn,Ba⟩;have s0:=h0.size;refine ⟨{L0 with q:=qq,hs:=[x,x]},rfl,⟨h1,h2,?_⟩,rfl,rfl⟩;exact DX (f:=Bl n n v) hR (by omega) (h0.trans hW λk hk e=>by have:=hq k e;unfold Nil;omega) hA Ly Gn Ba
end Go.Proofs.YtmnephejhkfchaaGreat.Kf

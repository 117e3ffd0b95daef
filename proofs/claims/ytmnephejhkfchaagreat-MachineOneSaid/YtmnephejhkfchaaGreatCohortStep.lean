
import Derived.Test.YtmnephejhkfchaaGreatCohLeaves
namespace Go.Proofs.YtmnephejhkfchaaGreat
set_option maxHeartbeats 8000000
open _root_.Go.Proofs.Tryz
open Go.RowKit Go.BigFrame
set_option linter.unusedVariables false
set_option maxRecDepth 100000
def kU (x p l:Int):Nat:=
 if x=1 then (if p=0 then (if l=0 then 80 else 83) else if p=1 then 84 else if p=2 then 88 else 93)
 else if x=3 then (if p=0 then 87 else if p=1 then 92 else if p=2 then 100 else if p=3 then 91 else if p=4 then 99 else 107)
 else if x=2 then 87 else 80
def DB (f:FL) (t:Nat):Value:= .func (.func (kU (f.s.st t) (f.ph t) ((f.Lc (f.nd t)).s.st (f.own t)))) #[] #[]
theorem Oi (s:SS) {k j:Nat} (ev:Int) (h:j≠k):(s.fin (k:Nat) ev).st j=s.st j:=by
 unfold SS.fin;exact zz5e
theorem TD (s:SS) {k j:Nat} (d:Int) (h:j≠k):(s.lock (k:Nat) d).st j=s.st j:=by
 unfold SS.lock;exact zz5e
theorem U' (s:SS) {k j:Nat} (x:Int) (h:j≠k):(s.turn (k:Nat) x).st j=s.st j:=by
 unfold SS.turn;exact zz5e
theorem LV (f:FL) (c:Nat):(f.lk c).s=(f.Lc c).s:=Inn.JR _
theorem Ud (f:FL) (k:Nat) {j:Nat} (h:j≠f.own k):(f.ask k).s.st j=(f.Lc (f.nd k)).s.st j:=by
 unfold FL.ask;split
 ·rw [Inn.Hz,LV];exact TD _ _ h
 ·rw [LV]
theorem PY {g:Nat->Inn} {c c' j:Nat} {y:Inn} (h:c'=c->y.s.st j=(g c).s.st j):((upd g c y) c').s.st j=(g c').s.st j:=by
 by_cases e:c'=c
 ·subst e;rw [upd_same];exact h rfl
 ·rw [A0 _ _ e]
theorem Vt (f:FL) (L:Lp) (k:Nat) (u:Int) {c j:Nat} (h:c≠f.nd k\/j≠f.own k):((f.mid L k u).Lc c).s.st j=(f.Lc c).s.st j:=by
 have hj:c=f.nd k->j≠f.own k:=λe=>h.resolve_left λq=>q e;unfold FL.mid FL.acq FL.rel;simp only [Int.toNat_natCast]
 repeat' split
 all_goals first
  |rfl
  |exact PY λe=>by rw [Inn.DF,Oi _ _ (hj e)];first|exact Ud f k (hj e)|rw [LV]
  |exact PY λe=>by rw [Inn.Fv,U' _ _ (hj e)]
theorem TJ (f:FL) (L:Lp) (k:Nat) (u:Int) {t:Nat} (h:t≠k):(f.mid L k u).ph t=f.ph t:=by
 unfold FL.mid FL.acq FL.rel;simp only [Int.toNat_natCast]
 repeat' split
 all_goals first|rfl|exact A0 _ _ h
theorem Tv {f:FL} {L:Lp} {ga:Nat} {la:Nat->Nat} {H:Nat->Option Nat} {V:Nat->List Nat} {gg:Option Nat} {Wg:List Nat} (hJ:OrdJ f ga la H V gg Wg) {k t:Nat} (hk:k<f.s.n) (ht:t<f.s.n) (h:t≠k) (u:Int):DB (f.step L k u) t=DB f t:=by
 obtain ⟨e1,e2,e3,e4⟩:=f.CO L k u;have a1:(f.step L k u).s.st t=f.s.st t:=Oi _ _ h;have a2:(f.step L k u).ph t=f.ph t:=by
  show (if Gd f.s k (f.did L k u).ev=true then upd (f.mid L k u).ph (k:Int).toNat 0 else (f.mid L k u).ph) t=_;split
  ·rw [A0 _ _ (by simpa using h)];exact TJ f L k u h
  ·exact TJ f L k u h
 have a3:(f.step L k u).nd=f.nd:=e2;have a4:(f.step L k u).own=f.own:=e3;have a5:((f.step L k u).Lc (f.nd t)).s.st (f.own t)=(f.Lc (f.nd t)).s.st (f.own t):=by
  refine Vt f L k u ?_;by_cases q:f.nd t=f.nd k
  ·exact .inr λe=>h (hJ.Ae.inj t k ht hk q e)
  ·exact .inl q
 unfold DB;rw [a1,a2,a3,a4,a5]
section
variable {w:World} {L:Lp} {f:FL} {ga:Nat} {la:Nat->Nat} {H:Nat->Option Nat} {V:Nat->List Nat} {gg:Option Nat} {Wg:List Nat}
theorem EX {f1:FL} {iI:Nat->Value} {v:Value} {k:Nat} {e:Ending} {w':World} (hJ:OrdJ f ga la H V gg Wg) (hk:k<f.s.n) (hp:A_ w L f1 iI v e w') (hv:v=(f.did L k k).val) (hm:∃ p,f.mid L k k={f1 with ph:=p})
  (hn:∀ t,t≠k->iI t=DB f t) (m7:iI k=DB (f.step L k k) k):A_ w L (f.mid L k k) (DB (f.step L k k)) (f.did L k k).val e w':=by
 obtain ⟨rfl,h1,h2⟩:=hp;obtain ⟨p,hm⟩:=hm;have hs:f1.s=f.s:=by have:=(f.CO L k k).1;rw [hm] at this;exact this
 refine ⟨by rw [hv],?_,h2⟩;rw [hm];refine (h1.same λt ht=> ?_).EA p;rw [hs] at ht;by_cases q:t=k
 ·subst q;exact m7
 ·rw [hn t q,Tv hJ hk ht q]
theorem EW {F:Nat} {f':FL} {nx nx':Nat->Value} {d:Dd} (hF:∀ (args:Array Value) (w:World),(callFunc F args).run prog w= .ok (.enter F args) w) (h:LkM w L f nx) {k:Nat} (hk:k<f.s.n) (u:Int) (hn:nx k= .func (.func F) #[] #[])
  (cF:∀ W,LkM W L f nx->Calls prog F #[.pointer (some ⟨L.lb,0,none⟩),.pointer (some ⟨L.tb,k*4,none⟩),.int .i64 u] W (A_ W L f' nx' d.val)):
  Calls prog 210 #[.pointer (some ⟨L.lb,0,none⟩),.int .i64 (k:Nat),.int .i64 u] w (A_ w L f' nx' d.val):=by
 have Yv:=Fr.start h;obtain ⟨Z,hZ⟩:∃ Z,Z=w.alloc (.cells #[.int .i64 0,.bool false,.bool false,.bool false] 102):=⟨_,rfl⟩
 rw [<-hZ] at Yv;have c13:=Yv.lk.raw.XW;have cN:=Yv.lk.raw.Oe hk;rw [hn] at cN;rw [hZ] at c13;have cF:=cF _ Yv.lk;have Cy:(k:Int)<f.s.n:=by omega
 have DL:=h.raw.seat.n2;have HE:=Qw (Qz h (Qz hk Yv));have HZ:=Qw hZ;rw [hZ] at cN;clear h Yv hn hZ
 go_in
 go_wp2_with ((rw [<-HZ.out];with_reducible refine cF.mono ?_);intro e w2 hq;unfold A_ at hq;obtain ⟨rfl,hA,hW⟩:=hq;dsimp only [Dd.val];have h3:=Fr.call HE.out.1 HE.out.2.2 hA hW;obtain ⟨v0,v1,v2,v3⟩:=h3.cell;obtain ⟨x0,x1,x2,x3⟩:=h3.Am;have HU:=Qw h3;clear h3 hA hW)
 refine bodyPost_ret (v:=Dd.val d) (results_cell_row rfl _ _ w.heap.size 102 _ (0,0) _ rfl (AO HU.out.res rfl _ _ _ _) underlying102 rfl AB) rfl (HU.out.told HE.out.1 d)
theorem S8 (args:Array Value) (w:World):(callFunc 80 args).run prog w= .ok (.enter 80 args) w:=by kernel_rfl
theorem Ps (args:Array Value) (w:World):(callFunc 83 args).run prog w= .ok (.enter 83 args) w:=by kernel_rfl
theorem SA (args:Array Value) (w:World):(callFunc 84 args).run prog w= .ok (.enter 84 args) w:=by kernel_rfl
theorem NP (args:Array Value) (w:World):(callFunc 88 args).run prog w= .ok (.enter 88 args) w:=by kernel_rfl
theorem S_ (args:Array Value) (w:World):(callFunc 93 args).run prog w= .ok (.enter 93 args) w:=by kernel_rfl
theorem Pq (args:Array Value) (w:World):(callFunc 87 args).run prog w= .ok (.enter 87 args) w:=by kernel_rfl
theorem Uu (args:Array Value) (w:World):(callFunc 92 args).run prog w= .ok (.enter 92 args) w:=by kernel_rfl
theorem S9 (args:Array Value) (w:World):(callFunc 100 args).run prog w= .ok (.enter 100 args) w:=by kernel_rfl
theorem Uv (args:Array Value) (w:World):(callFunc 91 args).run prog w= .ok (.enter 91 args) w:=by kernel_rfl
theorem Pt (args:Array Value) (w:World):(callFunc 99 args).run prog w= .ok (.enter 99 args) w:=by kernel_rfl
theorem Pr (args:Array Value) (w:World):(callFunc 107 args).run prog w= .ok (.enter 107 args) w:=by kernel_rfl
end
section
variable {w:World} {L:Lp} {f:FL} {ga:Nat} {la:Nat->Nat} {H:Nat->Option Nat} {V:Nat->List Nat} {gg:Option Nat} {Wg:List Nat} {k:Nat}
theorem CA {f:FL} {k:Nat} {x p l:Int} (hx:f.s.st k=x) (hp:f.ph k=p) (hl:(f.Lc (f.nd k)).s.st (f.own k)=l) {F:Nat} (e:kU x p l=F):DB f k= .func (.func F) #[] #[]:=by
 unfold DB;rw [hx,hp,hl,e]
theorem nB {nx:Nat->Value} {a b:Value}:∀ t,t≠k->upd (upd nx k a) k b t=nx t:=λt ht=>by rw [A0 _ _ ht,A0 _ _ ht]
theorem UB {nx:Nat->Value} {a:Value}:∀ t,t≠k->upd nx k a t=nx t:=λt ht=>A0 _ _ ht
theorem NH (hJ:OrdJ f ga la H V gg Wg) (hk:k<f.s.n) (s1:f.s.st k=1) (p0:f.ph k=0):((f.Lc (f.nd k)).s.st (f.own k)=0\/(f.Lc (f.nd k)).s.st (f.own k)=1)/\(f.ask k).s.st (f.own k)=1/\(((f.ask k).did (f.la (f.nd k):Nat) (f.own k:Nat) (k:Nat)).ev=0\/((f.ask k).did (f.la (f.nd k):Nat) (f.own k:Nat) (k:Nat)).ev=1):=by
 have ho:=hJ.own k hk;have hl:(f.Lc (f.nd k)).s.st (f.own k)=0\/(f.Lc (f.nd k)).s.st (f.own k)=1:=by
  have hx:=hJ.Ae.cx k hk;cases hx with
  |loc hx hp hl=>exact hl
  |_=>omega
 have ya:(f.ask k).s.st (f.own k)=1/\(f.ask k).s.n=(f.Lc (f.nd k)).s.n:=by
  unfold FL.ask;rcases hl with e|e
  ·rw [Qj e,Inn.Hz,LV,LX ho e,upd_same]
   exact ⟨rfl,SS.Bz _ _ _⟩
  ·rw [Qq (by omega),LV]
   exact ⟨e,rfl⟩
 exact ⟨hl,ya.1,((Inn.D_ (x:=f.ask k) (k:=f.own k) (u:=k) (f.la (f.nd k):Nat) (by rw [ya.2];exact ho)).1 ya.1).1⟩
theorem PI (hJ:OrdJ f ga la H V gg Wg) (hk:k<f.s.n) (s1:f.s.st k=1) (p0:f.ph k=0):DB (f.step L k k) k=(if ((f.ask k).did (f.la (f.nd k):Nat) (f.own k:Nat) (k:Nat)).ev=1 then (.func (.func 84) #[] #[]) else (.func (.func 83) #[] #[]):Value):=by
 obtain ⟨hl,ya,hd⟩:=NH hJ hk s1 p0;obtain ⟨ed,em⟩:=OrdJ.at_one (L:=L) (u:=(k:Int)) hk s1;have Es:(f.did L k k).ev=0:=by rw [ed];unfold FL.A7;rw [Qj p0]
 have Hh:f.mid L k k={f with Lc:=upd f.Lc (f.nd k) ((f.ask k).step (f.la (f.nd k):Nat) (f.own k:Nat) (k:Nat)),ph:=upd f.ph k ((f.ask k).did (f.la (f.nd k):Nat) (f.own k:Nat) (k:Nat)).ev,ps:=((f.ask k).step (f.la (f.nd k):Nat) (f.own k:Nat) (k:Nat)).ps}:=by rw [em];unfold FL.acq;rw [Qj p0]
 have es:=OrdJ.Bg (L:=L) (u:=(k:Int)) (k:=k) Es Hh (by rw [s1];rfl);rw [es];rcases hd with e|e
 ·rw [Qq (by omega)]
  refine CA (x:=1) (p:=0) (l:=1) (by exact s1) ?_ ?_ rfl
  ·show upd f.ph k _ k=0
   rw [upd_same,e]
  ·show (upd f.Lc (f.nd k) _ (f.nd k)).s.st (f.own k)=1
   rw [upd_same,Inn.DF,e,(Dl (by rw [ya];rfl)).1];exact ya
 ·rw [Qj e]
  refine CA (x:=1) (p:=1) (by exact s1) ?_ rfl rfl;show upd f.ph k _ k=1;rw [upd_same,e]
theorem Sj (h:LkM w L f (DB f)) (hJ:OrdJ f ga la H V gg Wg) (hk:k<f.s.n) (s1:f.s.st k=1) (p0:f.ph k=0) (hD:f.ps.D.length<4611686018427387904) (l0:(f.Lc (f.nd k)).s.st (f.own k)=0):Calls prog 210 #[.pointer (some ⟨L.lb,0,none⟩),.int .i64 (k:Nat),.int .i64 (k:Nat)] w (A_ w L (f.mid L k k) (DB (f.step L k k)) (f.did L k k).val):=by
 obtain ⟨hl,ya,hd⟩:=NH hJ hk s1 p0;obtain ⟨ed,em⟩:=OrdJ.at_one (L:=L) (u:=(k:Int)) hk s1;have hst:=PI (L:=L) hJ hk s1 p0;obtain ⟨f1,VW⟩:∃ f1,f1=({f with Lc:=upd f.Lc (f.nd k) ((f.Lc (f.nd k)).lock (f.own k:Nat) (-1))}:FL):=⟨_,rfl⟩
 have ea:f1.lk (f1.nd k)=f.ask k:=by
  rw [VW];unfold FL.ask FL.lk;rw [Qj l0];show (upd f.Lc (f.nd k) _ (f.nd k)).on f.ps=_;rw [upd_same,Inn.P6]
 have e1:f1.la (f1.nd k)=f.la (f.nd k)/\f1.own k=f.own k:=by rw [VW];exact ⟨rfl,rfl⟩
 refine (EW S8 h hk k (CA s1 p0 l0 rfl) λW q=>SG q hk k hD VW).mono λe w' hp=>EX hJ hk hp ?_ ?_ ?_ ?_
 ·rw [ea,e1.1,e1.2,ed]
  unfold FL.A7;rw [Qj p0]
 ·refine ⟨upd f.ph k ((f.ask k).did (f.la (f.nd k):Nat) (f.own k:Nat) (k:Nat)).ev,?_⟩
  rw [ea,e1.1,e1.2,em];unfold FL.acq;rw [Qj p0,VW];show _=({f with Lc:=upd (upd f.Lc (f.nd k) _) (f.nd k) _,ph:=_,ps:=_}:FL)
  rw [BF]
 ·intro t ht
  split
  ·exact nB t ht
  ·exact UB t ht
 ·rw [hst,ea,e1.1,e1.2]
  split
  ·rw [upd_same]
  ·rw [upd_same]
theorem QB (h:LkM w L f (DB f)) (hJ:OrdJ f ga la H V gg Wg) (hk:k<f.s.n) (s1:f.s.st k=1) (p0:f.ph k=0) (hD:f.ps.D.length<4611686018427387904) (l1:(f.Lc (f.nd k)).s.st (f.own k)≠0):Calls prog 210 #[.pointer (some ⟨L.lb,0,none⟩),.int .i64 (k:Nat),.int .i64 (k:Nat)] w (A_ w L (f.mid L k k) (DB (f.step L k k)) (f.did L k k).val):=by
 obtain ⟨hl,ya,hd⟩:=NH hJ hk s1 p0;obtain ⟨ed,em⟩:=OrdJ.at_one (L:=L) (u:=(k:Int)) hk s1;have hst:=PI (L:=L) hJ hk s1 p0;have ea:f.lk (f.nd k)=f.ask k:=by unfold FL.ask;rw [Qq l1]
 have l2:(f.Lc (f.nd k)).s.st (f.own k)=1:=by omega
 have h0:DB f k=(.func (.func 83) #[] #[]):=CA s1 p0 l2 rfl;refine (EW Ps h hk k h0 λW q=>Jy q hk k hD).mono λe w' hp=>EX hJ hk hp ?_ ?_ ?_ ?_
 ·rw [ea,ed]
  unfold FL.A7;rw [Qj p0]
 ·refine ⟨upd f.ph k ((f.ask k).did (f.la (f.nd k):Nat) (f.own k:Nat) (k:Nat)).ev,?_⟩
  rw [ea,em];unfold FL.acq;rw [Qj p0]
 ·exact zz5u
 ·rw [hst,ea]
  split
  ·rw [upd_same]
  ·exact h0
theorem Sm (h:LkM w L f (DB f)) (hJ:OrdJ f ga la H V gg Wg) (hk:k<f.s.n) (s1:f.s.st k=1) (p1:f.ph k=1) (hD:f.ps.D.length<4611686018427387904):Calls prog 210 #[.pointer (some ⟨L.lb,0,none⟩),.int .i64 (k:Nat),.int .i64 (k:Nat)] w (A_ w L (f.mid L k k) (DB (f.step L k k)) (f.did L k k).val):=by
 obtain ⟨ed,em⟩:=OrdJ.at_one (L:=L) (u:=(k:Int)) hk s1;unfold FL.A7 at ed;unfold FL.acq at em;rw [Qq (by omega),Qj p1] at ed em;have h0:DB f k=(.func (.func 84) #[] #[]):=CA s1 p1 rfl rfl;refine (EW SA h hk k h0 λW q=>SW q hk k hD).mono λe w' hp=>EX hJ hk hp ?_ ?_ ?_ ?_
 ·rw [ed]
 ·rw [em]
  split
  ·exact ⟨_,rfl⟩
  ·exact ⟨f.ph,rfl⟩
 ·intro t ht
  split<;>exact UB t ht
 ·by_cases hv:(A6 f.ps (k:Nat) 1 (L.pA (f.nd k)))=0
  ·rw [Qj hv,upd_same]
   rw [Qj hv] at ed em;have es:=OrdJ.Bg (L:=L) (u:=(k:Int)) (k:=k) (by rw [ed]) em (by rw [s1];rfl);rw [es];exact (CA (x:=1) (p:=2) (by exact s1) (upd_same _ _ _) rfl rfl).symm
  ·rw [Qq hv,upd_same]
   rw [Qq hv] at ed em;have es:=OrdJ.F7 (L:=L) (u:=(k:Int)) (k:=k) (y:=2) hk (by rw [ed]) em (by rw [s1];rfl);rw [es];exact zz6k
theorem NT (h:LkM w L f (DB f)) (hJ:OrdJ f ga la H V gg Wg) (hk:k<f.s.n) (s1:f.s.st k=1) (p2:f.ph k=2) (hD:f.ps.D.length<4611686018427387904):Calls prog 210 #[.pointer (some ⟨L.lb,0,none⟩),.int .i64 (k:Nat),.int .i64 (k:Nat)] w (A_ w L (f.mid L k k) (DB (f.step L k k)) (f.did L k k).val):=by
 obtain ⟨ed,em⟩:=OrdJ.at_one (L:=L) (u:=(k:Int)) hk s1;unfold FL.A7 at ed;unfold FL.acq at em;rw [Qq (by omega),Qq (by omega),Qj p2] at ed em;have h0:DB f k=(.func (.func 88) #[] #[]):=CA s1 p2 rfl rfl;have hc:=hJ.Ae.K9 k hk;have hg:f.G.s.st (f.nd k)=1:=by
  have hx:=hJ.Ae.cx k hk;cases hx with
  |Cw hx hp hl hq he=>exact he
  |_=>omega
 have hd:=((Inn.D_ (x:=f.gl) (k:=f.nd k) (u:=k) (f.ga:Nat) (by unfold FL.gl;rw [Inn.JR,hJ.gn];exact hc)).1 (by unfold FL.gl;rw [Inn.JR];exact hg)).1;have es:=OrdJ.Bg (L:=L) (u:=(k:Int)) (k:=k) (by rw [ed]) em (by rw [s1];rfl);refine (EW NP h hk k h0 λW q=>NQ q hk k hD).mono λe w' hp=>EX hJ hk hp ?_ ?_ ?_ ?_
 ·rw [ed]
 ·rw [em];exact ⟨_,rfl⟩
 ·exact zz5u
 ·rw [es]
  rcases hd with e|e
  ·rw [Qq (by omega)]
   exact h0.trans (CA (x:=1) (p:=2) (by exact s1) ((upd_same _ _ _).trans (by rw [e];rfl)) rfl rfl).symm
  ·rw [Qj e,upd_same]
   exact (CA (x:=1) (p:=3) (by exact s1) ((upd_same _ _ _).trans (by rw [e];rfl)) rfl rfl).symm
theorem Sl (h:LkM w L f (DB f)) (hJ:OrdJ f ga la H V gg Wg) (hk:k<f.s.n) (s1:f.s.st k=1) (p3:f.ph k=3) (hD:f.ps.D.length<4611686018427387904):Calls prog 210 #[.pointer (some ⟨L.lb,0,none⟩),.int .i64 (k:Nat),.int .i64 (k:Nat)] w (A_ w L (f.mid L k k) (DB (f.step L k k)) (f.did L k k).val):=by
 obtain ⟨ed,em⟩:=OrdJ.at_one (L:=L) (u:=(k:Int)) hk s1;unfold FL.A7 at ed;unfold FL.acq at em;rw [Qq (by omega),Qq (by omega),Qq (by omega)] at ed em;have h0:DB f k=(.func (.func 93) #[] #[]):=CA s1 p3 rfl rfl;have es:=OrdJ.F7 (L:=L) (u:=(k:Int)) (k:=k) (y:=2) hk (by rw [ed]) em (by rw [s1];rfl);refine (EW S_ h hk k h0 λW q=>SP q hk k hD).mono λe w' hp=>EX hJ hk hp ?_ ?_ UB ?_
 ·rw [ed]
 ·rw [em];exact ⟨f.ph,rfl⟩
 ·rw [es,upd_same]
  exact zz6k
theorem Q_ (h:LkM w L f (DB f)) (hJ:OrdJ f ga la H V gg Wg) (hk:k<f.s.n) (s3:f.s.st k=3) (p0:f.ph k=0) (hD:f.ps.D.length<4611686018427387904):Calls prog 210 #[.pointer (some ⟨L.lb,0,none⟩),.int .i64 (k:Nat),.int .i64 (k:Nat)] w (A_ w L (f.mid L k k) (DB (f.step L k k)) (f.did L k k).val):=by
 obtain ⟨ed,em⟩:=OrdJ.B6 (L:=L) (u:=(k:Int)) hk s3;unfold FL.AX at ed;unfold FL.rel at em;rw [Qj p0] at ed em;have h0:DB f k=(.func (.func 87) #[] #[]):=CA s3 p0 rfl rfl;have es:=λm em=>OrdJ.Bg (L:=L) (u:=(k:Int)) (k:=k) (m:=m) (by rw [ed]) em (by rw [s3];rfl);refine (EW Pq h hk k h0 λW q=>Py q hk k hD).mono λe w' hp=>EX hJ hk hp ?_ ?_ ?_ ?_
 ·rw [ed]
 ·rw [em]
  split
  ·exact ⟨_,rfl⟩
  ·exact ⟨_,rfl⟩
 ·intro t ht
  split<;>exact UB t ht
 ·by_cases hv:(A6 f.ps (k:Nat) 1 (L.pA (f.nd k)))<f.CJ
  ·rw [Qj hv,upd_same]
   rw [Qj hv] at em;rw [es _ em];exact (CA (x:=3) (p:=1) (by exact s3) (upd_same _ _ _) rfl rfl).symm
  ·rw [Qq hv,upd_same]
   rw [Qq hv] at em;rw [es _ em];exact (CA (x:=3) (p:=3) (by exact s3) (upd_same _ _ _) rfl rfl).symm
theorem VM (h:LkM w L f (DB f)) (hJ:OrdJ f ga la H V gg Wg) (hk:k<f.s.n) (s3:f.s.st k=3) (p1:f.ph k=1) (hD:f.ps.D.length<4611686018427387904):Calls prog 210 #[.pointer (some ⟨L.lb,0,none⟩),.int .i64 (k:Nat),.int .i64 (k:Nat)] w (A_ w L (f.mid L k k) (DB (f.step L k k)) (f.did L k k).val):=by
 obtain ⟨ed,em⟩:=OrdJ.B6 (L:=L) (u:=(k:Int)) hk s3;unfold FL.AX at ed;unfold FL.rel at em;rw [Qq (by omega),Qj p1] at ed em;have h0:DB f k=(.func (.func 92) #[] #[]):=CA s3 p1 rfl rfl;have hg:(f.Lc (f.nd k)).s.st (f.own k)=4:=by
  have hx:=hJ.Ae.cx k hk;cases hx with
  |u1 hx hp hl he q1 q2 hg=>exact hl
  |_=>omega
 have hd:=((Inn.D_ (x:=f.lk (f.nd k)) (k:=f.own k) (u:=k) (f.la (f.nd k):Nat) (by rw [LV];exact hJ.own k hk)).2.2.1 (by rw [LV];exact hg)).1;have es:=OrdJ.Bg (L:=L) (u:=(k:Int)) (k:=k) (by rw [ed]) em (by rw [s3];rfl);refine (EW Uu h hk k h0 λW q=>V5 q hk k hD).mono λe w' hp=>EX hJ hk hp ?_ ?_ ?_ ?_
 ·rw [ed]
 ·rw [em];exact ⟨_,rfl⟩
 ·intro t ht
  split<;>exact UB t ht
 ·rw [es]
  rcases hd with e|e
  ·rw [Qj e,upd_same]
   exact (CA (x:=3) (p:=3) (by exact s3) ((upd_same _ _ _).trans (Qq (by omega))) rfl rfl).symm
  ·rw [Qq (by omega),upd_same]
   exact (CA (x:=3) (p:=2) (by exact s3) ((upd_same _ _ _).trans (Qj e)) rfl rfl).symm
theorem Sk (h:LkM w L f (DB f)) (hJ:OrdJ f ga la H V gg Wg) (hk:k<f.s.n) (s3:f.s.st k=3) (p2:f.ph k=2) (hD:f.ps.D.length<4611686018427387904):Calls prog 210 #[.pointer (some ⟨L.lb,0,none⟩),.int .i64 (k:Nat),.int .i64 (k:Nat)] w (A_ w L (f.mid L k k) (DB (f.step L k k)) (f.did L k k).val):=by
 obtain ⟨ed,em⟩:=OrdJ.B6 (L:=L) (u:=(k:Int)) hk s3;unfold FL.AX at ed;unfold FL.rel at em;rw [Qq (by omega),Qq (by omega),Qj p2] at ed em;have h0:DB f k=(.func (.func 100) #[] #[]):=CA s3 p2 rfl rfl;have hg:0<=f.got k/\f.got k<=1000000:=by
  have hx:=hJ.Ae.cx k hk;have hb:=hJ.CJ;cases hx with
  |u2 hx hp hl he q1 q2 hg hv=>omega
  |_=>omega
 have es:=OrdJ.Bg (L:=L) (u:=(k:Int)) (k:=k) (by rw [ed]) em (by rw [s3];rfl);refine (EW S9 h hk k h0 λW q=>SK q hk k hD hg).mono λe w' hp=>EX hJ hk hp ?_ ?_ UB ?_
 ·rw [ed]
 ·rw [em];exact ⟨_,rfl⟩
 ·rw [es,upd_same]
  exact zz6r
theorem VN (h:LkM w L f (DB f)) (hJ:OrdJ f ga la H V gg Wg) (hk:k<f.s.n) (s3:f.s.st k=3) (p3:f.ph k=3) (hD:f.ps.D.length<4611686018427387904):Calls prog 210 #[.pointer (some ⟨L.lb,0,none⟩),.int .i64 (k:Nat),.int .i64 (k:Nat)] w (A_ w L (f.mid L k k) (DB (f.step L k k)) (f.did L k k).val):=by
 obtain ⟨ed,em⟩:=OrdJ.B6 (L:=L) (u:=(k:Int)) hk s3;unfold FL.AX at ed;unfold FL.rel at em;rw [Qq (by omega),Qq (by omega),Qq (by omega),Qj p3] at ed em;have h0:DB f k=(.func (.func 91) #[] #[]):=CA s3 p3 rfl rfl;have es:=OrdJ.Bg (L:=L) (u:=(k:Int)) (k:=k) (by rw [ed]) em (by rw [s3];rfl);refine (EW Uv h hk k h0 λW q=>EF q hk k hD).mono λe w' hp=>EX hJ hk hp ?_ ?_ UB ?_
 ·rw [ed]
 ·rw [em];exact ⟨_,rfl⟩
 ·rw [es,upd_same]
  exact (CA (x:=3) (p:=4) (by exact s3) (upd_same _ _ _) rfl rfl).symm
theorem QC (h:LkM w L f (DB f)) (hJ:OrdJ f ga la H V gg Wg) (hk:k<f.s.n) (s3:f.s.st k=3) (p4:f.ph k=4) (hD:f.ps.D.length<4611686018427387904):Calls prog 210 #[.pointer (some ⟨L.lb,0,none⟩),.int .i64 (k:Nat),.int .i64 (k:Nat)] w (A_ w L (f.mid L k k) (DB (f.step L k k)) (f.did L k k).val):=by
 obtain ⟨ed,em⟩:=OrdJ.B6 (L:=L) (u:=(k:Int)) hk s3;unfold FL.AX at ed;unfold FL.rel at em;rw [Qq (by omega),Qq (by omega),Qq (by omega),Qq (by omega),Qj p4] at ed em;have h0:DB f k=(.func (.func 99) #[] #[]):=CA s3 p4 rfl rfl;have es:=λm em=>OrdJ.Bg (L:=L) (u:=(k:Int)) (k:=k) (m:=m) (by rw [ed]) em (by rw [s3];rfl);refine (EW Pt h hk k h0 λW q=>Q7 q hk k hD).mono λe w' hp=>EX hJ hk hp ?_ ?_ ?_ ?_
 ·rw [ed]
 ·rw [em]
  split
  ·exact ⟨_,rfl⟩
  ·exact ⟨f.ph,rfl⟩
 ·exact zz5u
 ·by_cases hv:(f.gl.did (f.ga:Nat) (f.nd k:Nat) (k:Nat)).ev=3
  ·rw [Qj hv,upd_same]
   rw [Qj hv] at em;rw [es _ em];exact zz6r
  ·rw [Qq hv]
   rw [Qq hv] at em;rw [es _ em];exact h0.trans (CA (x:=3) (p:=4) (by exact s3) (by exact p4) rfl rfl).symm
theorem QA (h:LkM w L f (DB f)) (hJ:OrdJ f ga la H V gg Wg) (hk:k<f.s.n) (s3:f.s.st k=3) (p5:f.ph k=5) (hD:f.ps.D.length<4611686018427387904):Calls prog 210 #[.pointer (some ⟨L.lb,0,none⟩),.int .i64 (k:Nat),.int .i64 (k:Nat)] w (A_ w L (f.mid L k k) (DB (f.step L k k)) (f.did L k k).val):=by
 obtain ⟨ed,em⟩:=OrdJ.B6 (L:=L) (u:=(k:Int)) hk s3;unfold FL.AX at ed;unfold FL.rel at em;rw [Qq (by omega),Qq (by omega),Qq (by omega),Qq (by omega),Qq (by omega)] at ed em;have h0:DB f k=(.func (.func 107) #[] #[]):=CA s3 p5 rfl rfl;have hg:(f.Lc (f.nd k)).s.st (f.own k)=3:=by
  have hx:=hJ.Ae.cx k hk;cases hx with
  |u5 hx hp hl h=>exact hl
  |_=>omega
 have hd:=((Inn.D_ (x:=f.lk (f.nd k)) (k:=f.own k) (u:=k) (f.la (f.nd k):Nat) (by rw [LV];exact hJ.own k hk)).2.1 (by rw [LV];exact hg)).1;refine (EW Pr h hk k h0 λW q=>Q5 q hk k hD).mono λe w' hp=>EX hJ hk hp ?_ ?_ ?_ ?_
 ·rw [ed]
  rcases hd with e|e
  ·rw [Qq (by omega),e];rfl
  ·rw [Qj e,e]
 ·rw [em];exact ⟨f.ph,rfl⟩
 ·exact zz5u
 ·rcases hd with e|e
  ·rw [Qq (by omega)]
   have es:=OrdJ.Bg (L:=L) (u:=(k:Int)) (k:=k) (by rw [ed,e]) em (by rw [s3];rfl);rw [es];exact h0.trans (CA (x:=3) (p:=5) (by exact s3) (by exact p5) rfl rfl).symm
  ·rw [Qj e,upd_same]
   have es:=OrdJ.F7 (L:=L) (u:=(k:Int)) (k:=k) (y:=0) hk (by rw [ed,e]) em (by rw [s3];rfl);rw [es];exact (CA (x:=0) (p:=0) (upd_same _ _ _) (upd_same _ _ _) rfl rfl).symm
theorem ZY (h:LkM w L f (DB f)) (hJ:OrdJ f ga la H V gg Wg) (hk:k<f.s.n) (hs:f.s.st k=1\/f.s.st k=3) (hD:f.ps.D.length<4611686018427387904):Calls prog 210 #[.pointer (some ⟨L.lb,0,none⟩),.int .i64 (k:Nat),.int .i64 (k:Nat)] w (A_ w L (f.mid L k k) (DB (f.step L k k)) (f.did L k k).val):=by
 have hx:=hJ.Ae.cx k hk;rcases hs with s1|s3
 ·have hp:f.ph k=0\/f.ph k=1\/f.ph k=2\/f.ph k=3:=by cases hx<;>omega
  rcases hp with p|p|p|p
  ·by_cases l:(f.Lc (f.nd k)).s.st (f.own k)=0
   ·exact Sj h hJ hk s1 p hD l
   ·exact QB h hJ hk s1 p hD l
  ·exact Sm h hJ hk s1 p hD
  ·exact NT h hJ hk s1 p hD
  ·exact Sl h hJ hk s1 p hD
 ·have hp:f.ph k=0\/f.ph k=1\/f.ph k=2\/f.ph k=3\/f.ph k=4\/f.ph k=5:=by cases hx<;>omega
  rcases hp with p|p|p|p|p|p
  ·exact Q_ h hJ hk s3 p hD
  ·exact VM h hJ hk s3 p hD
  ·exact Sk h hJ hk s3 p hD
  ·exact VN h hJ hk s3 p hD
  ·exact QC h hJ hk s3 p hD
  ·exact QA h hJ hk s3 p hD
end
open _root_.Go.Proofs.Tryz Go.Deep
section
variable {w X Y:World} {B C:Nat} {L:Lp} {f g f0:FL} {nx nx' W7:Nat->Value} {d:Dd}
theorem Fd.ends {s':SS} (h0:LkM w L f0 W7) (h:Fd w B X L g nx C d) (hS:SeatAt Y L.p L.b s') (hn:s'.n=g.s.n) (k:Wr (One L.b) X Y):Fd w B Y L {g with s:=s'} nx C d:=
 h.call h0 (h.fr.lk.seats hS hn k) (CH h.fr.lk k)
theorem Fd.EA (h:Fd w B X L f nx C d) (ph:Nat->Int):Fd w B X L {f with ph:=ph} nx C d:=⟨⟨h.fr.lk.EA ph,h.fr.wr,h.fr.res,h.fr.new⟩,h.did,h.far,h.ne⟩
end
theorem C5 {w:World} {L:Lp} {f:FL} {nx:Nat->Value} (h:LkM w L f nx) (cs:Array Value):
  Fd w (w.heap.size+1) (((w.alloc (.cells cs 229)).alloc (.cells #[.int .i64 0,.bool false,.bool false,.bool false] 102)).alloc (.cells #[.int .i64 0,.bool false,.bool false,.bool false] 102)) L f nx (w.heap.size+1+1) Dd.no/\
  (((w.alloc (.cells cs 229)).alloc (.cells #[.int .i64 0,.bool false,.bool false,.bool false] 102)).alloc (.cells #[.int .i64 0,.bool false,.bool false,.bool false] 102)).heap[w.heap.size]? =some (.cells cs 229 (0,0)):=zz3
section
variable {w:World} {L:Lp} {f:FL} {ga:Nat} {la:Nat->Nat} {H:Nat->Option Nat} {V:Nat->List Nat} {gg:Option Nat} {Wg:List Nat}
theorem Ow (h:LkM w L f (DB f)) (hJ:OrdJ f ga la H V gg Wg) {k:Nat} (hk:k<f.s.n) (hs:f.s.st k=1\/f.s.st k=3) (hD:f.ps.D.length<4611686018427387904):
  Calls prog 136 #[.pointer (some ⟨L.p,0,none⟩),.int .i64 (k:Nat),.int .i64 (k:Nat),.agg #[Value.func (.func 210) #[.pointer (some ⟨L.lb,0,none⟩)] #[],Value.func (.func 210) #[.pointer (some ⟨L.lb,0,none⟩)] #[],Value.nilFunc]] w (A_ w L (f.step L k k) (DB (f.step L k k)) (f.did L k k).val):=by
 obtain ⟨hF,hB⟩:=C5 h #[Value.func (.func 210) #[.pointer (some ⟨L.lb,0,none⟩)] #[],Value.func (.func 210) #[.pointer (some ⟨L.lb,0,none⟩)] #[],Value.nilFunc];obtain ⟨Z,hZ⟩:∃ Z,Z=((w.alloc (.cells #[Value.func (.func 210) #[.pointer (some ⟨L.lb,0,none⟩)] #[],Value.func (.func 210) #[.pointer (some ⟨L.lb,0,none⟩)] #[],Value.nilFunc] 229)).alloc (.cells #[.int .i64 0,.bool false,.bool false,.bool false] 102)).alloc (.cells #[.int .i64 0,.bool false,.bool false,.bool false] 102):=⟨_,rfl⟩
 rw [<-hZ] at hF hB;have b0:Z.cell? ⟨w.heap.size,0,none⟩=some (Value.func (.func 210) #[.pointer (some ⟨L.lb,0,none⟩)] #[]):=(A1 hB 0).trans rfl;have b1:Z.cell? ⟨w.heap.size,1,none⟩=some (Value.func (.func 210) #[.pointer (some ⟨L.lb,0,none⟩)] #[]):=(A1 hB 1).trans rfl;have cS:=De hF.fr.lk.raw.seat (k:Int);obtain ⟨v0,v1,v2,v3⟩:=hF.fr.cell;obtain ⟨x0,x1,x2,x3⟩:=hF.fr.Am;obtain ⟨p0,p1,p2,p3⟩:=hF.cell;have hn:=h.raw.seat.n2;have ht:(0:Int)<=(k:Int)/\(k:Int)<f.s.n:=by omega
 have eS:f.s.FD (k:Int)=f.s.st k:=by unfold SS.FD;rw [Qj ht,Int.toNat_natCast]
 rw [eS] at cS;have es:=(f.CO L k k).1;have cA:=ZY hF.fr.lk hJ hk hs hD;generalize DB (f.step L k k)=nx' at*;obtain ⟨P,hP⟩:∃ P,f.step L k k={f.mid L k k with s:=f.s.fin k (f.did L k k).ev,ph:=P}:=⟨_,rfl⟩
 rw [hP];clear hP;generalize f.mid L k k=g at*;generalize f.did L k k=d at*;have HE:=Qw (Qz h (Qz hF es));have HZ:=Qw hZ;clear h hF eS hB es hZ hJ ht;rcases hs with hs|hs
 all_goals
  rw [hs] at cS;clear hs;generalize f.s.n=n at*
  go_in
  go_wp2_with (first
   |(go_at_call 129;rw [<-HZ.out];(with_reducible refine cS.mono ?_);rintro e w' ⟨rfl,rfl⟩)
   |((with_reducible refine cA.mono ?_);intro e w2 hq;unfold A_ at hq;obtain ⟨rfl,hA,hW⟩:=hq;dsimp only [Dd.val];have AJ:=HE.out.2.1.call HE.out.1 hA hW;obtain ⟨p0,p1,p2,p3⟩:=AJ.cell;obtain ⟨y0,y1,y2,y3⟩:=AJ.Am;have hK:=AJ.keep HE.out.1 d;have cE:=Bb hK.fr.lk.raw.seat (k:Int) d.ev;rw [HE.out.2.2] at cE;have HK:=Qw hK;clear hA AJ hK hW)
   |((with_reducible refine cE.mono ?_);intro e w3 hq;unfold Ag at hq;obtain ⟨rfl,hS,hW⟩:=hq;have hY:=(HK.out.ends HE.out.1 hS (by rw [HE.out.2.2];exact f.s.Bv _ _) hW).EA P;obtain ⟨e0,e1,e2,e3⟩:=hY.cell;obtain ⟨v0,v1,v2,v3⟩:=hY.fr.cell;obtain ⟨x0,x1,x2,x3⟩:=hY.fr.Am;have HT:=Qw hY;clear hY hS hW))
  refine bodyPost_ret (v:=Dd.val d) (results_cell_row rfl _ _ (w.heap.size+1) 102 _ (0,0) _ rfl (AO HT.out.fr.res rfl _ _ _ _) underlying102 rfl AB) rfl (HT.out.fr.told HE.out.1 d)
theorem Ox (h:LkM w L f (DB f)) (t u:Int) (h1:f.s.FD t≠1) (h3:f.s.FD t≠3) (h4:f.s.FD t≠4) (hf:f.s.fin t 0=f.s):
  Calls prog 136 #[.pointer (some ⟨L.p,0,none⟩),.int .i64 t,.int .i64 u,.agg #[Value.func (.func 210) #[.pointer (some ⟨L.lb,0,none⟩)] #[],Value.func (.func 210) #[.pointer (some ⟨L.lb,0,none⟩)] #[],Value.nilFunc]] w (A_ w L f (DB f) Dd.no.val):=by
 obtain ⟨hF,hB⟩:=C5 h #[Value.func (.func 210) #[.pointer (some ⟨L.lb,0,none⟩)] #[],Value.func (.func 210) #[.pointer (some ⟨L.lb,0,none⟩)] #[],Value.nilFunc];obtain ⟨Z,hZ⟩:∃ Z,Z=((w.alloc (.cells #[Value.func (.func 210) #[.pointer (some ⟨L.lb,0,none⟩)] #[],Value.func (.func 210) #[.pointer (some ⟨L.lb,0,none⟩)] #[],Value.nilFunc] 229)).alloc (.cells #[.int .i64 0,.bool false,.bool false,.bool false] 102)).alloc (.cells #[.int .i64 0,.bool false,.bool false,.bool false] 102):=⟨_,rfl⟩
 rw [<-hZ] at hF hB;have cS:=De hF.fr.lk.raw.seat t;obtain ⟨v0,v1,v2,v3⟩:=hF.fr.cell;obtain ⟨x0,x1,x2,x3⟩:=hF.fr.Am;obtain ⟨p0,p1,p2,p3⟩:=hF.cell;have cE:=Bb hF.fr.lk.raw.seat t Dd.no.ev;rw [show f.s.fin t Dd.no.ev=f.s from hf] at cE;generalize DB f=nx at*;have HE:=Qw (Qz h hF);have HZ:=Qw hZ;generalize f.s.FD t=y at*;clear h hF hB hZ hf
 go_in
 go_wp2_with (first
  |(go_at_call 129;rw [<-HZ.out];(with_reducible refine cS.mono ?_);rintro e w' ⟨rfl,rfl⟩)
  |((with_reducible refine cE.mono ?_);intro e w3 hq;unfold Ag at hq;obtain ⟨rfl,hS,hW⟩:=hq;have hY:=HE.out.2.ends HE.out.1 hS rfl hW;obtain ⟨e0,e1,e2,e3⟩:=hY.cell;obtain ⟨v0,v1,v2,v3⟩:=hY.fr.cell;obtain ⟨x0,x1,x2,x3⟩:=hY.fr.Am;have HT:=Qw hY;clear hY hS hW))
 exact zz7
structure LkAt (w:World) (L:Lp) (f:FL):Prop where
 lk:LkM w L f (DB f)
 inv:∃ H V gg Wg,OrdJ f f.ga f.la H V gg Wg
 a1:L.a1=0
theorem FL.PT (f:FL) (L:Lp) (t u:Int):(f.step L t u).ga=f.ga/\(f.step L t u).la=f.la:=by
 show (f.mid L t u).ga=_/\(f.mid L t u).la=_;unfold FL.mid FL.acq FL.rel
 repeat' split
 all_goals exact ⟨rfl,rfl⟩
theorem LkAt.steps {w w':World} (h:LkAt w L f) (t:Int) (hm:LkM w' L (f.step L t t) (DB (f.step L t t))):LkAt w' L (f.step L t t):=by
 obtain ⟨H,V,gg,Wg,hJ⟩:=h.inv;obtain ⟨H',V',RS,Rf,lY⟩:=hJ.step h.a1 t;refine ⟨hm,⟨H',V',RS,Rf,?_⟩,h.a1⟩;rw [(f.PT L t t).1,(f.PT L t t).2];exact lY
theorem Cq (h:LkAt w L f) (t:Int) (hD:f.ps.D.length<4611686018427387904):
  Calls prog 136 #[.pointer (some ⟨L.p,0,none⟩),.int .i64 t,.int .i64 t,.agg #[Value.func (.func 210) #[.pointer (some ⟨L.lb,0,none⟩)] #[],Value.func (.func 210) #[.pointer (some ⟨L.lb,0,none⟩)] #[],Value.nilFunc]] w (A_ w L (f.step L t t) (DB (f.step L t t)) (f.did L t t).val):=by
 obtain ⟨H,V,gg,Wg,hJ⟩:=h.inv;by_cases ht:0<=t/\t<f.s.n
 ·obtain ⟨k,rfl⟩:=Qx ht.1
  have hk:k<f.s.n:=by omega
  have eS:f.s.FD (k:Int)=f.s.st k:=by unfold SS.FD;rw [Qj ht,Int.toNat_natCast]
  by_cases s1:f.s.st k=1
  ·exact Ow h.lk hJ hk (.inl s1) hD
  by_cases s3:f.s.st k=3
  ·exact Ow h.lk hJ hk (.inr s3) hD
  have s4:f.s.st k≠4:=by have hx:=hJ.Ae.cx k hk;cases hx<;>omega
  obtain ⟨e1,e2⟩:=OrdJ.D5 (L:=L) (u:=(k:Int)) hk s1 s3 s4;rw [e1,e2];refine Ox h.lk k k (by rw [eS];exact s1) (by rw [eS];exact s3) (by rw [eS];exact s4) (Dl ?_).1;unfold AH;rw [Qq (by omega),Qq (by omega),Qq (by omega),Qq (by omega)]
 ·obtain ⟨e1,e2⟩:=OrdJ.D6 (L:=L) (u:=t) ht
  rw [e1,e2];have eS:f.s.FD t=0:=Qq ht;refine Ox h.lk t t (by rw [eS];decide) (by rw [eS];decide) (by rw [eS];decide) ?_;unfold SS.fin Bo;rw [Qq ht]
abbrev AP (w:World) (L:Lp) (f:FL) (v:Value) (e:Ending) (w':World):Prop:=e= .returned v/\LkAt w' L f/\Wr (LF L) w w'
theorem CB (h:LkAt w L f) (t x:Int) (hD:f.ps.D.length<4611686018427387904):
  Calls prog 208 #[.pointer (some ⟨L.lb,0,none⟩),.int .i64 t,.int .i64 t,.int .i64 x] w (AP w L (f.step L t t) (f.did L t t).val):=by
 have hst:=λw' hm=>h.steps (w':=w') t hm;have hF:=Fr.start h.lk;obtain ⟨Z,hZ⟩:∃ Z,Z=w.alloc (.cells #[.int .i64 0,.bool false,.bool false,.bool false] 102):=⟨_,rfl⟩
 rw [<-hZ] at hF;have cM:=Cq ⟨hF.lk,h.inv,h.a1⟩ t hD;have c0:=hF.lk.raw.cell0;rw [hZ] at c0;generalize DB (f.step L t t)=nx' at*;generalize f.step L t t=g at*;generalize f.did L t t=d at*;have HE:=Qw (Qz h.lk (Qz hF hst));have HZ:=Qw hZ;clear h hF hZ hst
 go_in
 go_wp2_with (first
  |(go_at_call 136;rw [<-HZ.out];(with_reducible refine cM.mono ?_);intro e w2 hq;unfold A_ at hq;obtain ⟨rfl,hA,hW⟩:=hq;dsimp only [Dd.val];have AJ:=Fr.call HE.out.1 HE.out.2.1 hA hW;obtain ⟨v0,v1,v2,v3⟩:=AJ.cell;obtain ⟨x0,x1,x2,x3⟩:=AJ.Am;have HT:=Qw AJ;clear hA AJ hW))
 refine bodyPost_ret (v:=Dd.val d) (results_cell_row rfl _ _ w.heap.size 102 _ (0,0) _ rfl (AO HT.out.res rfl _ _ _ _) underlying102 rfl AB) rfl ?_;have hT:=HT.out.told HE.out.1 d;exact ⟨hT.1,HE.out.2.2 _ hT.2.1,hT.2.2⟩
end
end Go.Proofs.YtmnephejhkfchaaGreat

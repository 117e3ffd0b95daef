
import Derived.Test.YtmnephejhkfchaaGreatCohortAcc
import Derived.Test.YtmnephejhkfchaaGreatBuF
import Derived.Test.YtmnephejhkfchaaGreatBuC
import Derived.Test.YtmnephejhkfchaaGreatBuM
namespace Go.Proofs.YtmnephejhkfchaaGreat
open _root_.Go.Proofs.Tryz
open Go.RowKit
set_option linter.unusedVariables false
set_option maxRecDepth 100000
def Js:Place:=⟨0,0,0,0,0,0,0,0,0,0,0,0,.slice none 0 0⟩
def Ip.kf (I:Ip) (q:Place) (hs:List Int):Kf.Lp:={lb:=I.lb,p:=I.p,b:=I.b,tb:=I.tb,a1:=(I.a:Nat),a2:=(I.a:Nat)+1,q:=q,hs:=hs}
def Ip.kc (I:Ip) (q:Place) (hs:List Int):Kc.Lp:={lb:=I.lb,p:=I.p,b:=I.b,tb:=I.tb,a1:=(I.a:Nat),a2:=(I.a:Nat)+1,q:=q,hs:=hs}
def Ip.km (I:Ip) (q:Place) (hs:List Int):Km.Lp:={lb:=I.lb,p:=I.p,b:=I.b,tb:=I.tb,a1:=(I.a:Nat),a2:=(I.a:Nat)+1,q:=q,hs:=hs}
def Ip.val (I:Ip):Value:= .iface I.ty (.pointer (some ⟨I.lb,0,none⟩))
namespace Inn
def ty:Inn->Nat
 |tk _=>78
 |cl _=>84
 |mc _=>87
def Jh:Inn->Nat
 |tk _=>132
 |cl _=>151
 |mc _=>161
def DK:Inn->Nat
 |tk _=>130
 |cl _=>150
 |mc _=>160
theorem Ee (x:Inn) (args:Array Value) (w:World):(callFunc x.DK args).run prog w= .ok (.enter x.DK args) w:=by
 cases x with
 |tk f=>show (callFunc 130 args).run prog w= .ok (.enter 130 args) w;kernel_rfl
 |cl f=>show (callFunc 150 args).run prog w= .ok (.enter 150 args) w;kernel_rfl
 |mc f=>show (callFunc 160 args).run prog w= .ok (.enter 160 args) w;kernel_rfl
theorem KY (x:Inn) (args:Array Value) (w:World):(callFunc x.Jh args).run prog w= .ok (.enter x.Jh args) w:=by
 cases x with
 |tk f=>show (callFunc 132 args).run prog w= .ok (.enter 132 args) w;kernel_rfl
 |cl f=>show (callFunc 151 args).run prog w= .ok (.enter 151 args) w;kernel_rfl
 |mc f=>show (callFunc 161 args).run prog w= .ok (.enter 161 args) w;kernel_rfl
def Raw (w:World) (I:Ip) (pv:Value):Inn->Prop
 |tk f=>Kf.Ey w (I.kf Js []) pv f
 |cl f=>Kc.Ey w (I.kc Js []) pv f
 |mc f=>Km.Ey w (I.km Js []) pv f
end Inn
structure InAt (w:World) (I:Ip) (pv:Value) (x:Inn):Prop where
 raw:x.Raw w I pv
 BP:(I.lo<=I.lb/\I.lb<I.hi)/\(I.lo<=I.p/\I.p<I.hi)/\(I.lo<=I.b/\I.b<I.hi)/\I.lo<=I.tb/\I.tb<I.hi
 le:I.hi<=w.heap.size
 ty:x.ty=I.ty
 pr:x.s.Af=true
namespace InAt
variable {w w':World} {I:Ip} {pv:Value} {x:Inn}
theorem wrote {S:Nat->Prop} (h:InAt w I pv x) (k:Wr S w w') (hS:∀ b,I.lo<=b->b<I.hi->¬ S b):InAt w' I pv x:=by
 obtain ⟨a,b,c,d,e⟩:=h;have h1:=hS I.lb b.1.1 b.1.2;have h2:=hS I.p b.2.1.1 b.2.1.2;have h3:=hS I.b b.2.2.1.1 b.2.2.1.2;have h4:=hS I.tb b.2.2.2.1 b.2.2.2.2;exact zz3n
theorem after (h:InAt w I pv x) (k:Wr Nil w w'):InAt w' I pv x:=h.wrote k λ_ _ _=>id
theorem cell0 (h:InAt w I pv x):w.cell? ⟨I.lb,0,none⟩=some (.pointer (some ⟨I.p,0,none⟩)):=by
 have a:=h.raw;cases x with
 |tk f=>exact Kf.FlRaw.cell0 a
 |cl f=>exact Kc.FlRaw.cell0 a
 |mc f=>exact Km.FlRaw.cell0 a
theorem seat (h:InAt w I pv x):SeatAt w I.p I.b x.s:=by
 have a:=h.raw;cases x with
 |tk f=>exact Kf.FlRaw.seat a
 |cl f=>exact Kc.FlRaw.seat a
 |mc f=>exact Km.FlRaw.seat a
theorem BN (h:InAt w I pv x):(method 362 I.ty (.pointer (some ⟨I.lb,0,none⟩)) "Lock").run prog w= .ok (127,.pointer (some ⟨I.p,0,none⟩)) w:=by
 rw [<-h.ty];cases x with
 |tk f=>exact Kf.BN I.lb ⟨I.p,0,none⟩ w h.cell0
 |cl f=>exact Kc.BN I.lb ⟨I.p,0,none⟩ w h.cell0
 |mc f=>exact Km.BN I.lb ⟨I.p,0,none⟩ w h.cell0
theorem Ar (h:InAt w I pv x):(method 362 I.ty (.pointer (some ⟨I.lb,0,none⟩)) "Unlock").run prog w= .ok (131,.pointer (some ⟨I.p,0,none⟩)) w:=by
 rw [<-h.ty];cases x with
 |tk f=>exact Kf.Ar I.lb ⟨I.p,0,none⟩ w h.cell0
 |cl f=>exact Kc.Ar I.lb ⟨I.p,0,none⟩ w h.cell0
 |mc f=>exact Km.Ar I.lb ⟨I.p,0,none⟩ w h.cell0
theorem Dx (h:InAt w I pv x):(method 362 I.ty (.pointer (some ⟨I.lb,0,none⟩)) "Probe").run prog w= .ok (128,.pointer (some ⟨I.p,0,none⟩)) w:=by
 rw [<-h.ty];cases x with
 |tk f=>exact Kf.Dx I.lb ⟨I.p,0,none⟩ w h.cell0
 |cl f=>exact Kc.Dx I.lb ⟨I.p,0,none⟩ w h.cell0
 |mc f=>exact Km.Dx I.lb ⟨I.p,0,none⟩ w h.cell0
theorem BG (h:InAt w I pv x) (w:World):(method 362 I.ty (.pointer (some ⟨I.lb,0,none⟩)) "Step").run prog w= .ok (x.DK,.pointer (some ⟨I.lb,0,none⟩)) w:=by
 rw [<-h.ty];cases x with
 |tk f=>exact Kf.BG ⟨I.lb,0,none⟩ w
 |cl f=>exact Kc.BG ⟨I.lb,0,none⟩ w
 |mc f=>exact Km.BG ⟨I.lb,0,none⟩ w
theorem Bh (h:InAt w I pv x) (w:World):(method 362 I.ty (.pointer (some ⟨I.lb,0,none⟩)) "Use").run prog w= .ok (x.Jh,.pointer (some ⟨I.lb,0,none⟩)) w:=by
 rw [<-h.ty];cases x with
 |tk f=>exact Kf.Bh ⟨I.lb,0,none⟩ w
 |cl f=>exact Kc.Bh ⟨I.lb,0,none⟩ w
 |mc f=>exact Km.Bh ⟨I.lb,0,none⟩ w
theorem D2 (h:InAt w I pv x) (w:World):(nilAhead 362 I.ty (.pointer (some ⟨I.lb,0,none⟩)) "Lock").run prog w= .ok (some false) w:=by
 rw [<-h.ty];cases x with
 |tk f=>exact Kf.D2 ⟨I.lb,0,none⟩ w
 |cl f=>exact Kc.D2 ⟨I.lb,0,none⟩ w
 |mc f=>exact Km.D2 ⟨I.lb,0,none⟩ w
theorem C_ (h:InAt w I pv x) (w:World):(nilAhead 362 I.ty (.pointer (some ⟨I.lb,0,none⟩)) "Unlock").run prog w= .ok (some false) w:=by
 rw [<-h.ty];cases x with
 |tk f=>exact Kf.C_ ⟨I.lb,0,none⟩ w
 |cl f=>exact Kc.C_ ⟨I.lb,0,none⟩ w
 |mc f=>exact Km.C_ ⟨I.lb,0,none⟩ w
theorem Dr (h:InAt w I pv x) (w:World):(nilAhead 362 I.ty (.pointer (some ⟨I.lb,0,none⟩)) "Probe").run prog w= .ok (some false) w:=by
 rw [<-h.ty];cases x with
 |tk f=>exact Kf.Dr ⟨I.lb,0,none⟩ w
 |cl f=>exact Kc.Dr ⟨I.lb,0,none⟩ w
 |mc f=>exact Km.Dr ⟨I.lb,0,none⟩ w
theorem Ce (h:InAt w I pv x) (w:World):(nilAhead 362 I.ty (.pointer (some ⟨I.lb,0,none⟩)) "Step").run prog w= .ok (some false) w:=by
 rw [<-h.ty];cases x with
 |tk f=>exact Kf.Ce ⟨I.lb,0,none⟩ w
 |cl f=>exact Kc.Ce ⟨I.lb,0,none⟩ w
 |mc f=>exact Km.Ce ⟨I.lb,0,none⟩ w
end InAt
def EO (w:World) (I:Ip) (pv:Value) (x:Inn) (v:Value) (e:Ending) (w':World):Prop:=e= .returned v/\InAt w' I pv x/\Wr (Bk I.lo I.hi) w w'
theorem SS.Vj (s:SS) (t d:Int):(s.lock t d).Af=s.Af:=by unfold SS.lock;split<;>rfl
theorem SS.PV (s:SS) (t x:Int):(s.turn t x).Af=s.Af:=by unfold SS.turn;split<;>rfl
theorem SS.Xb (s:SS) (t ev:Int):(s.fin t ev).Af=s.Af:=by unfold SS.fin;split<;>rfl
theorem Inn.Vl (x:Inn) (t d:Int):(x.lock t d).ty=x.ty:=by cases x<;>rfl
theorem Inn.PX (x:Inn) (t d:Int):(x.turn t d).ty=x.ty:=by cases x<;>rfl
theorem Inn.WX (x:Inn) (a t u:Int):(x.step a t u).ty=x.ty:=by cases x<;>rfl
theorem Inn.bJ (x:Inn) (q:AK):(x.on q).ty=x.ty:=by cases x<;>rfl
section
variable {w:World} {I:Ip} {pv:Value} {x:Inn}
theorem K4 {w w':World} {b:Nat} (hb:I.lo<=b/\b<I.hi) (k:Wr (One b) w w'):Wr (Bk I.lo I.hi) w w':=k.mono λj _ e=>by unfold One at e;subst e;exact hb
theorem Oz (h:InAt w I pv x) (t d:Int):Calls prog 127 #[.pointer (some ⟨I.p,0,none⟩),.int .i64 t,.int .i64 d] w (EO w I pv (x.lock t d) (.int .i64 (BZ x.s t d))):=by
 refine (Eo h.seat t d).mono ?_;rintro e w' ⟨rfl,hS,hW⟩;obtain ⟨a,b,c,ty,pr⟩:=h;refine ⟨rfl,⟨?_,b,Nat.le_trans c hW.size,by rw [Inn.Vl];exact ty,by rw [Inn.Hz,SS.Vj];exact pr⟩,K4 b.2.2.1 hW⟩;cases x with
 |tk f=>exact Kf.FlRaw.seats a hS (SS.Bz _ _ _) hW
 |cl f=>exact Kc.FlRaw.seats a hS (SS.Bz _ _ _) hW
 |mc f=>exact Km.FlRaw.seats a hS (SS.TC _ _ _ _) hW
theorem K3 (h:InAt w I pv x) (t:Int):Calls prog 131 #[.pointer (some ⟨I.p,0,none⟩),.int .i64 t] w (EO w I pv (x.turn t 3) (.int .i64 (BR x.s t))):=by
 refine (DJ h.seat t).mono ?_;rintro e w' ⟨rfl,hS,hW⟩;obtain ⟨a,b,c,ty,pr⟩:=h;exact zz2b
theorem T5 (h:InAt w I pv x) (t:Int):Calls prog 128 #[.pointer (some ⟨I.p,0,none⟩),.int .i64 t] w (EO w I pv (x.turn t 4) (.int .i64 (I3 x.s t))):=by
 refine (Tn h.seat t).mono ?_;rintro e w' ⟨rfl,hS,hW⟩;obtain ⟨a,b,c,ty,pr⟩:=h;have hp:x.s.JV t=x.s.turn t 4:=by unfold SS.JV;rw [Qj pr]
 rw [hp] at hS;exact zz2b
theorem T7 (h:InAt w I pv x) (a:Addr):Calls prog x.Jh #[.pointer (some ⟨I.lb,0,none⟩),.pointer (some a)] w (EO w I (.pointer (some a)) x (.tuple #[])):=by
 obtain ⟨r,b,c,ty,pr⟩:=h;have hW:Wr (One I.lb) w (w.setCell ⟨I.lb,1,none⟩ (.pointer (some a))):=(Wr.refl _ w).setCell _ _ λ_=>rfl;cases x with
 |tk f=>
  refine (Kf.Cu r a).mono ?_;rintro e w' ⟨rfl,rfl⟩;exact ⟨rfl,⟨Kf.FlRaw.use r _,b,Nat.le_trans c hW.size,ty,pr⟩,K4 b.1 hW⟩
 |cl f=>
  refine (Kc.Cu r a).mono ?_;rintro e w' ⟨rfl,rfl⟩;exact ⟨rfl,⟨Kc.FlRaw.use r _,b,Nat.le_trans c hW.size,ty,pr⟩,K4 b.1 hW⟩
 |mc f=>
  refine (Km.Cu r a).mono ?_;rintro e w' ⟨rfl,rfl⟩;exact ⟨rfl,⟨Km.FlRaw.use r _,b,Nat.le_trans c hW.size,ty,pr⟩,K4 b.1 hW⟩
def Yr (I:Ip) (q:Place) (k:Nat):Prop:=Bk I.lo I.hi k\/Bk q.k0 q.k3 k
def XR (w:World) (I:Ip) (q:Place) (hs:List Int) (x:Inn) (d:Dd) (e:Ending) (w':World):Prop:=
 e= .returned d.val/\InAt w' I (.pointer (some ⟨q.p,0,none⟩)) x/\PortAt w' q hs x.ps/\Wr (Yr I q) w w'
theorem P4 {q:Place} {hs:List Int} {ps:AK} (h:InAt w I (.pointer (some ⟨q.p,0,none⟩)) x) (hP:PortAt w q hs ps) (hI:I.hi<=q.k0) (hq:q.k3<=w.heap.size) (t u y:Int) (hD:ps.D.length<4611686018427387904):
  Calls prog x.DK #[.pointer (some ⟨I.lb,0,none⟩),.int .i64 t,.int .i64 u,.int .i64 y] w (XR w I q hs ((x.on ps).step (I.a:Nat) t u) ((x.on ps).did (I.a:Nat) t u)):=by
 obtain ⟨r,b,c,ty,pr⟩:=h;have gM:((x.on ps).step (I.a:Nat) t u).s.Af=true:=by rw [Inn.DF,SS.Xb,Inn.JR];exact pr
 have hty:((x.on ps).step (I.a:Nat) t u).ty=I.ty:=by rw [Inn.WX,Inn.bJ];exact ty
 have hmo:∀ (w':World) (S:Nat->Prop),Wr S w w'->(∀ k,S k->k=I.b\/k=I.tb\/Bk q.k0 q.k3 k)->Wr (Yr I q) w w':=λw' S k hS=>k.mono λj _ e=>by
  rcases hS j e with e|e|e
  ·subst e;exact .inl b.2.2.1
  ·subst e;exact .inl b.2.2.2
  ·exact .inr e
 cases x with
 |tk f=>
  have hl:Kf.LkAt w (I.kf q hs) {f with ps:=ps}:=⟨Kf.FlRaw.place r q hs,hP,⟨by show I.lb<q.k0;omega,by show I.p<q.k0;omega,by show I.b<q.k0;omega,by show I.tb<q.k0;omega⟩,hq⟩
  refine (Kf.CB hl t u y hD).mono ?_;rintro e w' ⟨rfl,hL,hW⟩;obtain ⟨e1,e2⟩:=Kf.Hb (L:=I.kf q hs) rfl {f with ps:=ps} t u;rw [e1] at hL;rw [e2];exact ⟨rfl,⟨Kf.FlRaw.place hL.raw Js [],b,Nat.le_trans c hW.size,hty,gM⟩,hL.port,hmo _ _ hW λk e=>e⟩
 |cl f=>
  have hl:Kc.LkAt w (I.kc q hs) {f with ps:=ps}:=⟨Kc.FlRaw.place r q hs,hP,⟨by show I.lb<q.k0;omega,by show I.p<q.k0;omega,by show I.b<q.k0;omega,by show I.tb<q.k0;omega⟩,hq⟩
  refine (Kc.CB hl t u y hD).mono ?_;rintro e w' ⟨rfl,hL,hW⟩;obtain ⟨e1,e2⟩:=Kc.Hb (L:=I.kc q hs) rfl {f with ps:=ps} t u;rw [e1] at hL;rw [e2];exact ⟨rfl,⟨Kc.FlRaw.place hL.raw Js [],b,Nat.le_trans c hW.size,hty,gM⟩,hL.port,hmo _ _ hW λk e=>e⟩
 |mc f=>
  have hl:Km.LkAt w (I.km q hs) {f with ps:=ps}:=⟨Km.FlRaw.place r q hs,hP,⟨by show I.lb<q.k0;omega,by show I.p<q.k0;omega,by show I.b<q.k0;omega,by show I.tb<q.k0;omega⟩,hq⟩
  refine (Km.CB hl t u y hD).mono ?_;rintro e w' ⟨rfl,hL,hW⟩;obtain ⟨e1,e2⟩:=Km.Hb (L:=I.km q hs) rfl {f with ps:=ps} t u;rw [e1] at hL;rw [e2];exact ⟨rfl,⟨Km.FlRaw.place hL.raw Js [],b,Nat.le_trans c hW.size,hty,gM⟩,hL.port,hmo _ _ hW λk e=>e⟩
end
def Og (nd own:Nat->Nat) (nx:Nat->Value) (got:Nat->Int) (t:Nat):List Value:=[.int .i64 (nd t:Nat),.int .i64 (own t:Nat),nx t,.int .u32 (got t)]
theorem Dz (nd own:Nat->Nat) (nx:Nat->Value) (got:Nat->Int):∀ x,(Og nd own nx got x).length=4:=λ_=>rfl
def Ga (n:Nat) (nd own:Nat->Nat) (nx:Nat->Value) (got:Nat->Int):List Value:=(List.range n).flatMap (Og nd own nx got)
theorem FI (n:Nat) (nd own:Nat->Nat) (nx:Nat->Value) (got:Nat->Int) {k:Nat} (hk:k<n) {j:Nat} (hj:j<4):(Ga n nd own nx got)[k*4+j]? =(Og nd own nx got k)[j]? :=Cb (Dz nd own nx got) _ (by rw [List.getElem?_range hk]) hj
theorem GZ {n i t:Nat} (ht:(List.range n)[i]? =some t):i<n/\t=i:=zz7e
theorem Il {l:Nat} (hl:l<4):l=0\/l=1\/l=2\/l=3:=by omega
theorem MA (n:Nat) (nd own:Nat->Nat) (nx:Nat->Value) (got:Nat->Int) (k:Nat) (v:Value):(Ga n nd own nx got).set (k*4+2) v=Ga n nd own (upd nx k v) got:=by
 refine Bi (Dz nd own nx got) (Dz _ _ _ _) _ k 2 (by decide) _ λi t ht l hl=> ?_;exact zz1o
theorem MB (n:Nat) (nd own:Nat->Nat) (nx:Nat->Value) (got:Nat->Int) (k:Nat) (v:Int):(Ga n nd own nx got).set (k*4+3) (.int .u32 v)=Ga n nd own nx (upd got k v):=by
 refine Bi (Dz nd own nx got) (Dz _ _ _ _) _ k 3 (by decide) _ λi t ht l hl=> ?_;exact zz1o
theorem S5 {n:Nat} {nd own:Nat->Nat} {nx nx':Nat->Value} {got:Nat->Int} (h:∀ t,t<n->nx t=nx' t):Ga n nd own nx got=Ga n nd own nx' got:=by
 unfold Ga;rw [List.flatMap_def,List.flatMap_def]
 congr 1
 refine List.map_congr_left λt ht=> ?_;have:=h t (by simpa using ht);unfold Og;rw [this]
def JJ (L:Lp) (c:Nat):Value:=if L.has c=true then (L.li c).val else .nilIface
structure FlRaw (w:World) (L:Lp) (pv pg:Value) (pl:Nat->Value) (f:FL) (nx:Nat->Value):Prop where
 obj:w.heap[L.lb]? =some (.cells #[.pointer (some ⟨L.p,0,none⟩),pv,.int .u32 f.CJ,.int .i64 L.a1,L.gi.val,JJ L 0,JJ L 1,JJ L 2,JJ L 3,JJ L 4,JJ L 5,JJ L 6,JJ L 7,.slice (some ⟨L.tb,0,none⟩) f.s.n f.s.n] 142 (0,0))
 seat:SeatAt w L.p L.b f.s
 tick:w.heap[L.tb]? =some (.cells (Ga f.s.n f.nd f.own nx f.got).toArray 192 (0,0))
 Cw:InAt w L.gi pg f.G
 loc:∀ c,c<8->L.has c=true->InAt w (L.li c) (pl c) (f.Lc c)
 ne:L.lb≠L.b/\L.lb≠L.tb/\L.p≠L.tb/\L.b≠L.tb/\L.lb≠L.p
 low:(L.lo<=L.lb/\L.lb<L.gi.lo)/\(L.lo<=L.p/\L.p<L.gi.lo)/\(L.lo<=L.b/\L.b<L.gi.lo)/\L.lo<=L.tb/\L.tb<L.gi.lo
 sep:(∀ c,c<8->L.has c=true->L.gi.hi<=(L.li c).lo)/\∀ c d,c<8->d<8->L.has c=true->L.has d=true->c≠d->(L.li c).hi<=(L.li d).lo\/(L.li d).hi<=(L.li c).lo
 GL:∀ t,t<f.s.n->f.nd t<8/\L.has (f.nd t)=true
 CM:(0<=L.a1/\L.a1<=2000000)/\L.gi.a=f.ga/\∀ c,c<8->L.has c=true->(L.li c).a=f.la c
 BP:(∀ t,0<=f.got t/\f.got t<4294967296)/\0<=f.CJ/\f.CJ<4294967296
namespace FlRaw
variable {w w':World} {L:Lp} {pv pg:Value} {pl:Nat->Value} {f:FL} {nx:Nat->Value}
theorem Lu (h:FlRaw w L pv pg pl f nx):L.gi.lo<L.gi.hi:=by have:=h.Cw.BP.1;omega
theorem wrote {S:Nat->Prop} (h:FlRaw w L pv pg pl f nx) (k:Wr S w w') (hS:∀ b,L.lo<=b->b<w.heap.size->¬ S b):FlRaw w' L pv pg pl f nx:=by
 have hl:=h.low;have g:=h.Lu;have g2:=h.Cw.le;refine ⟨(k.block _ (A2 h.obj) (hS _ hl.1.1 (A2 h.obj))).trans h.obj,h.seat.wrote k (hS _ hl.2.1.1 (A2 h.seat.obj)) (hS _ hl.2.2.1.1 (A2 h.seat.ctx)),(k.block _ (A2 h.tick) (hS _ hl.2.2.2.1 (A2 h.tick))).trans h.tick,h.Cw.wrote k λb b1 b2=>hS b (by omega) (by omega),λc hc hh=> ?_,h.ne,h.low,h.sep,h.GL,h.CM,h.BP⟩;have s:=h.sep.1 c hc hh;have i:=h.loc c hc hh;have:=i.le;exact i.wrote k λb b1 b2=>hS b (by omega) (by omega)
theorem after (h:FlRaw w L pv pg pl f nx) (k:Wr Nil w w'):FlRaw w' L pv pg pl f nx:=h.wrote k λ_ _ _=>id
theorem other (h:FlRaw w L pv pg pl f nx) (ph:Nat->Int) (ps:AK):FlRaw w L pv pg pl {f with ph:=ph,ps:=ps} nx:=⟨h.obj,h.seat,h.tick,h.Cw,h.loc,h.ne,h.low,h.sep,h.GL,h.CM,h.BP⟩
theorem same (h:FlRaw w L pv pg pl f nx) {nx':Nat->Value} (e:∀ t,t<f.s.n->nx t=nx' t):FlRaw w L pv pg pl f nx':=
 ⟨h.obj,h.seat,by rw [<-S5 e];exact h.tick,h.Cw,h.loc,h.ne,h.low,h.sep,h.GL,h.CM,h.BP⟩
theorem keep {S:Nat->Prop} (h:FlRaw w L pv pg pl f nx) (k:Wr S w w') (hS:∀ b,S b->b<L.gi.lo):InAt w' L.gi pg f.G/\∀ c,c<8->L.has c=true->InAt w' (L.li c) (pl c) (f.Lc c):=by
 have g:=h.Lu;refine ⟨h.Cw.wrote k λb b1 _ e=>by have:=hS b e;omega,λc hc hh=> ?_⟩;have s:=h.sep.1 c hc hh;exact (h.loc c hc hh).wrote k λb b1 _ e=>by have:=hS b e;omega
theorem seats {s':SS} (h:FlRaw w L pv pg pl f nx) (hS:SeatAt w' L.p L.b s') (hn:s'.n=f.s.n) (k:Wr (One L.b) w w'):FlRaw w' L pv pg pl {f with s:=s'} nx:=by
 obtain ⟨k1,k2⟩:=h.keep k λb e=>by unfold One at e;have:=h.low;omega
 refine ⟨?_,hS,?_,k1,k2,h.ne,h.low,h.sep,λt ht=>h.GL t (by have:t<s'.n:=ht;omega),h.CM,h.BP⟩
 ·show w'.heap[L.lb]? =_
  exact zz3o
 ·show w'.heap[L.tb]? =_
  exact zz3b
theorem cell0 (h:FlRaw w L pv pg pl f nx):w.cell? ⟨L.lb,0,none⟩=some (.pointer (some ⟨L.p,0,none⟩)):=by rw [A1 h.obj];rfl
theorem cell1 (h:FlRaw w L pv pg pl f nx):w.cell? ⟨L.lb,1,none⟩=some pv:=by rw [A1 h.obj];rfl
theorem AY (h:FlRaw w L pv pg pl f nx):w.cell? ⟨L.lb,2,none⟩=some (.int .u32 f.CJ):=by rw [A1 h.obj];rfl
theorem AV (h:FlRaw w L pv pg pl f nx):w.cell? ⟨L.lb,3,none⟩=some (.int .i64 L.a1):=by rw [A1 h.obj];rfl
theorem Av (h:FlRaw w L pv pg pl f nx):w.cell? ⟨L.lb,4,none⟩=some L.gi.val:=by rw [A1 h.obj];rfl
theorem Wo (h:FlRaw w L pv pg pl f nx) {c:Nat} (hc:c<8):w.cell? ⟨L.lb,5+c,none⟩=some (JJ L c):=by
 rw [A1 h.obj];exact zz3d
theorem ZP (h:FlRaw w L pv pg pl f nx) {c:Nat} (hc:c<8) (hh:L.has c=true):w.cell? ⟨L.lb,5+c,none⟩=some (L.li c).val:=by rw [h.Wo hc];unfold JJ;rw [Qj hh]
theorem XW (h:FlRaw w L pv pg pl f nx):w.cell? ⟨L.lb,13,none⟩=some (.slice (some ⟨L.tb,0,none⟩) f.s.n f.s.n):=by rw [A1 h.obj];rfl
theorem frozen (h:FlRaw w L pv pg pl f nx) (k:Nat):w.frozen? ⟨L.lb,k,none⟩=false:=A4 h.obj k
theorem Jl (h:FlRaw w L pv pg pl f nx) {k:Nat} (hk:k<f.s.n):w.cell? ⟨L.tb,k*4,none⟩=some (.int .i64 (f.nd k:Nat)):=by
 rw [A1 h.tick,List.getElem?_toArray];exact FI f.s.n f.nd f.own nx f.got hk (j:=0) (by decide)
theorem RQ (h:FlRaw w L pv pg pl f nx) {k:Nat} (hk:k<f.s.n):w.cell? ⟨L.tb,k*4+1,none⟩=some (.int .i64 (f.own k:Nat)):=by
 rw [A1 h.tick,List.getElem?_toArray];exact FI f.s.n f.nd f.own nx f.got hk (j:=1) (by decide)
theorem Oe (h:FlRaw w L pv pg pl f nx) {k:Nat} (hk:k<f.s.n):w.cell? ⟨L.tb,k*4+2,none⟩=some (nx k):=by
 rw [A1 h.tick,List.getElem?_toArray];exact FI f.s.n f.nd f.own nx f.got hk (j:=2) (by decide)
theorem dm (h:FlRaw w L pv pg pl f nx) {k:Nat} (hk:k<f.s.n):w.cell? ⟨L.tb,k*4+3,none⟩=some (.int .u32 (f.got k)):=by
 rw [A1 h.tick,List.getElem?_toArray];exact FI f.s.n f.nd f.own nx f.got hk (j:=3) (by decide)
theorem Oh (h:FlRaw w L pv pg pl f nx) (k:Nat):w.frozen? ⟨L.tb,k,none⟩=false:=A4 h.tick k
theorem FR (h:FlRaw w L pv pg pl f nx) (k:Nat) (v:Value):FlRaw (w.setCell ⟨L.tb,k*4+2,none⟩ v) L pv pg pl f (upd nx k v)/\Wr (One L.tb) w (w.setCell ⟨L.tb,k*4+2,none⟩ v):=by
 have hW:Wr (One L.tb) w (w.setCell ⟨L.tb,k*4+2,none⟩ v):=(Wr.refl _ w).setCell _ _ λ_=>rfl;obtain ⟨k1,k2⟩:=h.keep hW λb e=>by unfold One at e;have:=h.low;omega
 refine ⟨⟨(hW.block _ (A2 h.obj) h.ne.2.1).trans h.obj,h.seat.wrote hW h.ne.2.2.1 h.ne.2.2.2.1,?_,k1,k2,h.ne,h.low,h.sep,h.GL,h.CM,h.BP⟩,hW⟩;rw [A3 h.tick,List.setIfInBounds_toArray,MA]
theorem YR (h:FlRaw w L pv pg pl f nx) (k:Nat) (v:Int) (hv:0<=v/\v<4294967296):FlRaw (w.setCell ⟨L.tb,k*4+3,none⟩ (.int .u32 v)) L pv pg pl {f with got:=upd f.got k v} nx/\Wr (One L.tb) w (w.setCell ⟨L.tb,k*4+3,none⟩ (.int .u32 v)):=by
 have hW:Wr (One L.tb) w (w.setCell ⟨L.tb,k*4+3,none⟩ (.int .u32 v)):=(Wr.refl _ w).setCell _ _ λ_=>rfl;obtain ⟨k1,k2⟩:=h.keep hW λb e=>by unfold One at e;have:=h.low;omega
 refine ⟨⟨(hW.block _ (A2 h.obj) h.ne.2.1).trans h.obj,h.seat.wrote hW h.ne.2.2.1 h.ne.2.2.2.1,?_,k1,k2,h.ne,h.low,h.sep,h.GL,h.CM,λt=> ?_,h.BP.2⟩,hW⟩
 ·rw [A3 h.tick,List.setIfInBounds_toArray,MB]
 ·show 0<=upd f.got k v t/\upd f.got k v t<4294967296
  by_cases e:t=k
  ·subst e;rw [upd_same];exact hv
  ·rw [A0 _ _ e];exact h.BP.1 t
theorem Q9 {S:Nat->Prop} {x:Inn} {ki:Value} (h:FlRaw w L pv pg pl f nx) (hx:InAt w' L.gi ki x) (k:Wr S w w') (hS:∀ b,b<w.heap.size->S b->Bk L.gi.lo L.gi.hi b\/((∀ c,c<8->L.has c=true->(L.li c).hi<=b)/\L.gi.hi<=b)):FlRaw w' L pv ki pl {f with G:=x} nx:=by
 have hl:=h.low;have g:=h.Lu;have hn:∀ b,b<w.heap.size->b<L.gi.lo->¬ S b:=λb hb h1 e=>by rcases hS b hb e with q|q;(unfold Bk at q;omega);omega
 refine ⟨(k.block _ (A2 h.obj) (hn _ (A2 h.obj) hl.1.2)).trans h.obj,h.seat.wrote k (hn _ (A2 h.seat.obj) hl.2.1.2) (hn _ (A2 h.seat.ctx) hl.2.2.1.2),(k.block _ (A2 h.tick) (hn _ (A2 h.tick) hl.2.2.2.2)).trans h.tick,hx,λc hc hh=> ?_,h.ne,h.low,h.sep,h.GL,h.CM,h.BP⟩;have i:=h.loc c hc hh;have s:=h.sep.1 c hc hh;have il:=i.le;exact i.wrote k λb b1 b2 e=>by
  rcases hS b (by omega) e with q|q
  ·unfold Bk at q;omega
  ·have:=q.1 c hc hh;omega
theorem Nm {S:Nat->Prop} {x:Inn} {c:Nat} {pc:Value} (h:FlRaw w L pv pg pl f nx) (hc:c<8) (hh:L.has c=true) (hx:InAt w' (L.li c) pc x) (k:Wr S w w') (hS:∀ b,b<w.heap.size->S b->Bk (L.li c).lo (L.li c).hi b\/((∀ c,c<8->L.has c=true->(L.li c).hi<=b)/\L.gi.hi<=b)):
  FlRaw w' L pv pg (upd pl c pc) {f with Lc:=upd f.Lc c x} nx:=by
 have hl:=h.low;have g:=h.Lu;have s0:=h.sep.1 c hc hh;have gl:=h.Cw.le;have hn:∀ b,b<w.heap.size->b<L.gi.hi->¬ S b:=λb hb h1 e=>by rcases hS b hb e with q|q;(unfold Bk at q;omega);omega
 refine ⟨(k.block _ (A2 h.obj) (hn _ (A2 h.obj) (by omega))).trans h.obj,h.seat.wrote k (hn _ (A2 h.seat.obj) (by omega)) (hn _ (A2 h.seat.ctx) (by omega)),(k.block _ (A2 h.tick) (hn _ (A2 h.tick) (by omega))).trans h.tick,h.Cw.wrote k λb b1 b2=>hn b (by omega) (by omega),λd hd hdd=> ?_,h.ne,h.low,h.sep,h.GL,h.CM,h.BP⟩;show InAt w' (L.li d) (upd pl c pc d) (upd f.Lc c x d);by_cases e:d=c
 ·subst e;rw [upd_same,upd_same];exact hx
 rw [A0 _ _ e,A0 _ _ e];have i:=h.loc d hd hdd;have il:=i.le;have s:=h.sep.2 c d hc hd hh hdd (λq=>e q.symm);exact i.wrote k λb b1 b2 e=>by
  rcases hS b (by omega) e with q|q
  ·unfold Bk at q;omega
  ·have:=q.1 d hd hdd;omega
theorem place (h:FlRaw w L pv pg pl f nx) (q:Place) (hs:List Int):FlRaw w {L with q:=q,hs:=hs} pv pg pl f nx:=⟨h.obj,h.seat,h.tick,h.Cw,h.loc,h.ne,h.low,h.sep,h.GL,h.CM,h.BP⟩
end FlRaw
structure LkM (w:World) (L:Lp) (f:FL) (nx:Nat->Value):Prop where
 raw:FlRaw w L (.pointer (some ⟨L.q.p,0,none⟩)) (.pointer (some ⟨L.q.p,0,none⟩)) (λ_=> .pointer (some ⟨L.q.p,0,none⟩)) f nx
 port:PortAt w L.q L.hs f.ps
 far:L.gi.hi<=L.q.k0/\∀ c,c<8->L.has c=true->(L.li c).hi<=L.q.k0
 top:L.q.k3<=w.heap.size
def LF (L:Lp) (k:Nat):Prop:=Bk L.lo L.q.k3 k
namespace LkM
variable {w w':World} {L:Lp} {f:FL} {nx nx':Nat->Value}
theorem k0 (h:LkM w L f nx):L.lo<L.q.k0/\L.q.k0<=L.q.k3:=by
 have:=h.raw.low;have:=h.raw.Lu;have:=h.far.1;have:=h.port.place.le;exact ⟨by omega,by omega⟩
theorem wrote {S:Nat->Prop} (h:LkM w L f nx) (k:Wr S w w') (h5:∀ b,b<L.q.k3->¬ S b):LkM w' L f nx:=by
 have hf:=h.far;have hl:=h.k0;have hr:=h.raw;have lw:=hr.low;have g:=hr.Lu;have n:∀ b,b<L.q.k3->¬ S b:=h5;refine ⟨⟨(k.block _ (A2 hr.obj) (n _ (by omega))).trans hr.obj,hr.seat.wrote k (n _ (by omega)) (n _ (by omega)),(k.block _ (A2 hr.tick) (n _ (by omega))).trans hr.tick,hr.Cw.wrote k λb b1 b2=>n b (by omega),λc hc hh=> ?_,hr.ne,hr.low,hr.sep,hr.GL,hr.CM,hr.BP⟩,h.port.wrote k (λb _ b2=>n b b2),h.far,Nat.le_trans h.top k.size⟩;exact zz6f
theorem after (h:LkM w L f nx) (k:Wr Nil w w'):LkM w' L f nx:=h.wrote k λ_ _=>id
theorem same (h:LkM w L f nx) (e:∀ t,t<f.s.n->nx t=nx' t):LkM w L f nx':=⟨h.raw.same e,h.port,h.far,h.top⟩
theorem EA (h:LkM w L f nx) (ph:Nat->Int):LkM w L {f with ph:=ph} nx:=⟨h.raw.other ph f.ps,h.port,h.far,h.top⟩
theorem seats {s':SS} (h:LkM w L f nx) (hS:SeatAt w' L.p L.b s') (hn:s'.n=f.s.n) (k:Wr (One L.b) w w'):LkM w' L {f with s:=s'} nx:=by
 have lw:=h.raw.low;have g:=h.raw.Lu;have hf:=h.far.1;exact ⟨h.raw.seats hS hn k,h.port.wrote k (λb b1 _ e=>by unfold One at e;omega),h.far,Nat.le_trans h.top k.size⟩
theorem Ac {ps':AK} (h:LkM w L f nx) (hP:PortAt w' L.q L.hs ps') (k:Wr (Bk L.q.k0 L.q.k3) w w'):LkM w' L {f with ps:=ps'} nx:=by
 have hr:=h.raw;have lw:=hr.low;have g:=hr.Lu;have hf:=h.far;have n:∀ b,b<L.q.k0->¬ Bk L.q.k0 L.q.k3 b:=λb hb e=>by unfold Bk at e;omega
 refine ⟨⟨(k.block _ (A2 hr.obj) (n _ (by omega))).trans hr.obj,hr.seat.wrote k (n _ (by omega)) (n _ (by omega)),(k.block _ (A2 hr.tick) (n _ (by omega))).trans hr.tick,hr.Cw.wrote k λb b1 b2=>n b (by omega),λc hc hh=> ?_,hr.ne,hr.low,hr.sep,hr.GL,hr.CM,hr.BP⟩,hP,h.far,Nat.le_trans h.top k.size⟩;exact zz6f
theorem FR (h:LkM w L f nx) (k:Nat) (v:Value):LkM (w.setCell ⟨L.tb,k*4+2,none⟩ v) L f (upd nx k v)/\Wr (One L.tb) w (w.setCell ⟨L.tb,k*4+2,none⟩ v):=by
 obtain ⟨a,b⟩:=h.raw.FR k v;exact zz42
theorem YR (h:LkM w L f nx) (k:Nat) (v:Int) (hv:0<=v/\v<4294967296):LkM (w.setCell ⟨L.tb,k*4+3,none⟩ (.int .u32 v)) L {f with got:=upd f.got k v} nx/\Wr (One L.tb) w (w.setCell ⟨L.tb,k*4+3,none⟩ (.int .u32 v)):=by
 obtain ⟨a,b⟩:=h.raw.YR k v hv;exact zz42
theorem wf (h:LkM w L f nx) (j:Int):0<=BK f.ps.ws j/\BK f.ps.ws j<4294967296:=h.port.mem.Ea j
theorem tell (h:LkM w L f nx) (t K a:Int):0<=A6 f.ps t K a/\A6 f.ps t K a<4294967296:=zz2c
theorem Cz (h:LkM w L f nx) {k:Nat} (hk:LF L k):k<w.heap.size:=Nat.lt_of_lt_of_le hk.2 h.top
end LkM
section
variable {w w':World} {L:Lp} {f:FL} {nx:Nat->Value}
theorem CH (h:LkM w L f nx) (k:Wr (One L.b) w w'):Wr (LF L) w w':=k.mono λj _ e=>zz5s
theorem BH (h:LkM w L f nx) (k:Wr (One L.tb) w w'):Wr (LF L) w w':=k.mono λj _ e=>zz5s
theorem B_ (h:LkM w L f nx) (k:Wr (Bk L.q.k0 L.q.k3) w w'):Wr (LF L) w w':=k.mono λj _ e=>by
 have:=h.k0;unfold Bk at e;unfold LF Bk;omega
theorem aX (h:LkM w L f nx) (k:Wr (Bk L.gi.lo L.gi.hi) w w'):Wr (LF L) w w':=k.mono λj _ e=>by
 have:=h.raw.low;have:=h.raw.Lu;have:=h.far.1;have:=h.k0;unfold Bk at e;unfold LF Bk;omega
theorem aY (h:LkM w L f nx) (k:Wr (Yr L.gi L.q) w w'):Wr (LF L) w w':=k.mono λj _ e=>by
 have:=h.raw.low;have:=h.raw.Lu;have:=h.far.1;have:=h.k0;unfold LF Bk;rcases e with e|e<;>(unfold Bk at e;omega)
theorem Xr (h:LkM w L f nx) {c:Nat} (hc:c<8) (hh:L.has c=true) (k:Wr (Bk (L.li c).lo (L.li c).hi) w w'):Wr (LF L) w w':=k.mono λj _ e=>by
 have:=h.raw.low;have:=h.raw.Lu;have:=h.far.2 c hc hh;have:=h.k0;have:=h.raw.sep.1 c hc hh;unfold Bk at e;unfold LF Bk;omega
theorem aZ (h:LkM w L f nx) {c:Nat} (hc:c<8) (hh:L.has c=true) (k:Wr (Yr (L.li c) L.q) w w'):Wr (LF L) w w':=k.mono λj _ e=>by
 have:=h.raw.low;have:=h.raw.Lu;have:=h.far.2 c hc hh;have:=h.k0;have:=h.raw.sep.1 c hc hh;unfold LF Bk;rcases e with e|e<;>(unfold Bk at e;omega)
theorem LkM.Q9 {x:Inn} (h:LkM w L f nx) (hx:InAt w' L.gi (.pointer (some ⟨L.q.p,0,none⟩)) x) (k:Wr (Bk L.gi.lo L.gi.hi) w w'):LkM w' L {f with G:=x} nx:=by
 have lw:=h.raw.low;have hf:=h.far.1;refine ⟨h.raw.Q9 hx k λb _ e=> .inl e,h.port.wrote k (λb b1 _ e=>by unfold Bk at e;omega),h.far,Nat.le_trans h.top k.size⟩
theorem LkM.Zc {x:Inn} {ps':AK} (h:LkM w L f nx) (hx:InAt w' L.gi (.pointer (some ⟨L.q.p,0,none⟩)) x) (hP:PortAt w' L.q L.hs ps') (k:Wr (Yr L.gi L.q) w w'):LkM w' L {f with G:=x,ps:=ps'} nx:=by
 have hr:=h.raw.Q9 hx k λb _ e=>zz46;exact ⟨hr.other _ _,hP,h.far,Nat.le_trans h.top k.size⟩
theorem KX {α:Type} (c:Nat) (v:α):upd (λ_=>v) c v=λ_=>v:=by funext j;unfold upd;split<;>rfl
theorem LkM.Nm {x:Inn} {c:Nat} (h:LkM w L f nx) (hc:c<8) (hh:L.has c=true) (hx:InAt w' (L.li c) (.pointer (some ⟨L.q.p,0,none⟩)) x) (k:Wr (Bk (L.li c).lo (L.li c).hi) w w'):LkM w' L {f with Lc:=upd f.Lc c x} nx:=by
 have hf:=h.far.2 c hc hh;have hr:=h.raw.Nm hc hh hx k λb _ e=> .inl e;rw [KX] at hr;exact ⟨hr,h.port.wrote k (λb b1 _ e=>by unfold Bk at e;omega),h.far,Nat.le_trans h.top k.size⟩
theorem LkM.ag {x:Inn} {c:Nat} {ps':AK} (h:LkM w L f nx) (hc:c<8) (hh:L.has c=true) (hx:InAt w' (L.li c) (.pointer (some ⟨L.q.p,0,none⟩)) x) (hP:PortAt w' L.q L.hs ps') (k:Wr (Yr (L.li c) L.q) w w'):LkM w' L {f with Lc:=upd f.Lc c x,ps:=ps'} nx:=by
 have hr:=h.raw.Nm hc hh hx k λb _ e=>zz46;rw [KX] at hr;exact ⟨hr.other _ _,hP,h.far,Nat.le_trans h.top k.size⟩
end
def A_ (w:World) (L:Lp) (f:FL) (nx:Nat->Value) (v:Value) (e:Ending) (w':World):Prop:=e= .returned v/\LkM w' L f nx/\Wr (LF L) w w'
def Eh (d:Dd):Array Value:= #[.int .i64 d.ev,.bool d.BW,.bool d.arr,.bool d.lead]
structure Fr (w:World) (B:Nat) (Y:World) (L:Lp) (f:FL) (nx:Nat->Value):Prop where
 lk:LkM Y L f nx
 wr:Wr (LF L) w Y
 res:Y.heap[B]? =some (.cells (Eh Dd.no) 102 (0,0))
 new:w.heap.size<=B
namespace Fr
variable {w X Y:World} {L:Lp} {f f':FL} {B:Nat} {nx nx':Nat->Value}
theorem start (h:LkM w L f nx):Fr w w.heap.size (w.alloc (.cells #[.int .i64 0,.bool false,.bool false,.bool false] 102)) L f nx:=
 ⟨h.after ((Wr.refl _ w).alloc _),(Wr.refl _ w).alloc _,Go.Deep.blk_alloc_new w _,Nat.le_refl _⟩
theorem after (h:Fr w B X L f nx) (k:Wr Nil X Y):Fr w B Y L f nx:=⟨h.lk.after k,h.wr.trans k λ_ _ e=>e.elim,(k.block _ (A2 h.res) id).trans h.res,h.new⟩
theorem drew (h:Fr w B X L f nx):Fr w B X.drew L f nx:=h.after ((Wr.refl _ X).drew)
theorem call {f0:FL} {W7:Nat->Value} (h0:LkM w L f' nx') (h:Fr w B X L f nx) (hl:LkM Y L f0 W7) (k:Wr (LF L) X Y):Fr w B Y L f0 W7:=
 ⟨hl,h.wr.trans k λ_ _ e=>e,(k.block _ (A2 h.res) (λe=>by have:=h0.Cz e;have:=h.new;omega)).trans h.res,h.new⟩
theorem cell (h:Fr w B X L f nx):X.cell? ⟨B,0,none⟩=some (.int .i64 0)/\X.cell? ⟨B,1,none⟩=some (.bool false)/\X.cell? ⟨B,2,none⟩=some (.bool false)/\X.cell? ⟨B,3,none⟩=some (.bool false):=zz1z
theorem Am (h:Fr w B X L f nx):X.frozen? ⟨B,0,none⟩=false/\X.frozen? ⟨B,1,none⟩=false/\X.frozen? ⟨B,2,none⟩=false/\X.frozen? ⟨B,3,none⟩=false:=
 ⟨A4 h.res 0,A4 h.res 1,A4 h.res 2,A4 h.res 3⟩
end Fr
theorem AO {Y:World} {B:Nat} {t:TypeId} {cs:Array Value} (h:Y.heap[B]? =some (.cells cs t (0,0))) (h4:cs.size=4) (x0 x1 x2 x3:Value):
  ((((Y.setCell ⟨B,0,none⟩ x0).setCell ⟨B,1,none⟩ x1).setCell ⟨B,2,none⟩ x2).setCell ⟨B,3,none⟩ x3).heap[B]? =some (.cells #[x0,x1,x2,x3] t (0,0)):=zz1b
theorem C0 (Y:World) (B:Nat) (x0 x1 x2 x3:Value):Wr (One B) Y ((((Y.setCell ⟨B,0,none⟩ x0).setCell ⟨B,1,none⟩ x1).setCell ⟨B,2,none⟩ x2).setCell ⟨B,3,none⟩ x3):=
 ((((Wr.refl (One B) Y).setCell ⟨B,0,none⟩ x0 λ_=>rfl).setCell ⟨B,1,none⟩ x1 λ_=>rfl).setCell ⟨B,2,none⟩ x2 λ_=>rfl).setCell ⟨B,3,none⟩ x3 λ_=>rfl
theorem Fr.told {w Y:World} {L:Lp} {f f0:FL} {B:Nat} {nx W7:Nat->Value} (h0:LkM w L f0 W7) (h:Fr w B Y L f nx) (d:Dd):
  A_ w L f nx d.val (.returned d.val) ((((Y.setCell ⟨B,0,none⟩ (.int .i64 d.ev)).setCell ⟨B,1,none⟩ (.bool d.BW)).setCell ⟨B,2,none⟩ (.bool d.arr)).setCell ⟨B,3,none⟩ (.bool d.lead)):=zz18
theorem AB:(prog.info? 102).map (·.size)=some 4:=by kernel_rfl
open Go.RowKit Go.BigFrame
theorem BF {α:Type} (g:Nat->α) (k:Nat) (a b:α):upd (upd g k a) k b=upd g k b:=by funext j;unfold upd;split<;>rfl
theorem Sy (a:Int) (b c d:Bool) (w:World):(Instr.field 102 (.agg #[.int .i64 a,.bool b,.bool c,.bool d]) 0).run prog w= .ok (.int .i64 a) w:=by kernel_rfl
theorem DU {w:World} {L:Lp} {f:FL} {nx:Nat->Value} (h:LkM w L f nx) {k:Nat} (hk:k<f.s.n):
  Calls prog 82 #[.pointer (some ⟨L.lb,0,none⟩),.pointer (some ⟨L.tb,k*4,none⟩)] w λe w'=>e= .returned (L.li (f.nd k)).val/\∃ n,w'=w.drewN n:=by
 obtain ⟨n1,n2⟩:=h.raw.GL k hk;have c0:=h.raw.Jl hk;have c1:=h.raw.ZP n1 n2;generalize f.nd k=c at*;have n3:(c:Int)<8:=by omega
 exact zz6l
theorem Gh {w:World} {L:Lp} {f:FL} {nx:Nat->Value} (h:LkM w L f nx) {k:Nat} (hk:k<f.s.n):
  Calls prog 86 #[.pointer (some ⟨L.lb,0,none⟩),.pointer (some ⟨L.tb,k*4,none⟩)] w λe w'=>e= .returned (.int .i64 (L.pA (f.nd k)))/\∃ n,w'=w.drewN n:=by
 obtain ⟨n1,n2⟩:=h.raw.GL k hk;obtain ⟨⟨a0,a1⟩,_⟩:=h.raw.CM;have c0:=h.raw.Jl hk;have c3:=h.raw.AV;unfold Lp.pA;generalize f.nd k=c at*;have w1:IntKind.i64.wrap (L.a1+c)=L.a1+c:=by rw [IntKind.wrap_i64];omega
 exact zz6l
def RowQ (w:World) (v:Value) (xs:List Value):Prop:=
 (v= .slice none 0 0/\xs=[])\/∃ g off cap cur,v= .slice (some ⟨g,off,none⟩) xs.length cap/\w.heap[g]? =some (.cells cur 3 (0,0))/\xs.length<=cap/\off+cap<=cur.size/\∀ j u,xs[j]? =some u->cur[off+j]? =some u
namespace RowQ
variable {w w':World} {v:Value} {xs:List Value}
theorem lt (h:RowQ w v xs):∀ k,v.ownBlock=some k->k<w.heap.size:=by
 rcases h with ⟨rfl,_⟩|⟨g,off,cap,cur,rfl,hg,_⟩
 ·intro k hk;cases hk
 ·intro k hk
  have e:g=k:=by simpa [Value.ownBlock] using hk
  subst e;exact A2 hg
theorem keep (h:RowQ w v xs) (hk:∀ k,v.ownBlock=some k->w'.heap[k]? =w.heap[k]?):RowQ w' v xs:=by
 rcases h with h|⟨g,off,cap,cur,rfl,hg,h2,h3,h4⟩
 ·exact .inl h
 ·exact .inr ⟨g,off,cap,cur,rfl,(hk g rfl).trans hg,h2,h3,h4⟩
theorem wrote {S:Nat->Prop} (h:RowQ w v xs) (k:Wr S w w') (hS:∀ j,v.ownBlock=some j->¬ S j):RowQ w' v xs:=h.keep λj hj=>k.block j (h.lt j hj) (hS j hj)
theorem nil (w:World):RowQ w (.slice none 0 0) []:= .inl ⟨rfl,rfl⟩
theorem form (h:RowQ w v xs):∃ sa cap,v= .slice sa xs.length cap:=by
 rcases h with ⟨rfl,rfl⟩|⟨g,off,cap,cur,rfl,_⟩
 ·exact ⟨none,0,rfl⟩
 ·exact ⟨_,cap,rfl⟩
theorem XH {base n:Nat} (h:w.ownsRow base 3 1 v n xs):RowQ w v xs:=by
 obtain ⟨hl,h⟩:=h;rw [Nat.mul_one] at hl;subst hl;rcases h with ⟨rfl,e⟩|⟨g,cap,cur,rfl,_,hg,h2,_,h3,h4⟩
 ·exact .inl ⟨rfl,List.eq_nil_of_length_eq_zero e⟩
 ·refine .inr ⟨g,0,cap,cur,rfl,hg,h2,by omega,λj u hj=> ?_⟩
  rw [Nat.mul_one] at h4;rw [<-h4,List.getElem?_take] at hj;split at hj
  ·rw [Nat.zero_add];simpa using hj
  ·cases hj
end RowQ
def J0 (w w':World) (v v':Value) (xs:List Value) (x:Value):Prop:=RowQ w' v' (xs++[x])/\Wr (λj=>v.ownBlock=some j) w w'/\(v'.ownBlock=v.ownBlock\/∀ k,v'.ownBlock=some k->w.heap.size<=k)
theorem Tj {w:World} {v:Value} {xs:List Value} (h:RowQ w v xs) (ty:TypeId) (ad:Addr) (x:Value) (hx:w.cell? ad=some x) (h1:x.oneCell'=true) (hl:xs.length<=1000000):
  ∃ v' w',(Builtin.append_ #[22,22] ty #[v,.slice (some ad) 1 1]).run prog w= .ok v' w'/\J0 w w' v v' xs x:=by
 obtain ⟨i0,hi,hz0,hz1,hz2⟩:=info_parts JC;have hnews:∀ (j:Nat) (u:Value),[x][j]? =some u->w.cell? (ad.add j)=some u:=λj u hj=>by
  match j,hj with
  |0,hj=>
   have e:x=u:=by simpa using hj
   rw [<-e];simpa [Addr.add] using hx
 have hone:∀ u∈[x],u.oneCell'=true:=λu hu=>by rw [List.mem_singleton.1 hu];exact h1
 rcases h with ⟨rfl,rfl⟩|⟨g,off,cap,cur,rfl,hg,h2,h3,h4⟩
 ·obtain ⟨v',w',hr,ho,hgr,_⟩:=run_append_own (P:=prog) w w.heap.size 22 ty 3 i0 (.int .i64 0) 1 8 underlying22 hi hz0 hz1 hz2 rfl (by decide) (.slice none 0 0) 0 [] (World.ownsRow_nil w _ _ _) ad 1 1 [x] rfl hnews hone (by unfold maxLen;omega) (by omega) (Nat.le_refl _)
  exact ⟨v',w',hr,RowQ.XH ho,(Wr.refl _ w).grown hgr λk hk _=>hk,.inr λk hk=>(ho.lt k hk).1⟩
 ·by_cases hroom:xs.length+1<=cap
  ·have hb:=A1 hg (off+xs.length)
   have hlt:off+xs.length<cur.size:=by omega
   have hr:=run_append_room_cells (P:=prog) w 22 ty 3 i0 underlying22 hi g off xs.length cap ad 1 1 [x] (by rw [hz1];rfl) hnews hone hroom
    (λj hj=>by
      have e:j=0:=by simpa using hj
      subst e;rw [hz1,Nat.mul_one,Nat.add_zero,hb,Array.getElem?_eq_getElem hlt];rfl)
    (λj hj=>A4 hg _)
   rw [hz1,Nat.mul_one] at hr;have hW:Wr (λj=>(Value.slice (some ⟨g,off,none⟩) xs.length cap).ownBlock=some j) w (w.setCells g (off+xs.length) [x]):=(Wr.refl _ w).setCell ⟨g,off+xs.length,none⟩ x λ_=>rfl;refine ⟨_,_,hr,.inr ⟨g,off,cap,cur.setIfInBounds (off+xs.length) x,by rw [List.length_append,List.length_singleton],A3 hg _ _,by rw [List.length_append,List.length_singleton];exact hroom,by rw [Array.size_setIfInBounds];exact h3,λj u hj=> ?_⟩,hW,.inl rfl⟩;by_cases hjn:j<xs.length
   ·rw [List.getElem?_append_left hjn] at hj
    rw [Array.getElem?_setIfInBounds_ne (by omega)];exact h4 j u hj
   ·have e:j=xs.length:=by
     have:=(List.getElem?_eq_some_iff.1 hj).1;rw [List.length_append,List.length_singleton] at this;omega
    subst e;rw [List.getElem?_append_right (Nat.le_refl _),Nat.sub_self] at hj;have e:x=u:=by simpa using hj
    subst e;rw [Array.getElem?_setIfInBounds_self_of_lt hlt]
  ·obtain ⟨v',w',hr,ho,hgr⟩:=run_append_arg_grows (P:=prog) w 22 ty 3 i0 (.int .i64 0) 1 8 underlying22 hi hz0 hz1 hz2 rfl (by decide) ⟨g,off,none⟩ xs.length cap xs (by rw [Nat.mul_one]) (λj u hj=>by rw [Addr.add_lit,A1 hg];exact h4 j u hj) ad 1 1 [x] rfl hnews (by omega) (by unfold maxLen;omega) (by omega)
   exact ⟨v',w',hr,RowQ.XH ho,(Wr.refl _ w).grown hgr λk hk _=>(by cases hk),.inr λk hk=>(ho.lt k hk).1⟩
theorem Wi {w:World} {o:Oper} {a:Act} {K:Act->World->Prop} {Q:Exit->Act->World->Prop} (s y:Operand) (ho:o.op= .call {callee:= .builtin .append,args:= #[s,y],argTypes:= #[22,22]})
  {v:Value} {xs:List Value} (hs:a.eval s=v) (h:RowQ w v xs) (ad:Addr) (x:Value) (hy:a.eval y= .slice (some ad) 1 1) (hx:w.cell? ad=some x) (h1:x.oneCell'=true) (hl:xs.length<=1000000)
  (hK:∀ v' w',J0 w w' v v' xs x->K (a.put o.dst v') w'):o.wp prog a w K Q:=by
 obtain ⟨v',w',hr,hp⟩:=Tj h o.type ad x hx h1 hl;unfold Oper.wp execOp;simp only [ho,resolve,invoke,builtin,Sem.run_bind,Sem.run_pure,Result.andThen_ok,List.map_toArray,List.map_cons,List.map_nil,hs,hy,hr];exact hK v' w' hp
theorem IY {w:World} {ops:Array Oper} {rest:List Oper} {o:Oper} {a:Act} {Q:Exit->Act->World->Prop} (hgd:o.guard=none) (s y:Operand) (ho:o.op= .call {callee:= .builtin .append,args:= #[s,y],argTypes:= #[22,22]})
  {v:Value} {xs:List Value} (hs:a.eval s=v) (h:RowQ w v xs) (ad:Addr) (x:Value) (hy:a.eval y= .slice (some ad) 1 1) (hx:w.cell? ad=some x) (h1:x.oneCell'=true) (hl:xs.length<=1000000)
  (hK:∀ v' w',J0 w w' v v' xs x->wpList prog ops Q rest (a.put o.dst v') w'):wpList prog ops Q (o::rest) a w:=
 wpList_plain hgd λ_ hK'=>Wi s y ho hs h ad x hy hx h1 hl λv' w' hp=>hK' _ _ (hK v' w' hp)
def Fm (k:Nat):Value:= .int .i64 (k:Int)
def GR (vq:Nat->Value):Array Value:=((List.range 8).map vq).toArray
theorem OX (vq:Nat->Value) {c:Nat} (hc:c<8):(GR vq)[c]? =some (vq c):=by
 unfold GR;rw [List.getElem?_toArray,List.getElem?_map,List.getElem?_range hc];rfl
theorem Rm (vq:Nat->Value) (c:Nat) (v:Value):(GR vq).setIfInBounds c v=GR (upd vq c v):=by
 unfold GR;rw [List.setIfInBounds_toArray]
 congr 1
 apply List.ext_getElem?;intro j;rw [List.getElem?_set,List.getElem?_map,List.getElem?_map,List.length_map,List.length_range];by_cases hj:j<8
 ·rw [List.getElem?_range hj]
  by_cases e:c=j
  ·subst e;simp [upd_same,hj]
  ·simp [e,A0 _ _ (Ne.symm e)]
 ·rw [List.getElem?_eq_none (by simp;omega)]
  simp;omega
structure R8 (w:World) (base Qb:Nat) (vq:Nat->Value) (q:Nat->List Nat):Prop where
 arr:w.heap[Qb]? =some (.cells (GR vq) 173 (0,0))
 row:∀ c,c<8->RowQ w (vq c) ((q c).map Fm)
 lo:base<=Qb
 low:∀ c,c<8->∀ j,(vq c).ownBlock=some j->base<=j/\j≠Qb
 far:∀ c d,c<8->d<8->c≠d->∀ j,(vq c).ownBlock=some j->(vq d).ownBlock≠some j
namespace R8
variable {w w':World} {base Qb:Nat} {vq:Nat->Value} {q:Nat->List Nat}
theorem wrote {S:Nat->Prop} (h:R8 w base Qb vq q) (k:Wr S w w') (hS:∀ b,base<=b->¬ S b):R8 w' base Qb vq q:=
 ⟨(k.block _ (A2 h.arr) (hS _ h.lo)).trans h.arr,λc hc=>(h.row c hc).wrote k λj hj=>hS j (h.low c hc j hj).1,h.lo,h.low,h.far⟩
theorem after (h:R8 w base Qb vq q) (k:Wr Nil w w'):R8 w' base Qb vq q:=h.wrote k λ_ _=>id
theorem beside (h:R8 w base Qb vq q) {H:Nat} (k:Wr (One H) w w') (hQ:H≠Qb) (hr:∀ c,c<8->(vq c).ownBlock≠some H):R8 w' base Qb vq q:=
 ⟨(k.block _ (A2 h.arr) λe=>by unfold One at e;omega).trans h.arr,λc hc=>(h.row c hc).wrote k λj hj e=>by unfold One at e;subst e;exact hr c hc hj,h.lo,h.low,h.far⟩
theorem cell (h:R8 w base Qb vq q) {c:Nat} (hc:c<8):w.cell? ⟨Qb,c,none⟩=some (vq c):=(A1 h.arr c).trans (OX vq hc)
theorem push (h:R8 w base Qb vq q) (hb:base<=w.heap.size) {c:Nat} (hc:c<8) {k:Nat} {v':Value} (hp:J0 w w' (vq c) v' ((q c).map Fm) (Fm k)) {q':Nat->List Nat} (hq:q' c=q c++[k]) (D7:∀ d,d≠c->q' d=q d):
  R8 (w'.setCell ⟨Qb,c,none⟩ v') base Qb (upd vq c v') q'/\Wr (λj=>base<=j) w (w'.setCell ⟨Qb,c,none⟩ v'):=by
 obtain ⟨h1,h2,h3⟩:=hp;have mL:=A2 h.arr;have harr:w'.heap[Qb]? =some (.cells (GR vq) 173 (0,0)):=(h2.block _ mL λe=>(h.low c hc Qb e).2 rfl).trans h.arr;have k2:Wr (One Qb) w' (w'.setCell ⟨Qb,c,none⟩ v'):=(Wr.refl _ _).setCell _ _ λ_=>rfl;have hl:∀ j,v'.ownBlock=some j->base<=j/\j≠Qb:=λj hj=>by
  rcases h3 with e|e
  ·exact h.low c hc j (e▸hj)
  ·have:=e j hj
   omega
 have hf:∀ d,d<8->d≠c->∀ j,v'.ownBlock=some j->(vq d).ownBlock≠some j:=λd hd ln j hj=>by
  rcases h3 with e|e
  ·exact h.far c d hc hd (Ne.symm ln) j (e▸hj)
  ·intro q2
   have:=(h.row d hd).lt j q2;have:=e j hj;omega
 refine ⟨⟨?_,λd hd=> ?_,h.lo,λd hd j hj=> ?_,λd e hd he Yy j hj=> ?_⟩,?_⟩
 ·rw [A3 harr,Rm]
 ·by_cases e:d=c
  ·subst e
   rw [upd_same,hq,List.map_append];exact h1.wrote k2 λj hj e=>by unfold One at e;exact (hl j hj).2 e
  ·rw [A0 _ _ e,D7 d e]
   exact ((h.row d hd).wrote h2 λj hj e2=>h.far d c hd hc e j hj e2).wrote k2 λj hj e=>by unfold One at e;exact (h.low d hd j hj).2 e
 ·by_cases e:d=c
  ·subst e;rw [upd_same] at hj;exact hl j hj
  ·rw [A0 _ _ e] at hj;exact h.low d hd j hj
 ·by_cases e1:d=c
  ·subst e1
   rw [upd_same] at hj;rw [A0 _ _ (Ne.symm Yy)];exact hf e he (Ne.symm Yy) j hj
  ·rw [A0 _ _ e1] at hj
   by_cases e2:e=c
   ·subst e2
    rw [upd_same];intro q2;exact hf d hd e1 j q2 hj
   ·rw [A0 _ _ e2]
    exact h.far d e hd he Yy j hj
 ·exact (h2.mono λj _ e=>(h.low c hc j e).1).trans k2 λj _ e=>by unfold One at e;subst e;exact h.lo
theorem start {w X:World} {base Qb:Nat} (h:X.heap[Qb]? =some (.cells (GR λ_=> .slice none 0 0) 173 (0,0))) (hb:base<=Qb):R8 X base Qb (λ_=> .slice none 0 0) (λ_=>[]):=
 ⟨h,λc hc=>RowQ.nil _,hb,λc hc j hj=>(by cases hj),λc d hc hd e j hj=>(by cases hj)⟩
end R8
end Go.Proofs.YtmnephejhkfchaaGreat

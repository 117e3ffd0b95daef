
import Derived.Test.YtmnephejhkfchaaGreatAny
namespace Go.Proofs.YtmnephejhkfchaaGreat
open _root_.Go.Proofs.Tryz
open Go.RowKit Go.BigFrame
set_option linter.unusedVariables false
set_option maxRecDepth 100000
namespace Any
def kd:Any->Int
 |tk _ _=>1
 |sl _ _=>2
 |cl _ _=>3
 |mc _ _=>4
 |ab _ _=>5
 |hi _ _=>6
 |co _ _=>7
def Ap (w0 w:World):Any->Prop
 |tk L f=>Kf.G' w0 w L f
 |sl L f=>Ks.G' w0 w L f
 |cl L f=>Kc.G' w0 w L f
 |mc L f=>Km.G' w0 w L f
 |ab L f=>Ka.G' w0 w L f
 |hi L f=>Kh.G' w0 w L f
 |co L f=>G' w0 w L f
theorem Uc {w0 w:World} {a:Any} (h:a.Ap w0 w):Calls prog a.Jh #[.pointer (some ⟨a.lb,0,none⟩),.pointer (some ⟨a.q.p,0,none⟩)] w λe w'=>e= .returned (.tuple #[])/\a.At w0 w'/\Wr a.Low w w':=by
 cases a with
 |tk L f=>exact Kf.Dp h
 |sl L f=>exact Ks.Dp h
 |cl L f=>exact Kc.Dp h
 |mc L f=>exact Km.Dp h
 |ab L f=>exact Ka.Dp h
 |hi L f=>exact Kh.Dp h
 |co L f=>exact Dp h
end Any
def DM (n:Nat) (zs:List Int) (v sz pl B G D:Int):Any->Prop
 | .tk L f=>f=Kf.Bl n n v/\L.a1=0/\L.a2=1/\L.hs=[zs.getD 0 0,zs.getD 0 0]
 | .sl L f=>∃ m z:Nat,sz=(m:Int)/\Bj m=true/\n<=m/\v%(m:Int)=(z:Int)/\f=Ks.Bl n n m z v/\L.a1=0/\L.a2=1/\L.hs=Ks.FN zs n m
 | .cl L f=>f=Kc.Bl n n/\L.a1=0/\L.a2=1/\L.hs=Kc.Bd zs
 | .mc L f=>f=Km.Bl n n/\L.a1=0/\L.a2=1/\L.hs=Km.Bd zs
 | .ab L f=>∃ ea:Nat,pl=(ea:Int)/\1<=ea/\ea<=8/\f=Ka.Bl n ea n/\L.a1=0/\L.a2=1/\L.hs=Ka.Et ea zs
 | .hi L f=>f=Kh.Bl zs n n/\L.a1=0/\L.a2=1/\L.hs=Kh.Dm zs
 | .co L f=>f=QZ zs n G D B n/\L.a1=0/\L.hs=Bd zs n G D/\CK G D B=true
def CU (w0:World) (P:Any->Prop) (q:Pl) (e:Ending) (w':World):Prop:=
 ∃ (lb ty:Nat),e= .returned (.tuple #[.iface ty (.pointer (some ⟨lb,0,none⟩)),.int .i64 0])/\Wr Nil w0 w'/\
  ∀ W,Wr Nil w' W->Calls prog 26 #[.pointer (some ⟨q.p,0,none⟩)] W λe w''=>∃ a:Any,e= .returned (.tuple #[.pointer (some ⟨a.q.p,0,none⟩),.int .i64 0])/\a.lb=lb/\a.ty=ty/\P a/\a.Ap w0 w''
def Ky (kd:Int) (n:Nat) (zs:List Int) (sz pl B G D:Int):Int:=
 if kd<1\/7<kd then 7
 else if A8 zs=false\/n<1\/64<n then 1
 else if kd=2/\(Bj sz=false\/sz<n) then 7
 else if kd=5/\(pl<1\/8<pl) then 7
 else if kd=7/\CK G D B=false then 7
 else 0
section
variable {w0 w1 w2:World} {q q2:Pl} {n:Nat} {zs:List Int} {v sz pl B G D:Int}
theorem SD (ho:A8 zs=true):FO (zs.getD 0 0)=true:=Kc.Co ho 0
theorem Ed (h0:Wr Nil w0 w1) (hq:∀ k,q.F k->w0.heap.size<=k) (hW:Wr q.F w1 w2):Wr Nil w0 w2:=h0.trans hW λk hk e=>by have:=hq k e;unfold Nil;omega
theorem bY (h0:Wr Nil w0 w1) (hq:∀ k,q.F k->w0.heap.size<=k) (hne:q.p<w1.heap.size) (n1:1<=n) (n2:n<=64) (ho:A8 zs=true) (hn:zs.length=n) (hv:0<=v/\v<4294967296) {L:Kf.Lp} (hR:Kf.FlRaw w2 L (.pointer none) (AQ n false true) (λ_=>0) (λ_=>false)) (hl:w1.heap.size<=L.lb/\w1.heap.size<=L.p/\w1.heap.size<=L.b/\w1.heap.size<=L.tb) (h1:L.a1=0) (h2:L.a2=1) (Eu:q2.p=q.p) (hP:PlanAt w2 q2 n [zs.getD 0 0,zs.getD 0 0] [v,v]) (hW:Wr q.F w1 w2):
  CU w0 (λa=>a.kd=1/\DM n zs v sz pl B G D a) q (.returned (.tuple #[.iface 78 (.pointer (some ⟨L.lb,0,none⟩)),.int .i64 0])) w2:=
 ⟨L.lb,_,rfl,Ed h0 hq hW,λW k=>(Kf.Cn (w0:=w0) h0 hq n1 n2 (SD ho) hv (hR.after k) hl h1 h2 Eu (hP.after k) (hW.trans k λ_ _ e=>e.elim)).mono λe w9 ⟨L9,he,⟨a1,a2,hK⟩,hlb,QK⟩=>⟨.tk L9 _,he,hlb,rfl,⟨rfl,rfl,a1,a2,QK⟩,hK⟩⟩
theorem bX (h0:Wr Nil w0 w1) (hq:∀ k,q.F k->w0.heap.size<=k) (hne:q.p<w1.heap.size) (n1:1<=n) (n2:n<=64) (ho:A8 zs=true) (hn:zs.length=n) (hv:0<=v/\v<4294967296) {m z:Nat} (hsz:sz=(m:Int)) (Fa:Bj m=true) (Yz:n<=m) (hz:v%(m:Int)=(z:Int)) {L:Ks.Lp} (hR:Ks.FlRaw w2 L (.pointer none) (AQ n false false) m (λ_=>0) (λ_=>0)) (hl:w1.heap.size<=L.lb/\w1.heap.size<=L.p/\w1.heap.size<=L.b/\w1.heap.size<=L.tb) (h1:L.a1=0) (h2:L.a2=1) (Eu:q2.p=q.p) (hP:PlanAt w2 q2 n (Ks.FN zs n m) ([v]++Ks.D4 z m)) (hW:Wr q.F w1 w2):
  CU w0 (λa=>a.kd=2/\DM n zs v sz pl B G D a) q (.returned (.tuple #[.iface 81 (.pointer (some ⟨L.lb,0,none⟩)),.int .i64 0])) w2:=
 ⟨L.lb,_,rfl,Ed h0 hq hW,λW k=>(Ks.Cn (w0:=w0) h0 hq n1 n2 ho Fa hv (hR.after k) hl h1 h2 Eu (hP.after k) (hW.trans k λ_ _ e=>e.elim) hne).mono λe w9 ⟨L9,he,⟨a1,a2,hK⟩,hlb,QK,_⟩=>⟨.sl L9 _,he,hlb,rfl,⟨rfl,m,z,hsz,Fa,Yz,hz,rfl,a1,a2,QK⟩,hK⟩⟩
theorem bS (h0:Wr Nil w0 w1) (hq:∀ k,q.F k->w0.heap.size<=k) (hne:q.p<w1.heap.size) (n1:1<=n) (n2:n<=64) (ho:A8 zs=true) (hn:zs.length=n) {L:Kc.Lp} (hR:Kc.FlRaw w2 L (.pointer none) (AQ n false true) (λ_=>0) (Kc.CP n) (λ_=>0)) (hl:w1.heap.size<=L.lb/\w1.heap.size<=L.p/\w1.heap.size<=L.b/\w1.heap.size<=L.tb) (h1:L.a1=0) (h2:L.a2=1) (Eu:q2.p=q.p) (hP:PlanAt w2 q2 n (Kc.Bd zs) (Kc.Ef n)) (hW:Wr q.F w1 w2):
  CU w0 (λa=>a.kd=3/\DM n zs v sz pl B G D a) q (.returned (.tuple #[.iface 84 (.pointer (some ⟨L.lb,0,none⟩)),.int .i64 0])) w2:=
 ⟨L.lb,_,rfl,Ed h0 hq hW,λW k=>(Kc.Cn (w0:=w0) h0 hq n1 n2 ho hn (hR.after k) hl h1 h2 Eu (hP.after k) (hW.trans k λ_ _ e=>e.elim)).mono λe w9 ⟨L9,he,⟨a1,a2,hK⟩,hlb,QK⟩=>⟨.cl L9 _,he,hlb,rfl,⟨rfl,rfl,a1,a2,QK⟩,hK⟩⟩
theorem bV (h0:Wr Nil w0 w1) (hq:∀ k,q.F k->w0.heap.size<=k) (hne:q.p<w1.heap.size) (n1:1<=n) (n2:n<=64) (ho:A8 zs=true) (hn:zs.length=n) {L:Km.Lp} (hR:Km.FlRaw w2 L (.pointer none) (AQ n false true) (λ_=>0) (λ_=>0)) (hl:w1.heap.size<=L.lb/\w1.heap.size<=L.p/\w1.heap.size<=L.b/\w1.heap.size<=L.tb) (h1:L.a1=0) (h2:L.a2=1) (Eu:q2.p=q.p) (hP:PlanAt w2 q2 n (Km.Bd zs) (Km.Ef n)) (hW:Wr q.F w1 w2):
  CU w0 (λa=>a.kd=4/\DM n zs v sz pl B G D a) q (.returned (.tuple #[.iface 87 (.pointer (some ⟨L.lb,0,none⟩)),.int .i64 0])) w2:=
 ⟨L.lb,_,rfl,Ed h0 hq hW,λW k=>(Km.Cn (w0:=w0) h0 hq n1 n2 ho hn (hR.after k) hl h1 h2 Eu (hP.after k) (hW.trans k λ_ _ e=>e.elim) hne).mono λe w9 ⟨L9,he,⟨a1,a2,hK⟩,hlb,QK,_⟩=>⟨.mc L9 _,he,hlb,rfl,⟨rfl,rfl,a1,a2,QK⟩,hK⟩⟩
theorem bR (h0:Wr Nil w0 w1) (hq:∀ k,q.F k->w0.heap.size<=k) (hne:q.p<w1.heap.size) (n1:1<=n) (n2:n<=64) (ho:A8 zs=true) (hn:zs.length=n) {ea:Nat} (hp:pl=(ea:Int)) (e1:1<=ea) (e2:ea<=8) {L:Ka.Lp} (hR:Ka.UT w2 L n ea) (hl:w1.heap.size<=L.lb/\w1.heap.size<=L.p/\w1.heap.size<=L.b/\w1.heap.size<=L.tb) (h1:L.a1=0) (h2:L.a2=1) (Eu:q2.p=q.p) (hP:PlanAt w2 q2 n (Ka.Et ea zs) (Ka.IC (n*ea))) (hW:Wr q.F w1 w2):
  CU w0 (λa=>a.kd=5/\DM n zs v sz pl B G D a) q (.returned (.tuple #[.iface 90 (.pointer (some ⟨L.lb,0,none⟩)),.int .i64 0])) w2:=
 ⟨L.lb,_,rfl,Ed h0 hq hW,λW k=>(Ka.Cn (w0:=w0) h0 hq n1 n2 e2 ho hn (hR.after k) hl h1 h2 Eu (hP.after k) (hW.trans k λ_ _ e=>e.elim)).mono λe w9 ⟨L9,he,⟨a1,a2,hK⟩,hlb,QK⟩=>⟨.ab L9 _,he,hlb,rfl,⟨rfl,ea,hp,e1,e2,rfl,a1,a2,QK⟩,hK⟩⟩
theorem bU (h0:Wr Nil w0 w1) (hq:∀ k,q.F k->w0.heap.size<=k) (hne:q.p<w1.heap.size) (n1:1<=n) (n2:n<=64) (ho:A8 zs=true) (hn:zs.length=n) {L:Kh.Lp} (hR:Kh.FlRaw w2 L (.pointer none) (AQ n false false) (λ_=>0) (Kh.Y8 zs)) (hl:w1.heap.size<=L.lb/\w1.heap.size<=L.p/\w1.heap.size<=L.b/\w1.heap.size<=L.tb) (h1:L.a1=0) (h2:L.a2=1) (Eu:q2.p=q.p) (hP:PlanAt w2 q2 n (Kh.Dm zs) (Kh.Dy n)) (hW:Wr q.F w1 w2):
  CU w0 (λa=>a.kd=6/\DM n zs v sz pl B G D a) q (.returned (.tuple #[.iface 93 (.pointer (some ⟨L.lb,0,none⟩)),.int .i64 0])) w2:=
 ⟨L.lb,_,rfl,Ed h0 hq hW,λW k=>(Kh.Cn (w0:=w0) h0 hq n1 n2 ho hn (hR.after k) hl h1 h2 Eu (hP.after k) (hW.trans k λ_ _ e=>e.elim)).mono λe w9 ⟨L9,he,⟨a1,a2,hK⟩,hlb,QK⟩=>⟨.hi L9 _,he,hlb,rfl,⟨rfl,rfl,a1,a2,QK⟩,hK⟩⟩
theorem bT (h0:Wr Nil w0 w1) (hq:∀ k,q.F k->w0.heap.size<=k) (hne:q.p<w1.heap.size) (n1:1<=n) (n2:n<=64) (ho:A8 zs=true) (hn:zs.length=n) (hr:CK G D B=true) (hB:1<=B/\B<=1000) {L:Lp} (hR:∀ ps,FlRaw w2 L (.pointer none) (.pointer none) (λ_=> .pointer none) (P_ (K0 zs) n G D B 0 ps) (λ_=>Ku)) (hl:w1.heap.size<=L.lo) (h1:L.a1=0) (Eu:q2.p=q.p) (hP:PlanAt w2 q2 n (Bd zs n G D) (FU zs n G D)) (hW:Wr q.F w1 w2):
  CU w0 (λa=>a.kd=7/\DM n zs v sz pl B G D a) q (.returned (.tuple #[.iface 96 (.pointer (some ⟨L.lb,0,none⟩)),.int .i64 0])) w2:=
 ⟨L.lb,_,rfl,Ed h0 hq hW,λW k=>(Cn (w0:=w0) h0 hq n1 n2 ho hn hB (λps=>(hR ps).after k) hl h1 Eu (hP.after k) (hW.trans k λ_ _ e=>e.elim)).mono λe w9 ⟨L9,he,⟨a1,hK⟩,hlb,QK⟩=>⟨.co L9 _,he,hlb,rfl,⟨rfl,rfl,a1,QK,hr⟩,hK⟩⟩
def DN (w0:World) (P:Any->Prop) (q:Pl) (ty:Nat) (e:Ending) (w':World):Prop:=∃ lb:Nat,e= .returned (.tuple #[.pointer (some ⟨lb,0,none⟩),.int .i64 0])/\CU w0 P q (.returned (.tuple #[.iface ty (.pointer (some ⟨lb,0,none⟩)),.int .i64 0])) w'
end
theorem DM.zero {n:Nat} {zs:List Int} {v sz pl B G D:Int} {a:Any} (h:DM n zs v sz pl B G D a):
  (∃ x y,a.s=AQ n x y)/\a.ps.ac=List.replicate n 0/\a.ps.D=[]:=by
 cases a with
 |tk L f=>obtain ⟨rfl,_⟩:=h;exact ⟨⟨_,_,rfl⟩,rfl,rfl⟩
 |sl L f=>obtain ⟨m,z,_,_,_,_,rfl,_⟩:=h;exact ⟨⟨_,_,rfl⟩,rfl,rfl⟩
 |cl L f=>obtain ⟨rfl,_⟩:=h;exact ⟨⟨_,_,rfl⟩,rfl,rfl⟩
 |mc L f=>obtain ⟨rfl,_⟩:=h;exact ⟨⟨_,_,rfl⟩,rfl,rfl⟩
 |ab L f=>obtain ⟨ea,_,_,_,rfl,_⟩:=h;exact ⟨⟨_,_,rfl⟩,rfl,rfl⟩
 |hi L f=>obtain ⟨rfl,_⟩:=h;exact ⟨⟨_,_,rfl⟩,rfl,rfl⟩
 |co L f=>obtain ⟨rfl,_⟩:=h;exact ⟨⟨_,_,rfl⟩,rfl,rfl⟩
theorem JE (v:Value) (w:World):Calls prog 33 #[v,.int .i64 0] w λe w'=>e= .returned (.tuple #[v,.int .i64 0])/\w=w':=zz27
section
variable {w0 w1:World} {q:Pl} {b o n cap:Nat} {zs:List Int} {v sz pl B G D:Int}
theorem bG (h0:Wr Nil w0 w1) (hq:∀ k,q.F k->w0.heap.size<=k) (hP:PlanAt w1 q n [] []) (hr:Ad .i64 w0 (some ⟨b,o,none⟩) n zs) (hb:b<w0.heap.size) (ho:A8 zs=true) (n1:1<=n) (n2:n<=64) (hv:0<=v/\v<4294967296):
  Calls prog 34 #[.pointer (some ⟨q.p,0,none⟩),.slice (some ⟨b,o,none⟩) n cap,.int .u32 v] w1 (DN w0 (λa=>a.kd=1/\DM n zs v sz pl B G D a) q 78):=by
 have hn:=hr.len;have hne:q.p<w1.heap.size:=hP.lt (.inl rfl);refine (Kf.Cv (cap:=cap) (v:=v) hP (hr.after h0) ho n1 n2 (Nat.zero_le _) (λe=>by have:=hq b e;omega) hv).mono ?_;intro e w2 D7;unfold Kf.Ej at D7;obtain ⟨L,q2,rfl,hR,hl,h1,h2,Eu,Fk,hW,_⟩:=D7;exact ⟨L.lb,rfl,bY h0 hq hne n1 n2 ho hn hv hR hl h1 h2 Eu Fk hW⟩
theorem ay (h0:Wr Nil w0 w1) (hq:∀ k,q.F k->w0.heap.size<=k) (hP:PlanAt w1 q n [] []) (hr:Ad .i64 w0 (some ⟨b,o,none⟩) n zs) (hb:b<w0.heap.size) (ho:A8 zs=true) (n1:1<=n) (n2:n<=64) (hv:0<=v/\v<4294967296):
  Calls prog 25 #[.pointer (some ⟨q.p,0,none⟩),.agg #[.int .i64 1,.slice (some ⟨b,o,none⟩) n cap,.int .u32 v,.int .i64 sz,.int .i64 pl,.int .i64 B,.int .i64 G,.int .i64 D]] w1 (CU w0 (λa=>a.kd=1/\DM n zs v sz pl B G D a) q):=by
 have cN:=λW (k:Wr Nil w1 W)=>bG (cap:=cap) (v:=v) (sz:=sz) (pl:=pl) (B:=B) (G:=G) (D:=D) (h0.nil k) hq (hP.after k) hr hb ho n1 n2 hv;exact zz9
theorem bF (h0:Wr Nil w0 w1) (hq:∀ k,q.F k->w0.heap.size<=k) (hP:PlanAt w1 q n [] []) (hr:Ad .i64 w0 (some ⟨b,o,none⟩) n zs) (hb:b<w0.heap.size) (ho:A8 zs=true) (n1:1<=n) (n2:n<=64) (hv:0<=v/\v<4294967296) {m z:Nat} (Fa:Bj m=true) (Yz:n<=m) (hz:v%(m:Int)=(z:Int)) (hsz:sz=(m:Int)):
  Calls prog 35 #[.pointer (some ⟨q.p,0,none⟩),.slice (some ⟨b,o,none⟩) n cap,.int .i64 sz,.int .u32 v] w1 (DN w0 (λa=>a.kd=2/\DM n zs v sz pl B G D a) q 81):=by
 subst hsz;have hn:=hr.len;have hne:q.p<w1.heap.size:=hP.lt (.inl rfl);refine (Ks.Cv (cap:=cap) (v:=v) hP (hr.after h0) ho n1 n2 Fa Yz (Nat.zero_le _) (λe=>by have:=hq b e;omega) hv hz).mono ?_;intro e w2 D7;unfold Ks.FH at D7;obtain ⟨L,q2,rfl,hR,hl,h1,h2,Eu,Fk,hW,_⟩:=D7;exact ⟨L.lb,rfl,bX h0 hq hne n1 n2 ho hn hv rfl Fa Yz hz hR hl h1 h2 Eu Fk hW⟩
theorem ax (h0:Wr Nil w0 w1) (hq:∀ k,q.F k->w0.heap.size<=k) (hP:PlanAt w1 q n [] []) (hr:Ad .i64 w0 (some ⟨b,o,none⟩) n zs) (hb:b<w0.heap.size) (ho:A8 zs=true) (n1:1<=n) (n2:n<=64) (hv:0<=v/\v<4294967296) {m z:Nat} (Fa:Bj m=true) (Yz:n<=m) (hz:v%(m:Int)=(z:Int)) (hsz:sz=(m:Int)):
  Calls prog 25 #[.pointer (some ⟨q.p,0,none⟩),.agg #[.int .i64 2,.slice (some ⟨b,o,none⟩) n cap,.int .u32 v,.int .i64 sz,.int .i64 pl,.int .i64 B,.int .i64 G,.int .i64 D]] w1 (CU w0 (λa=>a.kd=2/\DM n zs v sz pl B G D a) q):=by
 subst hsz;have cN:=λW (k:Wr Nil w1 W)=>bF (cap:=cap) (v:=v) (sz:=(m:Int)) (pl:=pl) (B:=B) (G:=G) (D:=D) (h0.nil k) hq (hP.after k) hr hb ho n1 n2 hv Fa Yz hz rfl;exact zz9
theorem bB (h0:Wr Nil w0 w1) (hq:∀ k,q.F k->w0.heap.size<=k) (hP:PlanAt w1 q n [] []) (hr:Ad .i64 w0 (some ⟨b,o,none⟩) n zs) (hb:b<w0.heap.size) (ho:A8 zs=true) (n1:1<=n) (n2:n<=64):
  Calls prog 36 #[.pointer (some ⟨q.p,0,none⟩),.slice (some ⟨b,o,none⟩) n cap] w1 (DN w0 (λa=>a.kd=3/\DM n zs v sz pl B G D a) q 84):=by
 have hn:=hr.len;have hne:q.p<w1.heap.size:=hP.lt (.inl rfl);refine (Kc.Cv (cap:=cap) hP (hr.after h0) ho n1 n2 (Nat.zero_le _) (λe=>by have:=hq b e;omega)).mono ?_;intro e w2 D7;unfold Kc.FF at D7;obtain ⟨L,q2,rfl,hR,hl,h1,h2,Eu,Fk,hW,_⟩:=D7;exact ⟨L.lb,rfl,bS h0 hq hne n1 n2 ho hn hR hl h1 h2 Eu Fk hW⟩
theorem ak (h0:Wr Nil w0 w1) (hq:∀ k,q.F k->w0.heap.size<=k) (hP:PlanAt w1 q n [] []) (hr:Ad .i64 w0 (some ⟨b,o,none⟩) n zs) (hb:b<w0.heap.size) (ho:A8 zs=true) (n1:1<=n) (n2:n<=64):
  Calls prog 25 #[.pointer (some ⟨q.p,0,none⟩),.agg #[.int .i64 3,.slice (some ⟨b,o,none⟩) n cap,.int .u32 v,.int .i64 sz,.int .i64 pl,.int .i64 B,.int .i64 G,.int .i64 D]] w1 (CU w0 (λa=>a.kd=3/\DM n zs v sz pl B G D a) q):=by
 have cN:=λW (k:Wr Nil w1 W)=>bB (cap:=cap) (v:=v) (sz:=sz) (pl:=pl) (B:=B) (G:=G) (D:=D) (h0.nil k) hq (hP.after k) hr hb ho n1 n2;exact zz9
theorem bE (h0:Wr Nil w0 w1) (hq:∀ k,q.F k->w0.heap.size<=k) (hP:PlanAt w1 q n [] []) (hr:Ad .i64 w0 (some ⟨b,o,none⟩) n zs) (hb:b<w0.heap.size) (ho:A8 zs=true) (n1:1<=n) (n2:n<=64):
  Calls prog 37 #[.pointer (some ⟨q.p,0,none⟩),.slice (some ⟨b,o,none⟩) n cap] w1 (DN w0 (λa=>a.kd=4/\DM n zs v sz pl B G D a) q 87):=by
 have hn:=hr.len;have hne:q.p<w1.heap.size:=hP.lt (.inl rfl);refine (Km.Cv (cap:=cap) hP (hr.after h0) ho n1 n2 (Nat.zero_le _) (λe=>by have:=hq b e;omega)).mono ?_;intro e w2 D7;unfold Km.FG at D7;obtain ⟨L,q2,rfl,hR,hl,h1,h2,Eu,Fk,hW,_⟩:=D7;exact ⟨L.lb,rfl,bV h0 hq hne n1 n2 ho hn hR hl h1 h2 Eu Fk hW⟩
theorem av (h0:Wr Nil w0 w1) (hq:∀ k,q.F k->w0.heap.size<=k) (hP:PlanAt w1 q n [] []) (hr:Ad .i64 w0 (some ⟨b,o,none⟩) n zs) (hb:b<w0.heap.size) (ho:A8 zs=true) (n1:1<=n) (n2:n<=64):
  Calls prog 25 #[.pointer (some ⟨q.p,0,none⟩),.agg #[.int .i64 4,.slice (some ⟨b,o,none⟩) n cap,.int .u32 v,.int .i64 sz,.int .i64 pl,.int .i64 B,.int .i64 G,.int .i64 D]] w1 (CU w0 (λa=>a.kd=4/\DM n zs v sz pl B G D a) q):=by
 have cN:=λW (k:Wr Nil w1 W)=>bE (cap:=cap) (v:=v) (sz:=sz) (pl:=pl) (B:=B) (G:=G) (D:=D) (h0.nil k) hq (hP.after k) hr hb ho n1 n2;exact zz9
theorem b9 (h0:Wr Nil w0 w1) (hq:∀ k,q.F k->w0.heap.size<=k) (hP:PlanAt w1 q n [] []) (hr:Ad .i64 w0 (some ⟨b,o,none⟩) n zs) (hb:b<w0.heap.size) (ho:A8 zs=true) (n1:1<=n) (n2:n<=64) {ea:Nat} (e1:1<=ea) (e2:ea<=8) (hp:pl=(ea:Int)):
  Calls prog 38 #[.pointer (some ⟨q.p,0,none⟩),.slice (some ⟨b,o,none⟩) n cap,.int .i64 pl] w1 (DN w0 (λa=>a.kd=5/\DM n zs v sz pl B G D a) q 90):=by
 subst hp;have hn:=hr.len;have hne:q.p<w1.heap.size:=hP.lt (.inl rfl);refine (Ka.Cv (cap:=cap) hP (hr.after h0) ho n1 n2 ea e1 e2 (Nat.zero_le _) (λe=>by have:=hq b e;omega)).mono ?_;intro e w2 D7;unfold Ka.Hn at D7;obtain ⟨L,q2,rfl,hR,hl,h1,h2,Eu,Fk,hW,_⟩:=D7;exact ⟨L.lb,rfl,bR h0 hq hne n1 n2 ho hn rfl e1 e2 hR hl h1 h2 Eu (by unfold Ka.Et;rw [hn];exact Fk) hW⟩
theorem ai (h0:Wr Nil w0 w1) (hq:∀ k,q.F k->w0.heap.size<=k) (hP:PlanAt w1 q n [] []) (hr:Ad .i64 w0 (some ⟨b,o,none⟩) n zs) (hb:b<w0.heap.size) (ho:A8 zs=true) (n1:1<=n) (n2:n<=64) {ea:Nat} (e1:1<=ea) (e2:ea<=8) (hp:pl=(ea:Int)):
  Calls prog 25 #[.pointer (some ⟨q.p,0,none⟩),.agg #[.int .i64 5,.slice (some ⟨b,o,none⟩) n cap,.int .u32 v,.int .i64 sz,.int .i64 pl,.int .i64 B,.int .i64 G,.int .i64 D]] w1 (CU w0 (λa=>a.kd=5/\DM n zs v sz pl B G D a) q):=by
 subst hp;have cN:=λW (k:Wr Nil w1 W)=>b9 (cap:=cap) (v:=v) (sz:=sz) (pl:=(ea:Int)) (B:=B) (G:=G) (D:=D) (h0.nil k) hq (hP.after k) hr hb ho n1 n2 e1 e2 rfl;exact zz9
theorem bD (h0:Wr Nil w0 w1) (hq:∀ k,q.F k->w0.heap.size<=k) (hP:PlanAt w1 q n [] []) (hr:Ad .i64 w0 (some ⟨b,o,none⟩) n zs) (hb:b<w0.heap.size) (ho:A8 zs=true) (n1:1<=n) (n2:n<=64):
  Calls prog 39 #[.pointer (some ⟨q.p,0,none⟩),.slice (some ⟨b,o,none⟩) n cap] w1 (DN w0 (λa=>a.kd=6/\DM n zs v sz pl B G D a) q 93):=by
 have hn:=hr.len;have hne:q.p<w1.heap.size:=hP.lt (.inl rfl);refine (Kh.Cv (cap:=cap) hP (hr.after h0) ho n1 n2 (Nat.zero_le _) (λe=>by have:=hq b e;omega)).mono ?_;intro e w2 D7;unfold Kh.Fb at D7;obtain ⟨L,q2,rfl,hR,hl,h1,h2,Eu,Fk,hW,_⟩:=D7;exact ⟨L.lb,rfl,bU h0 hq hne n1 n2 ho hn hR hl h1 h2 Eu Fk hW⟩
theorem au (h0:Wr Nil w0 w1) (hq:∀ k,q.F k->w0.heap.size<=k) (hP:PlanAt w1 q n [] []) (hr:Ad .i64 w0 (some ⟨b,o,none⟩) n zs) (hb:b<w0.heap.size) (ho:A8 zs=true) (n1:1<=n) (n2:n<=64):
  Calls prog 25 #[.pointer (some ⟨q.p,0,none⟩),.agg #[.int .i64 6,.slice (some ⟨b,o,none⟩) n cap,.int .u32 v,.int .i64 sz,.int .i64 pl,.int .i64 B,.int .i64 G,.int .i64 D]] w1 (CU w0 (λa=>a.kd=6/\DM n zs v sz pl B G D a) q):=by
 have cN:=λW (k:Wr Nil w1 W)=>bD (cap:=cap) (v:=v) (sz:=sz) (pl:=pl) (B:=B) (G:=G) (D:=D) (h0.nil k) hq (hP.after k) hr hb ho n1 n2;exact zz9
theorem bC (h0:Wr Nil w0 w1) (hq:∀ k,q.F k->w0.heap.size<=k) (hP:PlanAt w1 q n [] []) (hr:Ad .i64 w0 (some ⟨b,o,none⟩) n zs) (hb:b<w0.heap.size) (ho:A8 zs=true) (n1:1<=n) (n2:n<=64) (hc:CK G D B=true):
  Calls prog 40 #[.pointer (some ⟨q.p,0,none⟩),.slice (some ⟨b,o,none⟩) n cap,.int .i64 G,.int .i64 D,.int .i64 B] w1 (DN w0 (λa=>a.kd=7/\DM n zs v sz pl B G D a) q 96):=by
 have hn:=hr.len;have hne:q.p<w1.heap.size:=hP.lt (.inl rfl);refine (Cv (cap:=cap) hP (hr.after h0) ho (Sn hr.len ho) n1 n2 (Nat.zero_le _) (λe=>by have:=hq b e;omega) (Nat.lt_of_lt_of_le hb h0.size) hc).mono ?_;intro e w2 D7;unfold Ho at D7;obtain ⟨L,q2,rfl,hR,hl,h1,Eu,Fk,hW,_⟩:=D7;exact ⟨L.lb,rfl,bT h0 hq hne n1 n2 ho hn hc (by unfold CK at hc;simp only [Bool.and_eq_true,decide_eq_true_eq] at hc;omega) hR hl h1 Eu Fk hW⟩
theorem ar (h0:Wr Nil w0 w1) (hq:∀ k,q.F k->w0.heap.size<=k) (hP:PlanAt w1 q n [] []) (hr:Ad .i64 w0 (some ⟨b,o,none⟩) n zs) (hb:b<w0.heap.size) (ho:A8 zs=true) (n1:1<=n) (n2:n<=64) (hc:CK G D B=true):
  Calls prog 25 #[.pointer (some ⟨q.p,0,none⟩),.agg #[.int .i64 7,.slice (some ⟨b,o,none⟩) n cap,.int .u32 v,.int .i64 sz,.int .i64 pl,.int .i64 B,.int .i64 G,.int .i64 D]] w1 (CU w0 (λa=>a.kd=7/\DM n zs v sz pl B G D a) q):=by
 have cN:=λW (k:Wr Nil w1 W)=>bC (cap:=cap) (v:=v) (sz:=sz) (pl:=pl) (B:=B) (G:=G) (D:=D) (h0.nil k) hq (hP.after k) hr hb ho n1 n2 hc;exact zz9
end
section
variable {w:World} {p n cap:Nat} {sa:Option Addr} {zs:List Int} {v sz pl B G D:Int}
theorem Xv {w0 w1:World} {q:Pl} {b o:Nat} {kd:Int} (hx:Ky kd n zs sz pl B G D=0) (h0:Wr Nil w0 w1) (hq:∀ k,q.F k->w0.heap.size<=k) (hP:PlanAt w1 q n [] []) (hr:Ad .i64 w0 (some ⟨b,o,none⟩) n zs) (hb:b<w0.heap.size) (hv:0<=v/\v<4294967296):
  Calls prog 25 #[.pointer (some ⟨q.p,0,none⟩),.agg #[.int .i64 kd,.slice (some ⟨b,o,none⟩) n cap,.int .u32 v,.int .i64 sz,.int .i64 pl,.int .i64 B,.int .i64 G,.int .i64 D]] w1 (CU w0 (λa=>a.kd=kd/\DM n zs v sz pl B G D a) q):=by
 unfold Ky at hx;split at hx
 ·omega
 rename_i hk;split at hx
 ·omega
 rename_i hn;have ho:A8 zs=true:=by
  cases e:A8 zs
  ·exact absurd (.inl e) hn
  ·rfl
 have n1:1<=n:=by omega
 have n2:n<=64:=by omega
 split at hx
 ·omega
 rename_i h2;split at hx
 ·omega
 rename_i h5;split at hx
 ·omega
 rename_i h7;have:kd=1\/kd=2\/kd=3\/kd=4\/kd=5\/kd=6\/kd=7:=by omega
 rcases this with rfl|rfl|rfl|rfl|rfl|rfl|rfl
 ·exact ay h0 hq hP hr hb ho n1 n2 hv
 ·have hs:Bj sz=true:=by
   cases e:Bj sz
   ·exact absurd ⟨rfl,.inl e⟩ h2
   ·rfl
  obtain ⟨m,rfl⟩:=Qx (show 0<=sz by unfold Bj at hs;have:=of_decide_eq_true hs;omega);have hm:n<=m:=by omega
  obtain ⟨z,hz⟩:=Qx (Int.emod_nonneg v (show (m:Int)≠0 by omega));exact ax h0 hq hP hr hb ho n1 n2 hv hs hm hz rfl
 ·exact ak h0 hq hP hr hb ho n1 n2
 ·exact av h0 hq hP hr hb ho n1 n2
 ·obtain ⟨ea,rfl⟩:=Qx (show 0<=pl by omega)
  exact ai h0 hq hP hr hb ho n1 n2 (by omega) (by omega) rfl
 ·exact au h0 hq hP hr hb ho n1 n2
 ·have hc:CK G D B=true:=by
   cases e:CK G D B
   ·exact absurd ⟨rfl,e⟩ h7
   ·rfl
  exact ar h0 hq hP hr hb ho n1 n2 hc
end
def Ki (w0:World) (P:Any->Prop) (e:Ending) (w':World):Prop:=∃ a:Any,e= .returned (.tuple #[a.val,.pointer (some ⟨a.q.p,0,none⟩),.int .i64 0])/\a.At w0 w'/\P a
theorem Ul {w0:World} {n cap:Nat} {sa:Option Addr} {kd v sz pl B G D:Int} {P:Any->Prop} (hn:n<=9223372036854775807)
  (hl:∀ (q:Pl) w1,PlanAt w1 q n [] []->(∀ k,q.F k->w0.heap.size<=k)->Wr Nil w0 w1->Calls prog 25 #[.pointer (some ⟨q.p,0,none⟩),.agg #[.int .i64 kd,.slice sa n cap,.int .u32 v,.int .i64 sz,.int .i64 pl,.int .i64 B,.int .i64 G,.int .i64 D]] w1 (CU w0 P q)):
  Calls prog 17 #[.agg #[.int .i64 kd,.slice sa n cap,.int .u32 v,.int .i64 sz,.int .i64 pl,.int .i64 B,.int .i64 G,.int .i64 D]] w0 (Ki w0 P):=by
 obtain ⟨X,hX⟩:∃ X,X=w0.alloc (.cells #[.int .i64 kd,.slice sa n cap,.int .u32 v,.int .i64 sz,.int .i64 pl,.int .i64 B,.int .i64 G,.int .i64 D] 25):=⟨_,rfl⟩
 have E_:Wr Nil w0 X:=by rw [hX];exact (Wr.refl _ w0).alloc _
 have hblk:X.heap[w0.heap.size]? =some (.cells #[.int .i64 kd,.slice sa n cap,.int .u32 v,.int .i64 sz,.int .i64 pl,.int .i64 B,.int .i64 G,.int .i64 D] 25 (0,0)):=by rw [hX];exact Go.Deep.blk_alloc_new _ _
 have HL:=Qw (Qz hl E_);have HX:=Qw hX;clear hl hX;have x0:X.cell? ⟨w0.heap.size,0,none⟩=some (.int .i64 kd):=(A1 hblk 0).trans rfl;have x1:X.cell? ⟨w0.heap.size,1,none⟩=some (.slice sa n cap):=(A1 hblk 1).trans rfl;have x2:X.cell? ⟨w0.heap.size,2,none⟩=some (.int .u32 v):=(A1 hblk 2).trans rfl;have x3:X.cell? ⟨w0.heap.size,3,none⟩=some (.int .i64 sz):=(A1 hblk 3).trans rfl;have x4:X.cell? ⟨w0.heap.size,4,none⟩=some (.int .i64 pl):=(A1 hblk 4).trans rfl;have x5:X.cell? ⟨w0.heap.size,5,none⟩=some (.int .i64 B):=(A1 hblk 5).trans rfl;have x6:X.cell? ⟨w0.heap.size,6,none⟩=some (.int .i64 G):=(A1 hblk 6).trans rfl;have x7:X.cell? ⟨w0.heap.size,7,none⟩=some (.int .i64 D):=(A1 hblk 7).trans rfl
 go_in
 go_wp2_with (first
  |(go_at_call 24;rw [<-HX.out];(with_reducible refine (Qt n X).mono ?_);rintro e w1 ⟨q,rfl,hP,hnew,Gk⟩;have cL:=HL.out.1 q w1 hP (λk hk=>Nat.le_trans HL.out.2.size (hnew k hk)) (HL.out.2.nil Gk);have y0:=Gk.old x0;have y1:=Gk.old x1;have y2:=Gk.old x2;have y3:=Gk.old x3;have y4:=Gk.old x4;have y5:=Gk.old x5;have y6:=Gk.old x6;have y7:=Gk.old x7;clear hP hnew Gk)
  |((with_reducible refine cL.mono ?_);intro e w2 hq;unfold CU at hq;obtain ⟨lb,ty,rfl,Ba,hP⟩:=hq;have cP:=hP w2 (Wr.refl _ _);clear hP Ba cL)
  |((with_reducible refine cP.mono ?_);rintro e w3 ⟨a,rfl,hlb,hty,Zn,hA⟩;subst hlb;subst hty;have m0:=a.Bh;have m1:=a.W3;have m2:=a.OJ;have cU:=Any.Uc hA;have HA:=Qw Zn;clear hA Zn cP)
  |((with_reducible refine cU.mono ?_);rintro e w4 ⟨rfl,hL,_⟩;have HZ:=Qw hL;clear hL cU))
 go_returns;exact ⟨_,rfl,HZ.out,HA.out⟩
theorem Rp {w0:World} {n cap b o:Nat} {zs:List Int} {kd v sz pl B G D:Int} (hx:Ky kd n zs sz pl B G D=0) (hn:n<=1000000) (hr:Ad .i64 w0 (some ⟨b,o,none⟩) n zs) (hb:b<w0.heap.size) (hv:0<=v/\v<4294967296):
  Calls prog 17 #[.agg #[.int .i64 kd,.slice (some ⟨b,o,none⟩) n cap,.int .u32 v,.int .i64 sz,.int .i64 pl,.int .i64 B,.int .i64 G,.int .i64 D]] w0 (Ki w0 λa=>a.kd=kd/\DM n zs v sz pl B G D a):=
 Ul (by omega) λq w1 hP hq h0=>Xv hx h0 hq hP hr hb hv
theorem YJ (w:World):Ad .i64 (w.alloc (.cells #[.int .i64 0] 3)) (some ⟨w.heap.size,0,none⟩) 1 [0]:=by
 refine ⟨rfl,λe=>(by cases e),λb hb j hj=> ?_⟩;have e:j=0:=by omega
 subst e;cases hb;exact (A1 (Go.Deep.blk_alloc_new w (.cells #[.int .i64 0] 3)) 0).trans rfl
def Kb (w:World) (e:Ending) (w':World):Prop:=e= .returned (.bool true)/\Wr Nil w w'
end Go.Proofs.YtmnephejhkfchaaGreat

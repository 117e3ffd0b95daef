
import Derived.Test.YtmnephejhkfchaaGreatAny
import Derived.Test.YtmnephejhkfchaaGreatCohInner
namespace Go.Proofs.YtmnephejhkfchaaGreat
open _root_.Go.Proofs.Tryz
open Go.RowKit Go.BigFrame
set_option linter.unusedVariables false
set_option maxRecDepth 100000
namespace Any
def kd:Any→Int
 |tk _ _=>1
 |sl _ _=>2
 |cl _ _=>3
 |mc _ _=>4
 |ab _ _=>5
def Ap (w0 w:World):Any→Prop
 |tk L f=>Kf.LkP w0 w L f
 |sl L f=>Ks.LkP w0 w L f
 |cl L f=>Kc.LkP w0 w L f
 |mc L f=>Km.LkP w0 w L f
 |ab L f=>Ka.LkP w0 w L f
theorem any_use {w0 w:World} {a:Any} (h:a.Ap w0 w):Calls prog a.useF #[.pointer (some ⟨a.lb,0,none⟩),.pointer (some ⟨a.q.p,0,none⟩)] w λe w'=>e= .returned (.tuple #[])∧a.At w0 w'∧Wr a.Low w w':=by
 cases a with
 |tk L f=>exact Kf.lp_use h
 |sl L f=>exact Ks.lp_use h
 |cl L f=>exact Kc.lp_use h
 |mc L f=>exact Km.lp_use h
 |ab L f=>exact Ka.lp_use h
end Any
def NewA (n:Nat) (zs:List Int) (v sz pl B G D:Int):Any→Prop
 | .tk L f=>f=Kf.newF n n v∧L.a1=0∧L.a2=1∧L.hs=[zs.getD 0 0,zs.getD 0 0]
 | .sl L f=>∃ m z:Nat,sz=(m:Int)∧sizeB m=true∧n≤m∧v%(m:Int)=(z:Int)∧f=Ks.newF n n m z v∧L.a1=0∧L.a2=1∧L.hs=Ks.homesS zs n m
 | .cl L f=>f=Kc.newF n n∧L.a1=0∧L.a2=1∧L.hs=Kc.homesC zs
 | .mc L f=>f=Km.newF n n∧L.a1=0∧L.a2=1∧L.hs=Km.homesC zs
 | .ab L f=>∃ ea:Nat,pl=(ea:Int)∧1≤ea∧ea≤8∧f=Ka.newF n ea n∧L.a1=0∧L.a2=1∧L.hs=Ka.homesA ea zs
def BlPost (w0:World) (P:Any→Prop) (q:Pl) (e:Ending) (w':World):Prop:=
 ∃ (lb ty:Nat),e= .returned (.tuple #[.iface ty (.pointer (some ⟨lb,0,none⟩)),.int .i64 0])∧Wr Nil w0 w'∧
  ∀ W,Wr Nil w' W→Calls prog 26 #[.pointer (some ⟨q.p,0,none⟩)] W λe w''=>∃ a:Any,e= .returned (.tuple #[.pointer (some ⟨a.q.p,0,none⟩),.int .i64 0])∧a.lb=lb∧a.ty=ty∧P a∧a.Ap w0 w''
def chk (kd:Int) (n:Nat) (zs:List Int) (sz pl B G D:Int):Int:=
 if kd<1∨7<kd then 7
 else if homesOK zs=false∨n<1∨64<n then 1
 else if kd=2∧(sizeB sz=false∨sz<n) then 7
 else if kd=5∧(pl<1∨8<pl) then 7
 else if kd=7∧rightB G D B=false then 7
 else 0
section
variable {w0 w1 w2:World} {q q2:Pl} {n:Nat} {zs:List Int} {v sz pl B G D:Int}
theorem first_ok (ho:homesOK zs=true):okH (zs.getD 0 0)=true:=Kc.getD_ok ho 0
theorem old_plan (h0:Wr Nil w0 w1) (hq:∀ k,q.F k→w0.heap.size≤k) (hW:Wr q.F w1 w2):Wr Nil w0 w2:=h0.trans hW λk hk e=>by have:=hq k e;unfold Nil;omega
theorem pt_tk (h0:Wr Nil w0 w1) (hq:∀ k,q.F k→w0.heap.size≤k) (hne:q.p<w1.heap.size) (n1:1≤n) (n2:n≤64) (ho:homesOK zs=true) (hn:zs.length=n) (hv:0≤v∧v<4294967296) {L:Kf.Lp} (hR:Kf.FlRaw w2 L (.pointer none) (newSeat n false true) (λ_=>0) (λ_=>false)) (hl:w1.heap.size≤L.lb∧w1.heap.size≤L.p∧w1.heap.size≤L.b∧w1.heap.size≤L.tb) (h1:L.a1=0) (h2:L.a2=1) (hqq:q2.p=q.p) (hP:PlanAt w2 q2 n [zs.getD 0 0,zs.getD 0 0] [v,v]) (hW:Wr q.F w1 w2):
  BlPost w0 (λa=>a.kd=1∧NewA n zs v sz pl B G D a) q (.returned (.tuple #[.iface 78 (.pointer (some ⟨L.lb,0,none⟩)),.int .i64 0])) w2:=
 ⟨L.lb,_,rfl,old_plan h0 hq hW,λW k=>(Kf.fl_port (w0:=w0) h0 hq n1 n2 (first_ok ho) hv (hR.after k) hl h1 h2 hqq (hP.after k) (hW.trans k λ_ _ e=>e.elim)).mono λe w9 ⟨L9,he,⟨a1,a2,hK⟩,hlb,hhs⟩=>⟨.tk L9 _,he,hlb,rfl,⟨rfl,rfl,a1,a2,hhs⟩,hK⟩⟩
theorem pt_sl (h0:Wr Nil w0 w1) (hq:∀ k,q.F k→w0.heap.size≤k) (hne:q.p<w1.heap.size) (n1:1≤n) (n2:n≤64) (ho:homesOK zs=true) (hn:zs.length=n) (hv:0≤v∧v<4294967296) {m z:Nat} (hsz:sz=(m:Int)) (siz:sizeB m=true) (hnm:n≤m) (hz:v%(m:Int)=(z:Int)) {L:Ks.Lp} (hR:Ks.FlRaw w2 L (.pointer none) (newSeat n false false) m (λ_=>0) (λ_=>0)) (hl:w1.heap.size≤L.lb∧w1.heap.size≤L.p∧w1.heap.size≤L.b∧w1.heap.size≤L.tb) (h1:L.a1=0) (h2:L.a2=1) (hqq:q2.p=q.p) (hP:PlanAt w2 q2 n (Ks.homesS zs n m) ([v]++Ks.slotR z m)) (hW:Wr q.F w1 w2):
  BlPost w0 (λa=>a.kd=2∧NewA n zs v sz pl B G D a) q (.returned (.tuple #[.iface 81 (.pointer (some ⟨L.lb,0,none⟩)),.int .i64 0])) w2:=
 ⟨L.lb,_,rfl,old_plan h0 hq hW,λW k=>(Ks.fl_port (w0:=w0) h0 hq n1 n2 ho siz hv (hR.after k) hl h1 h2 hqq (hP.after k) (hW.trans k λ_ _ e=>e.elim) hne).mono λe w9 ⟨L9,he,⟨a1,a2,hK⟩,hlb,hhs,_⟩=>⟨.sl L9 _,he,hlb,rfl,⟨rfl,m,z,hsz,siz,hnm,hz,rfl,a1,a2,hhs⟩,hK⟩⟩
theorem pt_cl (h0:Wr Nil w0 w1) (hq:∀ k,q.F k→w0.heap.size≤k) (hne:q.p<w1.heap.size) (n1:1≤n) (n2:n≤64) (ho:homesOK zs=true) (hn:zs.length=n) {L:Kc.Lp} (hR:Kc.FlRaw w2 L (.pointer none) (newSeat n false true) (λ_=>0) (Kc.nodeK n) (λ_=>0)) (hl:w1.heap.size≤L.lb∧w1.heap.size≤L.p∧w1.heap.size≤L.b∧w1.heap.size≤L.tb) (h1:L.a1=0) (h2:L.a2=1) (hqq:q2.p=q.p) (hP:PlanAt w2 q2 n (Kc.homesC zs) (Kc.zerosC n)) (hW:Wr q.F w1 w2):
  BlPost w0 (λa=>a.kd=3∧NewA n zs v sz pl B G D a) q (.returned (.tuple #[.iface 84 (.pointer (some ⟨L.lb,0,none⟩)),.int .i64 0])) w2:=
 ⟨L.lb,_,rfl,old_plan h0 hq hW,λW k=>(Kc.fl_port (w0:=w0) h0 hq n1 n2 ho hn (hR.after k) hl h1 h2 hqq (hP.after k) (hW.trans k λ_ _ e=>e.elim)).mono λe w9 ⟨L9,he,⟨a1,a2,hK⟩,hlb,hhs⟩=>⟨.cl L9 _,he,hlb,rfl,⟨rfl,rfl,a1,a2,hhs⟩,hK⟩⟩
theorem pt_mc (h0:Wr Nil w0 w1) (hq:∀ k,q.F k→w0.heap.size≤k) (hne:q.p<w1.heap.size) (n1:1≤n) (n2:n≤64) (ho:homesOK zs=true) (hn:zs.length=n) {L:Km.Lp} (hR:Km.FlRaw w2 L (.pointer none) (newSeat n false true) (λ_=>0) (λ_=>0)) (hl:w1.heap.size≤L.lb∧w1.heap.size≤L.p∧w1.heap.size≤L.b∧w1.heap.size≤L.tb) (h1:L.a1=0) (h2:L.a2=1) (hqq:q2.p=q.p) (hP:PlanAt w2 q2 n (Km.homesC zs) (Km.zerosC n)) (hW:Wr q.F w1 w2):
  BlPost w0 (λa=>a.kd=4∧NewA n zs v sz pl B G D a) q (.returned (.tuple #[.iface 87 (.pointer (some ⟨L.lb,0,none⟩)),.int .i64 0])) w2:=
 ⟨L.lb,_,rfl,old_plan h0 hq hW,λW k=>(Km.fl_port (w0:=w0) h0 hq n1 n2 ho hn (hR.after k) hl h1 h2 hqq (hP.after k) (hW.trans k λ_ _ e=>e.elim) hne).mono λe w9 ⟨L9,he,⟨a1,a2,hK⟩,hlb,hhs,_⟩=>⟨.mc L9 _,he,hlb,rfl,⟨rfl,rfl,a1,a2,hhs⟩,hK⟩⟩
theorem pt_ab (h0:Wr Nil w0 w1) (hq:∀ k,q.F k→w0.heap.size≤k) (hne:q.p<w1.heap.size) (n1:1≤n) (n2:n≤64) (ho:homesOK zs=true) (hn:zs.length=n) {ea:Nat} (hp:pl=(ea:Int)) (e1:1≤ea) (e2:ea≤8) {L:Ka.Lp} (hR:Ka.RawN w2 L n ea) (hl:w1.heap.size≤L.lb∧w1.heap.size≤L.p∧w1.heap.size≤L.b∧w1.heap.size≤L.tb) (h1:L.a1=0) (h2:L.a2=1) (hqq:q2.p=q.p) (hP:PlanAt w2 q2 n (Ka.homesA ea zs) (Ka.zerosA (n*ea))) (hW:Wr q.F w1 w2):
  BlPost w0 (λa=>a.kd=5∧NewA n zs v sz pl B G D a) q (.returned (.tuple #[.iface 90 (.pointer (some ⟨L.lb,0,none⟩)),.int .i64 0])) w2:=
 ⟨L.lb,_,rfl,old_plan h0 hq hW,λW k=>(Ka.fl_port (w0:=w0) h0 hq n1 n2 e2 ho hn (hR.after k) hl h1 h2 hqq (hP.after k) (hW.trans k λ_ _ e=>e.elim)).mono λe w9 ⟨L9,he,⟨a1,a2,hK⟩,hlb,hhs⟩=>⟨.ab L9 _,he,hlb,rfl,⟨rfl,ea,hp,e1,e2,rfl,a1,a2,hhs⟩,hK⟩⟩
def NwPost (w0:World) (P:Any→Prop) (q:Pl) (ty:Nat) (e:Ending) (w':World):Prop:=∃ lb:Nat,e= .returned (.tuple #[.pointer (some ⟨lb,0,none⟩),.int .i64 0])∧BlPost w0 P q (.returned (.tuple #[.iface ty (.pointer (some ⟨lb,0,none⟩)),.int .i64 0])) w'
end
theorem NewA.zero {n:Nat} {zs:List Int} {v sz pl B G D:Int} {a:Any} (h:NewA n zs v sz pl B G D a):
  (∃ x y,a.s=newSeat n x y)∧a.ps.ac=List.replicate n 0∧a.ps.D=[]:=by
 cases a with
 |tk L f=>obtain ⟨rfl,_⟩:=h;exact ⟨⟨_,_,rfl⟩,rfl,rfl⟩
 |sl L f=>obtain ⟨m,z,_,_,_,_,rfl,_⟩:=h;exact ⟨⟨_,_,rfl⟩,rfl,rfl⟩
 |cl L f=>obtain ⟨rfl,_⟩:=h;exact ⟨⟨_,_,rfl⟩,rfl,rfl⟩
 |mc L f=>obtain ⟨rfl,_⟩:=h;exact ⟨⟨_,_,rfl⟩,rfl,rfl⟩
 |ab L f=>obtain ⟨ea,_,_,_,rfl,_⟩:=h;exact ⟨⟨_,_,rfl⟩,rfl,rfl⟩
theorem lk_ok (v:Value) (w:World):Calls prog 33 #[v,.int .i64 0] w λe w'=>e= .returned (.tuple #[v,.int .i64 0])∧w=w':=by
 go_enter func33,ntmps33
 go_wp2
 go_ret2
 exact ⟨rfl,rfl⟩
section
variable {w0 w1:World} {q:Pl} {b o n cap:Nat} {zs:List Int} {v sz pl B G D:Int}
theorem nw_tk (h0:Wr Nil w0 w1) (hq:∀ k,q.F k→w0.heap.size≤k) (hP:PlanAt w1 q n [] []) (hr:RowAt .i64 w0 (some ⟨b,o,none⟩) n zs) (hb:b<w0.heap.size) (ho:homesOK zs=true) (n1:1≤n) (n2:n≤64) (hv:0≤v∧v<4294967296):
  Calls prog 34 #[.pointer (some ⟨q.p,0,none⟩),.slice (some ⟨b,o,none⟩) n cap,.int .u32 v] w1 (NwPost w0 (λa=>a.kd=1∧NewA n zs v sz pl B G D a) q 78):=by
 have hn:=hr.len
 have hne:q.p<w1.heap.size:=hP.lt (.inl rfl)
 refine (Kf.fn_new (cap:=cap) (v:=v) hP (hr.after h0) ho n1 n2 (Nat.zero_le _) (λe=>by have:=hq b e;omega) hv).mono ?_
 intro e w2 hq2
 unfold Kf.NewFlatPost at hq2
 obtain ⟨L,q2,rfl,hR,hl,h1,h2,hqq,hP2,hW,_⟩:=hq2
 exact ⟨L.lb,rfl,pt_tk h0 hq hne n1 n2 ho hn hv hR hl h1 h2 hqq hP2 hW⟩
theorem ly_tk (h0:Wr Nil w0 w1) (hq:∀ k,q.F k→w0.heap.size≤k) (hP:PlanAt w1 q n [] []) (hr:RowAt .i64 w0 (some ⟨b,o,none⟩) n zs) (hb:b<w0.heap.size) (ho:homesOK zs=true) (n1:1≤n) (n2:n≤64) (hv:0≤v∧v<4294967296):
  Calls prog 25 #[.pointer (some ⟨q.p,0,none⟩),.agg #[.int .i64 1,.slice (some ⟨b,o,none⟩) n cap,.int .u32 v,.int .i64 sz,.int .i64 pl,.int .i64 B,.int .i64 G,.int .i64 D]] w1 (BlPost w0 (λa=>a.kd=1∧NewA n zs v sz pl B G D a) q):=by
 have cN:=λW (k:Wr Nil w1 W)=>nw_tk (cap:=cap) (v:=v) (sz:=sz) (pl:=pl) (B:=B) (G:=G) (D:=D) (h0.nil k) hq (hP.after k) hr hb ho n1 n2 hv
 clear h0 hq hP hr hb ho
 go_enter func25,ntmps25
 go_wp2_with (first
  |(go_at_call 34;(with_reducible refine (cN _ ((Wr.refl _ _).alloc _)).mono ?_);intro e w2 hq2;unfold NwPost at hq2;obtain ⟨lb,rfl,hB⟩:=hq2;have HB:=Lib.hid hB;clear hB cN)
  |(go_at_call 33;(with_reducible refine (lk_ok _ _).mono ?_);rintro e w3 ⟨rfl,rfl⟩))
 go_ret2
 exact HB.out
theorem nw_sl (h0:Wr Nil w0 w1) (hq:∀ k,q.F k→w0.heap.size≤k) (hP:PlanAt w1 q n [] []) (hr:RowAt .i64 w0 (some ⟨b,o,none⟩) n zs) (hb:b<w0.heap.size) (ho:homesOK zs=true) (n1:1≤n) (n2:n≤64) (hv:0≤v∧v<4294967296) {m z:Nat} (siz:sizeB m=true) (hnm:n≤m) (hz:v%(m:Int)=(z:Int)) (hsz:sz=(m:Int)):
  Calls prog 35 #[.pointer (some ⟨q.p,0,none⟩),.slice (some ⟨b,o,none⟩) n cap,.int .i64 sz,.int .u32 v] w1 (NwPost w0 (λa=>a.kd=2∧NewA n zs v sz pl B G D a) q 81):=by
 subst hsz
 have hn:=hr.len
 have hne:q.p<w1.heap.size:=hP.lt (.inl rfl)
 refine (Ks.fn_new (cap:=cap) (v:=v) hP (hr.after h0) ho n1 n2 siz hnm (Nat.zero_le _) (λe=>by have:=hq b e;omega) hv hz).mono ?_
 intro e w2 hq2
 unfold Ks.NewSlotsPost at hq2
 obtain ⟨L,q2,rfl,hR,hl,h1,h2,hqq,hP2,hW,_⟩:=hq2
 exact ⟨L.lb,rfl,pt_sl h0 hq hne n1 n2 ho hn hv rfl siz hnm hz hR hl h1 h2 hqq hP2 hW⟩
theorem ly_sl (h0:Wr Nil w0 w1) (hq:∀ k,q.F k→w0.heap.size≤k) (hP:PlanAt w1 q n [] []) (hr:RowAt .i64 w0 (some ⟨b,o,none⟩) n zs) (hb:b<w0.heap.size) (ho:homesOK zs=true) (n1:1≤n) (n2:n≤64) (hv:0≤v∧v<4294967296) {m z:Nat} (siz:sizeB m=true) (hnm:n≤m) (hz:v%(m:Int)=(z:Int)) (hsz:sz=(m:Int)):
  Calls prog 25 #[.pointer (some ⟨q.p,0,none⟩),.agg #[.int .i64 2,.slice (some ⟨b,o,none⟩) n cap,.int .u32 v,.int .i64 sz,.int .i64 pl,.int .i64 B,.int .i64 G,.int .i64 D]] w1 (BlPost w0 (λa=>a.kd=2∧NewA n zs v sz pl B G D a) q):=by
 subst hsz
 have cN:=λW (k:Wr Nil w1 W)=>nw_sl (cap:=cap) (v:=v) (sz:=(m:Int)) (pl:=pl) (B:=B) (G:=G) (D:=D) (h0.nil k) hq (hP.after k) hr hb ho n1 n2 hv siz hnm hz rfl
 clear h0 hq hP hr hb ho
 go_enter func25,ntmps25
 go_wp2_with (first
  |(go_at_call 35;(with_reducible refine (cN _ ((Wr.refl _ _).alloc _)).mono ?_);intro e w2 hq2;unfold NwPost at hq2;obtain ⟨lb,rfl,hB⟩:=hq2;have HB:=Lib.hid hB;clear hB cN)
  |(go_at_call 33;(with_reducible refine (lk_ok _ _).mono ?_);rintro e w3 ⟨rfl,rfl⟩))
 go_ret2
 exact HB.out
theorem nw_cl (h0:Wr Nil w0 w1) (hq:∀ k,q.F k→w0.heap.size≤k) (hP:PlanAt w1 q n [] []) (hr:RowAt .i64 w0 (some ⟨b,o,none⟩) n zs) (hb:b<w0.heap.size) (ho:homesOK zs=true) (n1:1≤n) (n2:n≤64):
  Calls prog 36 #[.pointer (some ⟨q.p,0,none⟩),.slice (some ⟨b,o,none⟩) n cap] w1 (NwPost w0 (λa=>a.kd=3∧NewA n zs v sz pl B G D a) q 84):=by
 have hn:=hr.len
 have hne:q.p<w1.heap.size:=hP.lt (.inl rfl)
 refine (Kc.fn_new (cap:=cap) hP (hr.after h0) ho n1 n2 (Nat.zero_le _) (λe=>by have:=hq b e;omega)).mono ?_
 intro e w2 hq2
 unfold Kc.NewClhPost at hq2
 obtain ⟨L,q2,rfl,hR,hl,h1,h2,hqq,hP2,hW,_⟩:=hq2
 exact ⟨L.lb,rfl,pt_cl h0 hq hne n1 n2 ho hn hR hl h1 h2 hqq hP2 hW⟩
theorem ly_cl (h0:Wr Nil w0 w1) (hq:∀ k,q.F k→w0.heap.size≤k) (hP:PlanAt w1 q n [] []) (hr:RowAt .i64 w0 (some ⟨b,o,none⟩) n zs) (hb:b<w0.heap.size) (ho:homesOK zs=true) (n1:1≤n) (n2:n≤64):
  Calls prog 25 #[.pointer (some ⟨q.p,0,none⟩),.agg #[.int .i64 3,.slice (some ⟨b,o,none⟩) n cap,.int .u32 v,.int .i64 sz,.int .i64 pl,.int .i64 B,.int .i64 G,.int .i64 D]] w1 (BlPost w0 (λa=>a.kd=3∧NewA n zs v sz pl B G D a) q):=by
 have cN:=λW (k:Wr Nil w1 W)=>nw_cl (cap:=cap) (v:=v) (sz:=sz) (pl:=pl) (B:=B) (G:=G) (D:=D) (h0.nil k) hq (hP.after k) hr hb ho n1 n2
 clear h0 hq hP hr hb ho
 go_enter func25,ntmps25
 go_wp2_with (first
  |(go_at_call 36;(with_reducible refine (cN _ ((Wr.refl _ _).alloc _)).mono ?_);intro e w2 hq2;unfold NwPost at hq2;obtain ⟨lb,rfl,hB⟩:=hq2;have HB:=Lib.hid hB;clear hB cN)
  |(go_at_call 33;(with_reducible refine (lk_ok _ _).mono ?_);rintro e w3 ⟨rfl,rfl⟩))
 go_ret2
 exact HB.out
theorem nw_mc (h0:Wr Nil w0 w1) (hq:∀ k,q.F k→w0.heap.size≤k) (hP:PlanAt w1 q n [] []) (hr:RowAt .i64 w0 (some ⟨b,o,none⟩) n zs) (hb:b<w0.heap.size) (ho:homesOK zs=true) (n1:1≤n) (n2:n≤64):
  Calls prog 37 #[.pointer (some ⟨q.p,0,none⟩),.slice (some ⟨b,o,none⟩) n cap] w1 (NwPost w0 (λa=>a.kd=4∧NewA n zs v sz pl B G D a) q 87):=by
 have hn:=hr.len
 have hne:q.p<w1.heap.size:=hP.lt (.inl rfl)
 refine (Km.fn_new (cap:=cap) hP (hr.after h0) ho n1 n2 (Nat.zero_le _) (λe=>by have:=hq b e;omega)).mono ?_
 intro e w2 hq2
 unfold Km.NewMcsPost at hq2
 obtain ⟨L,q2,rfl,hR,hl,h1,h2,hqq,hP2,hW,_⟩:=hq2
 exact ⟨L.lb,rfl,pt_mc h0 hq hne n1 n2 ho hn hR hl h1 h2 hqq hP2 hW⟩
theorem ly_mc (h0:Wr Nil w0 w1) (hq:∀ k,q.F k→w0.heap.size≤k) (hP:PlanAt w1 q n [] []) (hr:RowAt .i64 w0 (some ⟨b,o,none⟩) n zs) (hb:b<w0.heap.size) (ho:homesOK zs=true) (n1:1≤n) (n2:n≤64):
  Calls prog 25 #[.pointer (some ⟨q.p,0,none⟩),.agg #[.int .i64 4,.slice (some ⟨b,o,none⟩) n cap,.int .u32 v,.int .i64 sz,.int .i64 pl,.int .i64 B,.int .i64 G,.int .i64 D]] w1 (BlPost w0 (λa=>a.kd=4∧NewA n zs v sz pl B G D a) q):=by
 have cN:=λW (k:Wr Nil w1 W)=>nw_mc (cap:=cap) (v:=v) (sz:=sz) (pl:=pl) (B:=B) (G:=G) (D:=D) (h0.nil k) hq (hP.after k) hr hb ho n1 n2
 clear h0 hq hP hr hb ho
 go_enter func25,ntmps25
 go_wp2_with (first
  |(go_at_call 37;(with_reducible refine (cN _ ((Wr.refl _ _).alloc _)).mono ?_);intro e w2 hq2;unfold NwPost at hq2;obtain ⟨lb,rfl,hB⟩:=hq2;have HB:=Lib.hid hB;clear hB cN)
  |(go_at_call 33;(with_reducible refine (lk_ok _ _).mono ?_);rintro e w3 ⟨rfl,rfl⟩))
 go_ret2
 exact HB.out
theorem nw_ab (h0:Wr Nil w0 w1) (hq:∀ k,q.F k→w0.heap.size≤k) (hP:PlanAt w1 q n [] []) (hr:RowAt .i64 w0 (some ⟨b,o,none⟩) n zs) (hb:b<w0.heap.size) (ho:homesOK zs=true) (n1:1≤n) (n2:n≤64) {ea:Nat} (e1:1≤ea) (e2:ea≤8) (hp:pl=(ea:Int)):
  Calls prog 38 #[.pointer (some ⟨q.p,0,none⟩),.slice (some ⟨b,o,none⟩) n cap,.int .i64 pl] w1 (NwPost w0 (λa=>a.kd=5∧NewA n zs v sz pl B G D a) q 90):=by
 subst hp
 have hn:=hr.len
 have hne:q.p<w1.heap.size:=hP.lt (.inl rfl)
 refine (Ka.fn_new (cap:=cap) hP (hr.after h0) ho n1 n2 ea e1 e2 (Nat.zero_le _) (λe=>by have:=hq b e;omega)).mono ?_
 intro e w2 hq2
 unfold Ka.NewAbPost at hq2
 obtain ⟨L,q2,rfl,hR,hl,h1,h2,hqq,hP2,hW,_⟩:=hq2
 exact ⟨L.lb,rfl,pt_ab h0 hq hne n1 n2 ho hn rfl e1 e2 hR hl h1 h2 hqq (by unfold Ka.homesA;rw [hn];exact hP2) hW⟩
theorem ly_ab (h0:Wr Nil w0 w1) (hq:∀ k,q.F k→w0.heap.size≤k) (hP:PlanAt w1 q n [] []) (hr:RowAt .i64 w0 (some ⟨b,o,none⟩) n zs) (hb:b<w0.heap.size) (ho:homesOK zs=true) (n1:1≤n) (n2:n≤64) {ea:Nat} (e1:1≤ea) (e2:ea≤8) (hp:pl=(ea:Int)):
  Calls prog 25 #[.pointer (some ⟨q.p,0,none⟩),.agg #[.int .i64 5,.slice (some ⟨b,o,none⟩) n cap,.int .u32 v,.int .i64 sz,.int .i64 pl,.int .i64 B,.int .i64 G,.int .i64 D]] w1 (BlPost w0 (λa=>a.kd=5∧NewA n zs v sz pl B G D a) q):=by
 subst hp
 have cN:=λW (k:Wr Nil w1 W)=>nw_ab (cap:=cap) (v:=v) (sz:=sz) (pl:=(ea:Int)) (B:=B) (G:=G) (D:=D) (h0.nil k) hq (hP.after k) hr hb ho n1 n2 e1 e2 rfl
 clear h0 hq hP hr hb ho
 go_enter func25,ntmps25
 go_wp2_with (first
  |(go_at_call 38;(with_reducible refine (cN _ ((Wr.refl _ _).alloc _)).mono ?_);intro e w2 hq2;unfold NwPost at hq2;obtain ⟨lb,rfl,hB⟩:=hq2;have HB:=Lib.hid hB;clear hB cN)
  |(go_at_call 33;(with_reducible refine (lk_ok _ _).mono ?_);rintro e w3 ⟨rfl,rfl⟩))
 go_ret2
 exact HB.out
end
section
variable {w:World} {p n cap:Nat} {sa:Option Addr} {zs:List Int} {v sz pl B G D:Int}
theorem ly_any {w0 w1:World} {q:Pl} {b o:Nat} {kd:Int} (hkd:kd=1∨kd=2∨kd=3∨kd=4∨kd=5) (hx:chk kd n zs sz pl B G D=0) (h0:Wr Nil w0 w1) (hq:∀ k,q.F k→w0.heap.size≤k) (hP:PlanAt w1 q n [] []) (hr:RowAt .i64 w0 (some ⟨b,o,none⟩) n zs) (hb:b<w0.heap.size) (hv:0≤v∧v<4294967296):
  Calls prog 25 #[.pointer (some ⟨q.p,0,none⟩),.agg #[.int .i64 kd,.slice (some ⟨b,o,none⟩) n cap,.int .u32 v,.int .i64 sz,.int .i64 pl,.int .i64 B,.int .i64 G,.int .i64 D]] w1 (BlPost w0 (λa=>a.kd=kd∧NewA n zs v sz pl B G D a) q):=by
 unfold chk at hx
 split at hx
 ·omega
 rename_i hk
 split at hx
 ·omega
 rename_i hn
 have ho:homesOK zs=true:=by
  cases e:homesOK zs
  ·exact absurd (.inl e) hn
  ·rfl
 have n1:1≤n:=by omega
 have n2:n≤64:=by omega
 split at hx
 ·omega
 rename_i h2
 split at hx
 ·omega
 rename_i h5
 split at hx
 ·omega
 rename_i h7
 rcases hkd with rfl|rfl|rfl|rfl|rfl
 ·exact ly_tk h0 hq hP hr hb ho n1 n2 hv
 ·have hs:sizeB sz=true:=by
   cases e:sizeB sz
   ·exact absurd ⟨rfl,.inl e⟩ h2
   ·rfl
  obtain ⟨m,rfl⟩:=Int.eq_ofNat_of_zero_le (show 0≤sz by unfold sizeB at hs;have:=of_decide_eq_true hs;omega)
  have hm:n≤m:=by omega
  obtain ⟨z,hz⟩:=Int.eq_ofNat_of_zero_le (Int.emod_nonneg v (show (m:Int)≠0 by omega))
  exact ly_sl h0 hq hP hr hb ho n1 n2 hv hs hm hz rfl
 ·exact ly_cl h0 hq hP hr hb ho n1 n2
 ·exact ly_mc h0 hq hP hr hb ho n1 n2
 ·obtain ⟨ea,rfl⟩:=Int.eq_ofNat_of_zero_le (show 0≤pl by omega)
  exact ly_ab h0 hq hP hr hb ho n1 n2 (by omega) (by omega) rfl
end
def MkPost (w0:World) (P:Any→Prop) (e:Ending) (w':World):Prop:=∃ a:Any,e= .returned (.tuple #[a.val,.pointer (some ⟨a.q.p,0,none⟩),.int .i64 0])∧a.At w0 w'∧P a
theorem bn_good {w0:World} {n cap:Nat} {sa:Option Addr} {kd v sz pl B G D:Int} {P:Any→Prop} (hn:n≤9223372036854775807)
  (hl:∀ (q:Pl) w1,PlanAt w1 q n [] []→(∀ k,q.F k→w0.heap.size≤k)→Wr Nil w0 w1→Calls prog 25 #[.pointer (some ⟨q.p,0,none⟩),.agg #[.int .i64 kd,.slice sa n cap,.int .u32 v,.int .i64 sz,.int .i64 pl,.int .i64 B,.int .i64 G,.int .i64 D]] w1 (BlPost w0 P q)):
  Calls prog 17 #[.agg #[.int .i64 kd,.slice sa n cap,.int .u32 v,.int .i64 sz,.int .i64 pl,.int .i64 B,.int .i64 G,.int .i64 D]] w0 (MkPost w0 P):=by
 obtain ⟨X,hX⟩:∃ X,X=w0.alloc (.cells #[.int .i64 kd,.slice sa n cap,.int .u32 v,.int .i64 sz,.int .i64 pl,.int .i64 B,.int .i64 G,.int .i64 D] 25):=⟨_,rfl⟩
 have hWX:Wr Nil w0 X:=by rw [hX];exact (Wr.refl _ w0).alloc _
 have hblk:X.heap[w0.heap.size]? =some (.cells #[.int .i64 kd,.slice sa n cap,.int .u32 v,.int .i64 sz,.int .i64 pl,.int .i64 B,.int .i64 G,.int .i64 D] 25 (0,0)):=by rw [hX];exact Go.Deep.blk_alloc_new _ _
 have HL:=Lib.hid (And.intro hl hWX)
 have HX:=Lib.hid hX
 clear hl hX
 have x0:X.cell? ⟨w0.heap.size,0,none⟩=some (.int .i64 kd):=(blk_cell hblk 0).trans rfl
 have x1:X.cell? ⟨w0.heap.size,1,none⟩=some (.slice sa n cap):=(blk_cell hblk 1).trans rfl
 have x2:X.cell? ⟨w0.heap.size,2,none⟩=some (.int .u32 v):=(blk_cell hblk 2).trans rfl
 have x3:X.cell? ⟨w0.heap.size,3,none⟩=some (.int .i64 sz):=(blk_cell hblk 3).trans rfl
 have x4:X.cell? ⟨w0.heap.size,4,none⟩=some (.int .i64 pl):=(blk_cell hblk 4).trans rfl
 have x5:X.cell? ⟨w0.heap.size,5,none⟩=some (.int .i64 B):=(blk_cell hblk 5).trans rfl
 have x6:X.cell? ⟨w0.heap.size,6,none⟩=some (.int .i64 G):=(blk_cell hblk 6).trans rfl
 have x7:X.cell? ⟨w0.heap.size,7,none⟩=some (.int .i64 D):=(blk_cell hblk 7).trans rfl
 go_enter func17,ntmps17
 go_wp2_with (first
  |(go_at_call 24;rw [←HX.out];(with_reducible refine (plnew_any n X).mono ?_);rintro e w1 ⟨q,rfl,hP,hnew,hW1⟩;have cL:=HL.out.1 q w1 hP (λk hk=>Nat.le_trans HL.out.2.size (hnew k hk)) (HL.out.2.nil hW1);have y0:=hW1.old x0;have y1:=hW1.old x1;have y2:=hW1.old x2;have y3:=hW1.old x3;have y4:=hW1.old x4;have y5:=hW1.old x5;have y6:=hW1.old x6;have y7:=hW1.old x7;clear hP hnew hW1)
  |(go_at_call 25;(with_reducible refine cL.mono ?_);intro e w2 hq;unfold BlPost at hq;obtain ⟨lb,ty,rfl,hW2,hP⟩:=hq;have cP:=hP w2 (Wr.refl _ _);clear hP hW2 cL)
  |(go_at_call 26;(with_reducible refine cP.mono ?_);rintro e w3 ⟨a,rfl,hlb,hty,hPa,hA⟩;subst hlb;subst hty;have m0:=a.via_use;have m1:=a.nil_use;have m2:=a.useF_enter;have cU:=Any.any_use hA;have HA:=Lib.hid hPa;clear hA hPa cP)
  |((with_reducible refine cU.mono ?_);rintro e w4 ⟨rfl,hL,_⟩;have HZ:=Lib.hid hL;clear hL cU))
 go_returns
 exact ⟨_,rfl,HZ.out,HA.out⟩
theorem bn_any {w0:World} {n cap b o:Nat} {zs:List Int} {kd v sz pl B G D:Int} (hkd:kd=1∨kd=2∨kd=3∨kd=4∨kd=5) (hx:chk kd n zs sz pl B G D=0) (hn:n≤1000000) (hr:RowAt .i64 w0 (some ⟨b,o,none⟩) n zs) (hb:b<w0.heap.size) (hv:0≤v∧v<4294967296):
  Calls prog 17 #[.agg #[.int .i64 kd,.slice (some ⟨b,o,none⟩) n cap,.int .u32 v,.int .i64 sz,.int .i64 pl,.int .i64 B,.int .i64 G,.int .i64 D]] w0 (MkPost w0 λa=>a.kd=kd∧NewA n zs v sz pl B G D a):=
 bn_good (by omega) λq w1 hP hq h0=>ly_any hkd hx h0 hq hP hr hb hv
end Go.Proofs.YtmnephejhkfchaaGreat


import Derived.Test.YtcikfcplagelaaaGreatAny
namespace Go.Proofs.YtcikfcplagelaaaGreat
open _root_.Go.Proofs.Tryz
open Go.RowKit Go.BigFrame
set_option linter.unusedVariables false
set_option maxRecDepth 100000
namespace Any
def kd:Any→Int
 |tk _ _=>1
 |sl _ _=>2
 |cl _ _=>3
 |mc _ _=>4
 |ab _ _=>5
 |hi _ _=>6
 |co _ _=>7
def Ap (w0 w:World):Any→Prop
 |tk L f=>Kf.LkP w0 w L f
 |sl L f=>Ks.LkP w0 w L f
 |cl L f=>Kc.LkP w0 w L f
 |mc L f=>Km.LkP w0 w L f
 |ab L f=>Ka.LkP w0 w L f
 |hi L f=>Kh.LkP w0 w L f
 |co L f=>LkP w0 w L f
theorem any_use {w0 w:World} {a:Any} (h:a.Ap w0 w):Calls prog a.useF #[.pointer (some ⟨a.lb,0,none⟩),.pointer (some ⟨a.q.p,0,none⟩)] w λe w'=>e= .returned (.tuple #[])∧a.At w0 w'∧Wr a.Low w w':=by
 cases a with
 |tk L f=>exact Kf.lp_use h
 |sl L f=>exact Ks.lp_use h
 |cl L f=>exact Kc.lp_use h
 |mc L f=>exact Km.lp_use h
 |ab L f=>exact Ka.lp_use h
 |hi L f=>exact Kh.lp_use h
 |co L f=>exact lp_use h
end Any
def NewA (n:Nat) (zs:List Int) (v sz pl B G D:Int):Any→Prop
 | .tk L f=>f=Kf.newF n n v∧L.a1=0∧L.a2=1∧L.hs=[zs.getD 0 0,zs.getD 0 0]
 | .sl L f=>∃ m z:Nat,sz=(m:Int)∧sizeB m=true∧n≤m∧v%(m:Int)=(z:Int)∧f=Ks.newF n n m z v∧L.a1=0∧L.a2=1∧L.hs=Ks.homesS zs n m
 | .cl L f=>f=Kc.newF n n∧L.a1=0∧L.a2=1∧L.hs=Kc.homesC zs
 | .mc L f=>f=Km.newF n n∧L.a1=0∧L.a2=1∧L.hs=Km.homesC zs
 | .ab L f=>∃ ea:Nat,pl=(ea:Int)∧1≤ea∧ea≤8∧f=Ka.newF n ea n∧L.a1=0∧L.a2=1∧L.hs=Ka.homesA ea zs
 | .hi L f=>f=Kh.newF zs n n∧L.a1=0∧L.a2=1∧L.hs=Kh.homesH zs
 | .co L f=>f=newC zs n G D B n∧L.a1=0∧L.hs=homesC zs n G D∧rightB G D B=true
def BlPost (w0:World) (P:Any→Prop) (q:Pl) (e:Ending) (w':World):Prop:=
 ∃ (lb ty:Nat),e= .returned (.tuple #[.iface ty (.pointer (some ⟨lb,0,none⟩)),.int .i64 0])∧Wr Nil w0 w'∧
  ∀ W,Wr Nil w' W→Calls prog 33 #[.pointer (some ⟨q.p,0,none⟩)] W λe w''=>∃ a:Any,e= .returned (.tuple #[.pointer (some ⟨a.q.p,0,none⟩),.int .i64 0])∧a.lb=lb∧a.ty=ty∧P a∧a.Ap w0 w''
def chk (kd:Int) (n:Nat) (zs:List Int) (sz pl B G D:Int):Int:=
 if kd<1∨7<kd then 7
 else if homesOK zs=false∨n<1∨64<n then 1
 else if kd=2∧(sizeB sz=false∨sz<n) then 7
 else if kd=5∧(pl<1∨8<pl) then 7
 else if kd=7∧rightB G D B=false then 7
 else 0
section
variable {w0 w1 w2:World} {q q2:Pl} {n:Nat} {zs:List Int} {v sz pl B G D:Int}
theorem first_ok (ho:homesOK zs=true):okH (zs.getD 0 0)=true:=Kc.getD_ok ho 0
theorem old_plan (h0:Wr Nil w0 w1) (hq:∀ k,q.F k→w0.heap.size≤k) (hW:Wr q.F w1 w2):Wr Nil w0 w2:=h0.trans hW λk hk e=>by have:=hq k e;unfold Nil;omega
theorem pt_tk (h0:Wr Nil w0 w1) (hq:∀ k,q.F k→w0.heap.size≤k) (hne:q.p<w1.heap.size) (n1:1≤n) (n2:n≤64) (ho:homesOK zs=true) (hn:zs.length=n) (hv:0≤v∧v<4294967296) {L:Kf.Lp} (hR:Kf.FlRaw w2 L (.pointer none) (newSeat n false true) (λ_=>0) (λ_=>false)) (hl:w1.heap.size≤L.lb∧w1.heap.size≤L.p∧w1.heap.size≤L.b∧w1.heap.size≤L.tb) (h1:L.a1=0) (h2:L.a2=1) (hqq:q2.p=q.p) (hP:PlanAt w2 q2 n [zs.getD 0 0,zs.getD 0 0] [v,v]) (hW:Wr q.F w1 w2):
  BlPost w0 (λa=>a.kd=1∧NewA n zs v sz pl B G D a) q (.returned (.tuple #[.iface 131 (.pointer (some ⟨L.lb,0,none⟩)),.int .i64 0])) w2:=
 ⟨L.lb,_,rfl,old_plan h0 hq hW,λW k=>(Kf.fl_port (w0:=w0) h0 hq n1 n2 (first_ok ho) hv (hR.after k) hl h1 h2 hqq (hP.after k) (hW.trans k λ_ _ e=>e.elim)).mono λe w9 ⟨L9,he,⟨a1,a2,hK⟩,hlb,hhs⟩=>⟨.tk L9 _,he,hlb,rfl,⟨rfl,rfl,a1,a2,hhs⟩,hK⟩⟩
theorem pt_sl (h0:Wr Nil w0 w1) (hq:∀ k,q.F k→w0.heap.size≤k) (hne:q.p<w1.heap.size) (n1:1≤n) (n2:n≤64) (ho:homesOK zs=true) (hn:zs.length=n) (hv:0≤v∧v<4294967296) {m z:Nat} (hsz:sz=(m:Int)) (siz:sizeB m=true) (hnm:n≤m) (hz:v%(m:Int)=(z:Int)) {L:Ks.Lp} (hR:Ks.FlRaw w2 L (.pointer none) (newSeat n false false) m (λ_=>0) (λ_=>0)) (hl:w1.heap.size≤L.lb∧w1.heap.size≤L.p∧w1.heap.size≤L.b∧w1.heap.size≤L.tb) (h1:L.a1=0) (h2:L.a2=1) (hqq:q2.p=q.p) (hP:PlanAt w2 q2 n (Ks.homesS zs n m) ([v]++Ks.slotR z m)) (hW:Wr q.F w1 w2):
  BlPost w0 (λa=>a.kd=2∧NewA n zs v sz pl B G D a) q (.returned (.tuple #[.iface 134 (.pointer (some ⟨L.lb,0,none⟩)),.int .i64 0])) w2:=
 ⟨L.lb,_,rfl,old_plan h0 hq hW,λW k=>(Ks.fl_port (w0:=w0) h0 hq n1 n2 ho siz hv (hR.after k) hl h1 h2 hqq (hP.after k) (hW.trans k λ_ _ e=>e.elim) hne).mono λe w9 ⟨L9,he,⟨a1,a2,hK⟩,hlb,hhs,_⟩=>⟨.sl L9 _,he,hlb,rfl,⟨rfl,m,z,hsz,siz,hnm,hz,rfl,a1,a2,hhs⟩,hK⟩⟩
theorem pt_cl (h0:Wr Nil w0 w1) (hq:∀ k,q.F k→w0.heap.size≤k) (hne:q.p<w1.heap.size) (n1:1≤n) (n2:n≤64) (ho:homesOK zs=true) (hn:zs.length=n) {L:Kc.Lp} (hR:Kc.FlRaw w2 L (.pointer none) (newSeat n false true) (λ_=>0) (Kc.nodeK n) (λ_=>0)) (hl:w1.heap.size≤L.lb∧w1.heap.size≤L.p∧w1.heap.size≤L.b∧w1.heap.size≤L.tb) (h1:L.a1=0) (h2:L.a2=1) (hqq:q2.p=q.p) (hP:PlanAt w2 q2 n (Kc.homesC zs) (Kc.zerosC n)) (hW:Wr q.F w1 w2):
  BlPost w0 (λa=>a.kd=3∧NewA n zs v sz pl B G D a) q (.returned (.tuple #[.iface 137 (.pointer (some ⟨L.lb,0,none⟩)),.int .i64 0])) w2:=
 ⟨L.lb,_,rfl,old_plan h0 hq hW,λW k=>(Kc.fl_port (w0:=w0) h0 hq n1 n2 ho hn (hR.after k) hl h1 h2 hqq (hP.after k) (hW.trans k λ_ _ e=>e.elim)).mono λe w9 ⟨L9,he,⟨a1,a2,hK⟩,hlb,hhs⟩=>⟨.cl L9 _,he,hlb,rfl,⟨rfl,rfl,a1,a2,hhs⟩,hK⟩⟩
theorem pt_mc (h0:Wr Nil w0 w1) (hq:∀ k,q.F k→w0.heap.size≤k) (hne:q.p<w1.heap.size) (n1:1≤n) (n2:n≤64) (ho:homesOK zs=true) (hn:zs.length=n) {L:Km.Lp} (hR:Km.FlRaw w2 L (.pointer none) (newSeat n false true) (λ_=>0) (λ_=>0)) (hl:w1.heap.size≤L.lb∧w1.heap.size≤L.p∧w1.heap.size≤L.b∧w1.heap.size≤L.tb) (h1:L.a1=0) (h2:L.a2=1) (hqq:q2.p=q.p) (hP:PlanAt w2 q2 n (Km.homesC zs) (Km.zerosC n)) (hW:Wr q.F w1 w2):
  BlPost w0 (λa=>a.kd=4∧NewA n zs v sz pl B G D a) q (.returned (.tuple #[.iface 140 (.pointer (some ⟨L.lb,0,none⟩)),.int .i64 0])) w2:=
 ⟨L.lb,_,rfl,old_plan h0 hq hW,λW k=>(Km.fl_port (w0:=w0) h0 hq n1 n2 ho hn (hR.after k) hl h1 h2 hqq (hP.after k) (hW.trans k λ_ _ e=>e.elim) hne).mono λe w9 ⟨L9,he,⟨a1,a2,hK⟩,hlb,hhs,_⟩=>⟨.mc L9 _,he,hlb,rfl,⟨rfl,rfl,a1,a2,hhs⟩,hK⟩⟩
theorem pt_ab (h0:Wr Nil w0 w1) (hq:∀ k,q.F k→w0.heap.size≤k) (hne:q.p<w1.heap.size) (n1:1≤n) (n2:n≤64) (ho:homesOK zs=true) (hn:zs.length=n) {ea:Nat} (hp:pl=(ea:Int)) (e1:1≤ea) (e2:ea≤8) {L:Ka.Lp} (hR:Ka.RawN w2 L n ea) (hl:w1.heap.size≤L.lb∧w1.heap.size≤L.p∧w1.heap.size≤L.b∧w1.heap.size≤L.tb) (h1:L.a1=0) (h2:L.a2=1) (hqq:q2.p=q.p) (hP:PlanAt w2 q2 n (Ka.homesA ea zs) (Ka.zerosA (n*ea))) (hW:Wr q.F w1 w2):
  BlPost w0 (λa=>a.kd=5∧NewA n zs v sz pl B G D a) q (.returned (.tuple #[.iface 143 (.pointer (some ⟨L.lb,0,none⟩)),.int .i64 0])) w2:=
 ⟨L.lb,_,rfl,old_plan h0 hq hW,λW k=>(Ka.fl_port (w0:=w0) h0 hq n1 n2 e2 ho hn (hR.after k) hl h1 h2 hqq (hP.after k) (hW.trans k λ_ _ e=>e.elim)).mono λe w9 ⟨L9,he,⟨a1,a2,hK⟩,hlb,hhs⟩=>⟨.ab L9 _,he,hlb,rfl,⟨rfl,ea,hp,e1,e2,rfl,a1,a2,hhs⟩,hK⟩⟩
theorem pt_hi (h0:Wr Nil w0 w1) (hq:∀ k,q.F k→w0.heap.size≤k) (hne:q.p<w1.heap.size) (n1:1≤n) (n2:n≤64) (ho:homesOK zs=true) (hn:zs.length=n) {L:Kh.Lp} (hR:Kh.FlRaw w2 L (.pointer none) (newSeat n false false) (λ_=>0) (Kh.newA zs)) (hl:w1.heap.size≤L.lb∧w1.heap.size≤L.p∧w1.heap.size≤L.b∧w1.heap.size≤L.tb) (h1:L.a1=0) (h2:L.a2=1) (hqq:q2.p=q.p) (hP:PlanAt w2 q2 n (Kh.homesH zs) (Kh.wordsH n)) (hW:Wr q.F w1 w2):
  BlPost w0 (λa=>a.kd=6∧NewA n zs v sz pl B G D a) q (.returned (.tuple #[.iface 146 (.pointer (some ⟨L.lb,0,none⟩)),.int .i64 0])) w2:=
 ⟨L.lb,_,rfl,old_plan h0 hq hW,λW k=>(Kh.fl_port (w0:=w0) h0 hq n1 n2 ho hn (hR.after k) hl h1 h2 hqq (hP.after k) (hW.trans k λ_ _ e=>e.elim)).mono λe w9 ⟨L9,he,⟨a1,a2,hK⟩,hlb,hhs⟩=>⟨.hi L9 _,he,hlb,rfl,⟨rfl,rfl,a1,a2,hhs⟩,hK⟩⟩
theorem pt_co (h0:Wr Nil w0 w1) (hq:∀ k,q.F k→w0.heap.size≤k) (hne:q.p<w1.heap.size) (n1:1≤n) (n2:n≤64) (ho:homesOK zs=true) (hn:zs.length=n) (hr:rightB G D B=true) (hB:1≤B∧B≤1000) {L:Lp} (hR:∀ ps,FlRaw w2 L (.pointer none) (.pointer none) (λ_=> .pointer none) (newCo (hNo zs) n G D B 0 ps) (λ_=>callsV)) (hl:w1.heap.size≤L.lo) (h1:L.a1=0) (hqq:q2.p=q.p) (hP:PlanAt w2 q2 n (homesC zs n G D) (wordsC zs n G D)) (hW:Wr q.F w1 w2):
  BlPost w0 (λa=>a.kd=7∧NewA n zs v sz pl B G D a) q (.returned (.tuple #[.iface 149 (.pointer (some ⟨L.lb,0,none⟩)),.int .i64 0])) w2:=
 ⟨L.lb,_,rfl,old_plan h0 hq hW,λW k=>(fl_port (w0:=w0) h0 hq n1 n2 ho hn hB (λps=>(hR ps).after k) hl h1 hqq (hP.after k) (hW.trans k λ_ _ e=>e.elim)).mono λe w9 ⟨L9,he,⟨a1,hK⟩,hlb,hhs⟩=>⟨.co L9 _,he,hlb,rfl,⟨rfl,rfl,a1,hhs,hr⟩,hK⟩⟩
def NwPost (w0:World) (P:Any→Prop) (q:Pl) (ty:Nat) (e:Ending) (w':World):Prop:=∃ lb:Nat,e= .returned (.tuple #[.pointer (some ⟨lb,0,none⟩),.int .i64 0])∧BlPost w0 P q (.returned (.tuple #[.iface ty (.pointer (some ⟨lb,0,none⟩)),.int .i64 0])) w'
end
theorem NewA.zero {n:Nat} {zs:List Int} {v sz pl B G D:Int} {a:Any} (h:NewA n zs v sz pl B G D a):
  (∃ x y,a.s=newSeat n x y)∧a.ps.ac=List.replicate n 0∧a.ps.D=[]:=by
 cases a with
 |tk L f=>obtain ⟨rfl,_⟩:=h;exact ⟨⟨_,_,rfl⟩,rfl,rfl⟩
 |sl L f=>obtain ⟨m,z,_,_,_,_,rfl,_⟩:=h;exact ⟨⟨_,_,rfl⟩,rfl,rfl⟩
 |cl L f=>obtain ⟨rfl,_⟩:=h;exact ⟨⟨_,_,rfl⟩,rfl,rfl⟩
 |mc L f=>obtain ⟨rfl,_⟩:=h;exact ⟨⟨_,_,rfl⟩,rfl,rfl⟩
 |ab L f=>obtain ⟨ea,_,_,_,rfl,_⟩:=h;exact ⟨⟨_,_,rfl⟩,rfl,rfl⟩
 |hi L f=>obtain ⟨rfl,_⟩:=h;exact ⟨⟨_,_,rfl⟩,rfl,rfl⟩
 |co L f=>obtain ⟨rfl,_⟩:=h;exact ⟨⟨_,_,rfl⟩,rfl,rfl⟩
theorem lk_ok (v:Value) (w:World):Calls prog 56 #[v,.int .i64 0] w λe w'=>e= .returned (.tuple #[v,.int .i64 0])∧w=w':=by
 go_enter func56,ntmps56
 go_wp2
 go_ret2
 exact ⟨rfl,rfl⟩
theorem lk_err (v:Value) (x:Int) (hx:x≠0) (w:World):Calls prog 56 #[v,.int .i64 x] w λe w'=>e= .returned (.tuple #[.nilIface,.int .i64 x])∧w=w':=by
 have e:(x != 0)=true:=by simp [hx]
 go_enter func56,ntmps56
 go_wp2
 go_ret2
 exact ⟨rfl,rfl⟩
section
variable {w0 w1:World} {q:Pl} {b o n cap:Nat} {zs:List Int} {v sz pl B G D:Int}
theorem nw_tk (h0:Wr Nil w0 w1) (hq:∀ k,q.F k→w0.heap.size≤k) (hP:PlanAt w1 q n [] []) (hr:RowAt .i64 w0 (some ⟨b,o,none⟩) n zs) (hb:b<w0.heap.size) (ho:homesOK zs=true) (n1:1≤n) (n2:n≤64) (hv:0≤v∧v<4294967296):
  Calls prog 57 #[.pointer (some ⟨q.p,0,none⟩),.slice (some ⟨b,o,none⟩) n cap,.int .u32 v] w1 (NwPost w0 (λa=>a.kd=1∧NewA n zs v sz pl B G D a) q 131):=by
 have hn:=hr.len
 have hne:q.p<w1.heap.size:=hP.lt (.inl rfl)
 refine (Kf.fn_new (cap:=cap) (v:=v) hP (hr.after h0) ho n1 n2 (Nat.zero_le _) (λe=>by have:=hq b e;omega) hv).mono ?_
 intro e w2 hq2
 unfold Kf.NewFlatPost at hq2
 obtain ⟨L,q2,rfl,hR,hl,h1,h2,hqq,hP2,hW,_⟩:=hq2
 exact ⟨L.lb,rfl,pt_tk h0 hq hne n1 n2 ho hn hv hR hl h1 h2 hqq hP2 hW⟩
theorem ly_tk (h0:Wr Nil w0 w1) (hq:∀ k,q.F k→w0.heap.size≤k) (hP:PlanAt w1 q n [] []) (hr:RowAt .i64 w0 (some ⟨b,o,none⟩) n zs) (hb:b<w0.heap.size) (ho:homesOK zs=true) (n1:1≤n) (n2:n≤64) (hv:0≤v∧v<4294967296):
  Calls prog 32 #[.pointer (some ⟨q.p,0,none⟩),.agg #[.int .i64 1,.slice (some ⟨b,o,none⟩) n cap,.int .u32 v,.int .i64 sz,.int .i64 pl,.int .i64 B,.int .i64 G,.int .i64 D]] w1 (BlPost w0 (λa=>a.kd=1∧NewA n zs v sz pl B G D a) q):=by
 have cN:=λW (k:Wr Nil w1 W)=>nw_tk (cap:=cap) (v:=v) (sz:=sz) (pl:=pl) (B:=B) (G:=G) (D:=D) (h0.nil k) hq (hP.after k) hr hb ho n1 n2 hv
 clear h0 hq hP hr hb ho
 go_enter func32,ntmps32
 go_wp2_with (first
  |(go_at_call 57;(with_reducible refine (cN _ ((Wr.refl _ _).alloc _)).mono ?_);intro e w2 hq2;unfold NwPost at hq2;obtain ⟨lb,rfl,hB⟩:=hq2;have HB:=Lib.hid hB;clear hB cN)
  |(go_at_call 56;(with_reducible refine (lk_ok _ _).mono ?_);rintro e w3 ⟨rfl,rfl⟩))
 go_ret2
 exact HB.out
theorem nw_sl (h0:Wr Nil w0 w1) (hq:∀ k,q.F k→w0.heap.size≤k) (hP:PlanAt w1 q n [] []) (hr:RowAt .i64 w0 (some ⟨b,o,none⟩) n zs) (hb:b<w0.heap.size) (ho:homesOK zs=true) (n1:1≤n) (n2:n≤64) (hv:0≤v∧v<4294967296) {m z:Nat} (siz:sizeB m=true) (hnm:n≤m) (hz:v%(m:Int)=(z:Int)) (hsz:sz=(m:Int)):
  Calls prog 58 #[.pointer (some ⟨q.p,0,none⟩),.slice (some ⟨b,o,none⟩) n cap,.int .i64 sz,.int .u32 v] w1 (NwPost w0 (λa=>a.kd=2∧NewA n zs v sz pl B G D a) q 134):=by
 subst hsz
 have hn:=hr.len
 have hne:q.p<w1.heap.size:=hP.lt (.inl rfl)
 refine (Ks.fn_new (cap:=cap) (v:=v) hP (hr.after h0) ho n1 n2 siz hnm (Nat.zero_le _) (λe=>by have:=hq b e;omega) hv hz).mono ?_
 intro e w2 hq2
 unfold Ks.NewSlotsPost at hq2
 obtain ⟨L,q2,rfl,hR,hl,h1,h2,hqq,hP2,hW,_⟩:=hq2
 exact ⟨L.lb,rfl,pt_sl h0 hq hne n1 n2 ho hn hv rfl siz hnm hz hR hl h1 h2 hqq hP2 hW⟩
theorem ly_sl (h0:Wr Nil w0 w1) (hq:∀ k,q.F k→w0.heap.size≤k) (hP:PlanAt w1 q n [] []) (hr:RowAt .i64 w0 (some ⟨b,o,none⟩) n zs) (hb:b<w0.heap.size) (ho:homesOK zs=true) (n1:1≤n) (n2:n≤64) (hv:0≤v∧v<4294967296) {m z:Nat} (siz:sizeB m=true) (hnm:n≤m) (hz:v%(m:Int)=(z:Int)) (hsz:sz=(m:Int)):
  Calls prog 32 #[.pointer (some ⟨q.p,0,none⟩),.agg #[.int .i64 2,.slice (some ⟨b,o,none⟩) n cap,.int .u32 v,.int .i64 sz,.int .i64 pl,.int .i64 B,.int .i64 G,.int .i64 D]] w1 (BlPost w0 (λa=>a.kd=2∧NewA n zs v sz pl B G D a) q):=by
 subst hsz
 have cN:=λW (k:Wr Nil w1 W)=>nw_sl (cap:=cap) (v:=v) (sz:=(m:Int)) (pl:=pl) (B:=B) (G:=G) (D:=D) (h0.nil k) hq (hP.after k) hr hb ho n1 n2 hv siz hnm hz rfl
 clear h0 hq hP hr hb ho
 go_enter func32,ntmps32
 go_wp2_with (first
  |(go_at_call 58;(with_reducible refine (cN _ ((Wr.refl _ _).alloc _)).mono ?_);intro e w2 hq2;unfold NwPost at hq2;obtain ⟨lb,rfl,hB⟩:=hq2;have HB:=Lib.hid hB;clear hB cN)
  |(go_at_call 56;(with_reducible refine (lk_ok _ _).mono ?_);rintro e w3 ⟨rfl,rfl⟩))
 go_ret2
 exact HB.out
theorem nw_cl (h0:Wr Nil w0 w1) (hq:∀ k,q.F k→w0.heap.size≤k) (hP:PlanAt w1 q n [] []) (hr:RowAt .i64 w0 (some ⟨b,o,none⟩) n zs) (hb:b<w0.heap.size) (ho:homesOK zs=true) (n1:1≤n) (n2:n≤64):
  Calls prog 59 #[.pointer (some ⟨q.p,0,none⟩),.slice (some ⟨b,o,none⟩) n cap] w1 (NwPost w0 (λa=>a.kd=3∧NewA n zs v sz pl B G D a) q 137):=by
 have hn:=hr.len
 have hne:q.p<w1.heap.size:=hP.lt (.inl rfl)
 refine (Kc.fn_new (cap:=cap) hP (hr.after h0) ho n1 n2 (Nat.zero_le _) (λe=>by have:=hq b e;omega)).mono ?_
 intro e w2 hq2
 unfold Kc.NewClhPost at hq2
 obtain ⟨L,q2,rfl,hR,hl,h1,h2,hqq,hP2,hW,_⟩:=hq2
 exact ⟨L.lb,rfl,pt_cl h0 hq hne n1 n2 ho hn hR hl h1 h2 hqq hP2 hW⟩
theorem ly_cl (h0:Wr Nil w0 w1) (hq:∀ k,q.F k→w0.heap.size≤k) (hP:PlanAt w1 q n [] []) (hr:RowAt .i64 w0 (some ⟨b,o,none⟩) n zs) (hb:b<w0.heap.size) (ho:homesOK zs=true) (n1:1≤n) (n2:n≤64):
  Calls prog 32 #[.pointer (some ⟨q.p,0,none⟩),.agg #[.int .i64 3,.slice (some ⟨b,o,none⟩) n cap,.int .u32 v,.int .i64 sz,.int .i64 pl,.int .i64 B,.int .i64 G,.int .i64 D]] w1 (BlPost w0 (λa=>a.kd=3∧NewA n zs v sz pl B G D a) q):=by
 have cN:=λW (k:Wr Nil w1 W)=>nw_cl (cap:=cap) (v:=v) (sz:=sz) (pl:=pl) (B:=B) (G:=G) (D:=D) (h0.nil k) hq (hP.after k) hr hb ho n1 n2
 clear h0 hq hP hr hb ho
 go_enter func32,ntmps32
 go_wp2_with (first
  |(go_at_call 59;(with_reducible refine (cN _ ((Wr.refl _ _).alloc _)).mono ?_);intro e w2 hq2;unfold NwPost at hq2;obtain ⟨lb,rfl,hB⟩:=hq2;have HB:=Lib.hid hB;clear hB cN)
  |(go_at_call 56;(with_reducible refine (lk_ok _ _).mono ?_);rintro e w3 ⟨rfl,rfl⟩))
 go_ret2
 exact HB.out
theorem nw_mc (h0:Wr Nil w0 w1) (hq:∀ k,q.F k→w0.heap.size≤k) (hP:PlanAt w1 q n [] []) (hr:RowAt .i64 w0 (some ⟨b,o,none⟩) n zs) (hb:b<w0.heap.size) (ho:homesOK zs=true) (n1:1≤n) (n2:n≤64):
  Calls prog 60 #[.pointer (some ⟨q.p,0,none⟩),.slice (some ⟨b,o,none⟩) n cap] w1 (NwPost w0 (λa=>a.kd=4∧NewA n zs v sz pl B G D a) q 140):=by
 have hn:=hr.len
 have hne:q.p<w1.heap.size:=hP.lt (.inl rfl)
 refine (Km.fn_new (cap:=cap) hP (hr.after h0) ho n1 n2 (Nat.zero_le _) (λe=>by have:=hq b e;omega)).mono ?_
 intro e w2 hq2
 unfold Km.NewMcsPost at hq2
 obtain ⟨L,q2,rfl,hR,hl,h1,h2,hqq,hP2,hW,_⟩:=hq2
 exact ⟨L.lb,rfl,pt_mc h0 hq hne n1 n2 ho hn hR hl h1 h2 hqq hP2 hW⟩
theorem ly_mc (h0:Wr Nil w0 w1) (hq:∀ k,q.F k→w0.heap.size≤k) (hP:PlanAt w1 q n [] []) (hr:RowAt .i64 w0 (some ⟨b,o,none⟩) n zs) (hb:b<w0.heap.size) (ho:homesOK zs=true) (n1:1≤n) (n2:n≤64):
  Calls prog 32 #[.pointer (some ⟨q.p,0,none⟩),.agg #[.int .i64 4,.slice (some ⟨b,o,none⟩) n cap,.int .u32 v,.int .i64 sz,.int .i64 pl,.int .i64 B,.int .i64 G,.int .i64 D]] w1 (BlPost w0 (λa=>a.kd=4∧NewA n zs v sz pl B G D a) q):=by
 have cN:=λW (k:Wr Nil w1 W)=>nw_mc (cap:=cap) (v:=v) (sz:=sz) (pl:=pl) (B:=B) (G:=G) (D:=D) (h0.nil k) hq (hP.after k) hr hb ho n1 n2
 clear h0 hq hP hr hb ho
 go_enter func32,ntmps32
 go_wp2_with (first
  |(go_at_call 60;(with_reducible refine (cN _ ((Wr.refl _ _).alloc _)).mono ?_);intro e w2 hq2;unfold NwPost at hq2;obtain ⟨lb,rfl,hB⟩:=hq2;have HB:=Lib.hid hB;clear hB cN)
  |(go_at_call 56;(with_reducible refine (lk_ok _ _).mono ?_);rintro e w3 ⟨rfl,rfl⟩))
 go_ret2
 exact HB.out
theorem nw_ab (h0:Wr Nil w0 w1) (hq:∀ k,q.F k→w0.heap.size≤k) (hP:PlanAt w1 q n [] []) (hr:RowAt .i64 w0 (some ⟨b,o,none⟩) n zs) (hb:b<w0.heap.size) (ho:homesOK zs=true) (n1:1≤n) (n2:n≤64) {ea:Nat} (e1:1≤ea) (e2:ea≤8) (hp:pl=(ea:Int)):
  Calls prog 61 #[.pointer (some ⟨q.p,0,none⟩),.slice (some ⟨b,o,none⟩) n cap,.int .i64 pl] w1 (NwPost w0 (λa=>a.kd=5∧NewA n zs v sz pl B G D a) q 143):=by
 subst hp
 have hn:=hr.len
 have hne:q.p<w1.heap.size:=hP.lt (.inl rfl)
 refine (Ka.fn_new (cap:=cap) hP (hr.after h0) ho n1 n2 ea e1 e2 (Nat.zero_le _) (λe=>by have:=hq b e;omega)).mono ?_
 intro e w2 hq2
 unfold Ka.NewAbPost at hq2
 obtain ⟨L,q2,rfl,hR,hl,h1,h2,hqq,hP2,hW,_⟩:=hq2
 exact ⟨L.lb,rfl,pt_ab h0 hq hne n1 n2 ho hn rfl e1 e2 hR hl h1 h2 hqq (by unfold Ka.homesA;rw [hn];exact hP2) hW⟩
theorem ly_ab (h0:Wr Nil w0 w1) (hq:∀ k,q.F k→w0.heap.size≤k) (hP:PlanAt w1 q n [] []) (hr:RowAt .i64 w0 (some ⟨b,o,none⟩) n zs) (hb:b<w0.heap.size) (ho:homesOK zs=true) (n1:1≤n) (n2:n≤64) {ea:Nat} (e1:1≤ea) (e2:ea≤8) (hp:pl=(ea:Int)):
  Calls prog 32 #[.pointer (some ⟨q.p,0,none⟩),.agg #[.int .i64 5,.slice (some ⟨b,o,none⟩) n cap,.int .u32 v,.int .i64 sz,.int .i64 pl,.int .i64 B,.int .i64 G,.int .i64 D]] w1 (BlPost w0 (λa=>a.kd=5∧NewA n zs v sz pl B G D a) q):=by
 subst hp
 have cN:=λW (k:Wr Nil w1 W)=>nw_ab (cap:=cap) (v:=v) (sz:=sz) (pl:=(ea:Int)) (B:=B) (G:=G) (D:=D) (h0.nil k) hq (hP.after k) hr hb ho n1 n2 e1 e2 rfl
 clear h0 hq hP hr hb ho
 go_enter func32,ntmps32
 go_wp2_with (first
  |(go_at_call 61;(with_reducible refine (cN _ ((Wr.refl _ _).alloc _)).mono ?_);intro e w2 hq2;unfold NwPost at hq2;obtain ⟨lb,rfl,hB⟩:=hq2;have HB:=Lib.hid hB;clear hB cN)
  |(go_at_call 56;(with_reducible refine (lk_ok _ _).mono ?_);rintro e w3 ⟨rfl,rfl⟩))
 go_ret2
 exact HB.out
theorem nw_hi (h0:Wr Nil w0 w1) (hq:∀ k,q.F k→w0.heap.size≤k) (hP:PlanAt w1 q n [] []) (hr:RowAt .i64 w0 (some ⟨b,o,none⟩) n zs) (hb:b<w0.heap.size) (ho:homesOK zs=true) (n1:1≤n) (n2:n≤64):
  Calls prog 62 #[.pointer (some ⟨q.p,0,none⟩),.slice (some ⟨b,o,none⟩) n cap] w1 (NwPost w0 (λa=>a.kd=6∧NewA n zs v sz pl B G D a) q 146):=by
 have hn:=hr.len
 have hne:q.p<w1.heap.size:=hP.lt (.inl rfl)
 refine (Kh.fn_new (cap:=cap) hP (hr.after h0) ho n1 n2 (Nat.zero_le _) (λe=>by have:=hq b e;omega)).mono ?_
 intro e w2 hq2
 unfold Kh.NewHierPost at hq2
 obtain ⟨L,q2,rfl,hR,hl,h1,h2,hqq,hP2,hW,_⟩:=hq2
 exact ⟨L.lb,rfl,pt_hi h0 hq hne n1 n2 ho hn hR hl h1 h2 hqq hP2 hW⟩
theorem ly_hi (h0:Wr Nil w0 w1) (hq:∀ k,q.F k→w0.heap.size≤k) (hP:PlanAt w1 q n [] []) (hr:RowAt .i64 w0 (some ⟨b,o,none⟩) n zs) (hb:b<w0.heap.size) (ho:homesOK zs=true) (n1:1≤n) (n2:n≤64):
  Calls prog 32 #[.pointer (some ⟨q.p,0,none⟩),.agg #[.int .i64 6,.slice (some ⟨b,o,none⟩) n cap,.int .u32 v,.int .i64 sz,.int .i64 pl,.int .i64 B,.int .i64 G,.int .i64 D]] w1 (BlPost w0 (λa=>a.kd=6∧NewA n zs v sz pl B G D a) q):=by
 have cN:=λW (k:Wr Nil w1 W)=>nw_hi (cap:=cap) (v:=v) (sz:=sz) (pl:=pl) (B:=B) (G:=G) (D:=D) (h0.nil k) hq (hP.after k) hr hb ho n1 n2
 clear h0 hq hP hr hb ho
 go_enter func32,ntmps32
 go_wp2_with (first
  |(go_at_call 62;(with_reducible refine (cN _ ((Wr.refl _ _).alloc _)).mono ?_);intro e w2 hq2;unfold NwPost at hq2;obtain ⟨lb,rfl,hB⟩:=hq2;have HB:=Lib.hid hB;clear hB cN)
  |(go_at_call 56;(with_reducible refine (lk_ok _ _).mono ?_);rintro e w3 ⟨rfl,rfl⟩))
 go_ret2
 exact HB.out
theorem nw_co (h0:Wr Nil w0 w1) (hq:∀ k,q.F k→w0.heap.size≤k) (hP:PlanAt w1 q n [] []) (hr:RowAt .i64 w0 (some ⟨b,o,none⟩) n zs) (hb:b<w0.heap.size) (ho:homesOK zs=true) (n1:1≤n) (n2:n≤64) (hc:rightB G D B=true):
  Calls prog 63 #[.pointer (some ⟨q.p,0,none⟩),.slice (some ⟨b,o,none⟩) n cap,.int .i64 G,.int .i64 D,.int .i64 B] w1 (NwPost w0 (λa=>a.kd=7∧NewA n zs v sz pl B G D a) q 149):=by
 have hn:=hr.len
 have hne:q.p<w1.heap.size:=hP.lt (.inl rfl)
 refine (fn_new (cap:=cap) hP (hr.after h0) ho (hNo_of hr.len ho) n1 n2 (Nat.zero_le _) (λe=>by have:=hq b e;omega) (Nat.lt_of_lt_of_le hb h0.size) hc).mono ?_
 intro e w2 hq2
 unfold NewCoPost at hq2
 obtain ⟨L,q2,rfl,hR,hl,h1,hqq,hP2,hW,_⟩:=hq2
 exact ⟨L.lb,rfl,pt_co h0 hq hne n1 n2 ho hn hc (by unfold rightB at hc;simp only [Bool.and_eq_true,decide_eq_true_eq] at hc;omega) hR hl h1 hqq hP2 hW⟩
theorem ly_co (h0:Wr Nil w0 w1) (hq:∀ k,q.F k→w0.heap.size≤k) (hP:PlanAt w1 q n [] []) (hr:RowAt .i64 w0 (some ⟨b,o,none⟩) n zs) (hb:b<w0.heap.size) (ho:homesOK zs=true) (n1:1≤n) (n2:n≤64) (hc:rightB G D B=true):
  Calls prog 32 #[.pointer (some ⟨q.p,0,none⟩),.agg #[.int .i64 7,.slice (some ⟨b,o,none⟩) n cap,.int .u32 v,.int .i64 sz,.int .i64 pl,.int .i64 B,.int .i64 G,.int .i64 D]] w1 (BlPost w0 (λa=>a.kd=7∧NewA n zs v sz pl B G D a) q):=by
 have cN:=λW (k:Wr Nil w1 W)=>nw_co (cap:=cap) (v:=v) (sz:=sz) (pl:=pl) (B:=B) (G:=G) (D:=D) (h0.nil k) hq (hP.after k) hr hb ho n1 n2 hc
 clear h0 hq hP hr hb ho
 go_enter func32,ntmps32
 go_wp2_with (first
  |(go_at_call 63;(with_reducible refine (cN _ ((Wr.refl _ _).alloc _)).mono ?_);intro e w2 hq2;unfold NwPost at hq2;obtain ⟨lb,rfl,hB⟩:=hq2;have HB:=Lib.hid hB;clear hB cN)
  |(go_at_call 56;(with_reducible refine (lk_ok _ _).mono ?_);rintro e w3 ⟨rfl,rfl⟩))
 go_ret2
 exact HB.out
end
namespace Kf
theorem fn_none {w:World} {p:Nat} {sa:Option Addr} {n cap:Nat} {zs:List Int} (hr:RowAt .i64 w sa n zs) (hL:n≤1000000) (hn:homesOK zs=false∨n<1∨64<n) (v:Int):
  Calls prog 57 #[.pointer (some ⟨p,0,none⟩),.slice sa n cap,.int .u32 v] w λe w'=>e= .returned (.tuple #[.pointer none,.int .i64 1])∧Wr Nil w w':=by
 have hk:=(((Wr.refl Nil w).alloc (.cells #[.pointer (some ⟨p,0,none⟩)] 84)).alloc (.cells #[.slice sa n cap] 22)).alloc (.cells #[.int .u32 v] 23)
 have c:=hm_none (cap:=cap) (hr.after hk) false true hL hn
 have HK:=Lib.hid hk
 clear hr hn hk
 go_enter func57,ntmps57
 go_wp2_with (first
  |(go_at_call 80;(with_reducible refine c.mono ?_);rintro e w' ⟨rfl,rfl⟩))
 go_ret2
 exact ⟨rfl,HK.out⟩
end Kf
def BnPost (w:World) (x:Int) (e:Ending) (w':World):Prop:=e= .returned (.tuple #[.nilIface,.int .i64 x])∧Wr Nil w w'
section
variable {w:World} {p n cap:Nat} {sa:Option Addr} {zs:List Int} {v sz pl B G D:Int}
theorem lx_tk (hr:RowAt .i64 w sa n zs) (hL:n≤1000000) (hn:homesOK zs=false∨n<1∨64<n):
  Calls prog 32 #[.pointer (some ⟨p,0,none⟩),.agg #[.int .i64 1,.slice sa n cap,.int .u32 v,.int .i64 sz,.int .i64 pl,.int .i64 B,.int .i64 G,.int .i64 D]] w (BnPost w 1):=by
 have cN:=λW (k:Wr Nil w W)=>Kf.fn_none (p:=p) (cap:=cap) (hr.after k) hL hn v
 clear hr
 go_enter func32,ntmps32
 go_wp2_with (first
  |(go_at_call 57;(with_reducible refine (cN _ ((Wr.refl _ _).alloc _)).mono ?_);rintro e w2 ⟨rfl,hW⟩;have HW:=Lib.hid hW;clear hW)
  |(go_at_call 56;(with_reducible refine (lk_err _ 1 (by decide) _).mono ?_);rintro e w3 ⟨rfl,rfl⟩))
 go_ret2
 exact ⟨rfl,((Wr.refl _ _).alloc _).nil HW.out⟩
theorem lx_sl (hr:RowAt .i64 w sa n zs) (hL:n≤1000000) (hn:homesOK zs=false∨n<1∨64<n):
  Calls prog 32 #[.pointer (some ⟨p,0,none⟩),.agg #[.int .i64 2,.slice sa n cap,.int .u32 v,.int .i64 sz,.int .i64 pl,.int .i64 B,.int .i64 G,.int .i64 D]] w (BnPost w 1):=by
 have cN:=λW (k:Wr Nil w W)=>Ks.fn_none (p:=p) (cap:=cap) (hr.after k) hL hn sz v
 clear hr
 go_enter func32,ntmps32
 go_wp2_with (first
  |(go_at_call 58;(with_reducible refine (cN _ ((Wr.refl _ _).alloc _)).mono ?_);rintro e w2 ⟨rfl,rfl⟩)
  |(go_at_call 56;(with_reducible refine (lk_err _ 1 (by decide) _).mono ?_);rintro e w3 ⟨rfl,rfl⟩))
 go_ret2
 exact ⟨rfl,(Wr.refl _ _).alloc _⟩
theorem lx_cl (hr:RowAt .i64 w sa n zs) (hL:n≤1000000) (hn:homesOK zs=false∨n<1∨64<n):
  Calls prog 32 #[.pointer (some ⟨p,0,none⟩),.agg #[.int .i64 3,.slice sa n cap,.int .u32 v,.int .i64 sz,.int .i64 pl,.int .i64 B,.int .i64 G,.int .i64 D]] w (BnPost w 1):=by
 have cN:=λW (k:Wr Nil w W)=>Kc.fn_none (p:=p) (cap:=cap) (hr.after k) hL hn
 clear hr
 go_enter func32,ntmps32
 go_wp2_with (first
  |(go_at_call 59;(with_reducible refine (cN _ ((Wr.refl _ _).alloc _)).mono ?_);rintro e w2 ⟨rfl,rfl⟩)
  |(go_at_call 56;(with_reducible refine (lk_err _ 1 (by decide) _).mono ?_);rintro e w3 ⟨rfl,rfl⟩))
 go_ret2
 exact ⟨rfl,(Wr.refl _ _).alloc _⟩
theorem lx_mc (hr:RowAt .i64 w sa n zs) (hL:n≤1000000) (hn:homesOK zs=false∨n<1∨64<n):
  Calls prog 32 #[.pointer (some ⟨p,0,none⟩),.agg #[.int .i64 4,.slice sa n cap,.int .u32 v,.int .i64 sz,.int .i64 pl,.int .i64 B,.int .i64 G,.int .i64 D]] w (BnPost w 1):=by
 have cN:=λW (k:Wr Nil w W)=>Km.fn_none (p:=p) (cap:=cap) (hr.after k) hL hn
 clear hr
 go_enter func32,ntmps32
 go_wp2_with (first
  |(go_at_call 60;(with_reducible refine (cN _ ((Wr.refl _ _).alloc _)).mono ?_);rintro e w2 ⟨rfl,rfl⟩)
  |(go_at_call 56;(with_reducible refine (lk_err _ 1 (by decide) _).mono ?_);rintro e w3 ⟨rfl,rfl⟩))
 go_ret2
 exact ⟨rfl,(Wr.refl _ _).alloc _⟩
theorem lx_ab (hr:RowAt .i64 w sa n zs) (hL:n≤1000000) (hn:homesOK zs=false∨n<1∨64<n):
  Calls prog 32 #[.pointer (some ⟨p,0,none⟩),.agg #[.int .i64 5,.slice sa n cap,.int .u32 v,.int .i64 sz,.int .i64 pl,.int .i64 B,.int .i64 G,.int .i64 D]] w (BnPost w 1):=by
 have cN:=λW (k:Wr Nil w W)=>Ka.fn_none (p:=p) (cap:=cap) (hr.after k) hL hn pl
 clear hr
 go_enter func32,ntmps32
 go_wp2_with (first
  |(go_at_call 61;(with_reducible refine (cN _ ((Wr.refl _ _).alloc _)).mono ?_);rintro e w2 ⟨rfl,rfl⟩)
  |(go_at_call 56;(with_reducible refine (lk_err _ 1 (by decide) _).mono ?_);rintro e w3 ⟨rfl,rfl⟩))
 go_ret2
 exact ⟨rfl,(Wr.refl _ _).alloc _⟩
theorem lx_hi (hr:RowAt .i64 w sa n zs) (hL:n≤1000000) (hn:homesOK zs=false∨n<1∨64<n):
  Calls prog 32 #[.pointer (some ⟨p,0,none⟩),.agg #[.int .i64 6,.slice sa n cap,.int .u32 v,.int .i64 sz,.int .i64 pl,.int .i64 B,.int .i64 G,.int .i64 D]] w (BnPost w 1):=by
 have cN:=λW (k:Wr Nil w W)=>Kh.fn_none (p:=p) (cap:=cap) (hr.after k) hL hn
 clear hr
 go_enter func32,ntmps32
 go_wp2_with (first
  |(go_at_call 62;(with_reducible refine (cN _ ((Wr.refl _ _).alloc _)).mono ?_);rintro e w2 ⟨rfl,rfl⟩)
  |(go_at_call 56;(with_reducible refine (lk_err _ 1 (by decide) _).mono ?_);rintro e w3 ⟨rfl,rfl⟩))
 go_ret2
 exact ⟨rfl,(Wr.refl _ _).alloc _⟩
theorem lx_co (hr:RowAt .i64 w sa n zs) (hL:n≤1000000) (hn:homesOK zs=false∨n<1∨64<n):
  Calls prog 32 #[.pointer (some ⟨p,0,none⟩),.agg #[.int .i64 7,.slice sa n cap,.int .u32 v,.int .i64 sz,.int .i64 pl,.int .i64 B,.int .i64 G,.int .i64 D]] w (BnPost w 1):=by
 have cN:=λW (k:Wr Nil w W)=>fn_none (cap:=cap) ⟨p,0,none⟩ G D B (hr.after k) hL hn
 clear hr
 go_enter func32,ntmps32
 go_wp2_with (first
  |(go_at_call 63;(with_reducible refine (cN _ ((Wr.refl _ _).alloc _)).mono ?_);rintro e w2 ⟨rfl,rfl⟩)
  |(go_at_call 56;(with_reducible refine (lk_err _ 1 (by decide) _).mono ?_);rintro e w3 ⟨rfl,rfl⟩))
 go_ret2
 exact ⟨rfl,(Wr.refl _ _).alloc _⟩
theorem lc_sl (hr:RowAt .i64 w sa n zs) (ho:homesOK zs=true) (n1:1≤n) (n2:n≤64) (hx:sizeB sz=false∨sz<n):
  Calls prog 32 #[.pointer (some ⟨p,0,none⟩),.agg #[.int .i64 2,.slice sa n cap,.int .u32 v,.int .i64 sz,.int .i64 pl,.int .i64 B,.int .i64 G,.int .i64 D]] w (BnPost w 7):=by
 have cN:=λW (k:Wr Nil w W)=>Ks.fn_none7 (p:=p) (cap:=cap) (hr.after k) ho n1 n2 hx v
 clear hr
 go_enter func32,ntmps32
 go_wp2_with (first
  |(go_at_call 58;(with_reducible refine (cN _ ((Wr.refl _ _).alloc _)).mono ?_);intro e w2 hq2;unfold Ks.NonePost at hq2;obtain ⟨rfl,hW⟩:=hq2;have HW:=Lib.hid hW;clear hW)
  |(go_at_call 56;(with_reducible refine (lk_err _ 7 (by decide) _).mono ?_);rintro e w3 ⟨rfl,rfl⟩))
 go_ret2
 exact ⟨rfl,((Wr.refl _ _).alloc _).nil HW.out⟩
theorem lc_ab (hr:RowAt .i64 w sa n zs) (ho:homesOK zs=true) (n1:1≤n) (n2:n≤64) (hx:pl<1∨8<pl):
  Calls prog 32 #[.pointer (some ⟨p,0,none⟩),.agg #[.int .i64 5,.slice sa n cap,.int .u32 v,.int .i64 sz,.int .i64 pl,.int .i64 B,.int .i64 G,.int .i64 D]] w (BnPost w 7):=by
 have cN:=λW (k:Wr Nil w W)=>Ka.fn_cfg (p:=p) (cap:=cap) (hr.after k) ho n1 n2 pl hx
 clear hr
 go_enter func32,ntmps32
 go_wp2_with (first
  |(go_at_call 61;(with_reducible refine (cN _ ((Wr.refl _ _).alloc _)).mono ?_);rintro e w2 ⟨rfl,hW⟩;have HW:=Lib.hid hW;clear hW)
  |(go_at_call 56;(with_reducible refine (lk_err _ 7 (by decide) _).mono ?_);rintro e w3 ⟨rfl,rfl⟩))
 go_ret2
 exact ⟨rfl,((Wr.refl _ _).alloc _).nil HW.out⟩
theorem lc_co (hr:RowAt .i64 w sa n zs) (ho:homesOK zs=true) (n1:1≤n) (n2:n≤64) (hx:rightB G D B=false):
  Calls prog 32 #[.pointer (some ⟨p,0,none⟩),.agg #[.int .i64 7,.slice sa n cap,.int .u32 v,.int .i64 sz,.int .i64 pl,.int .i64 B,.int .i64 G,.int .i64 D]] w (BnPost w 7):=by
 have cN:=λW (k:Wr Nil w W)=>fn_cfg (cap:=cap) ⟨p,0,none⟩ (hr.after k) ho n1 n2 hx
 clear hr
 go_enter func32,ntmps32
 go_wp2_with (first
  |(go_at_call 63;(with_reducible refine (cN _ ((Wr.refl _ _).alloc _)).mono ?_);rintro e w2 ⟨rfl,hW⟩;have HW:=Lib.hid hW;clear hW)
  |(go_at_call 56;(with_reducible refine (lk_err _ 7 (by decide) _).mono ?_);rintro e w3 ⟨rfl,rfl⟩))
 go_ret2
 exact ⟨rfl,((Wr.refl _ _).alloc _).nil HW.out⟩
theorem lx_no {kd:Int} (hk:kd<1∨7<kd) (s:Value):
  Calls prog 32 #[.pointer (some ⟨p,0,none⟩),.agg #[.int .i64 kd,s,.int .u32 v,.int .i64 sz,.int .i64 pl,.int .i64 B,.int .i64 G,.int .i64 D]] w (BnPost w 7):=by
 have k1:¬ kd=1:=by omega
 have k2:¬ kd=2:=by omega
 have k3:¬ kd=3:=by omega
 have k4:¬ kd=4:=by omega
 have k5:¬ kd=5:=by omega
 have k6:¬ kd=6:=by omega
 have k7:¬ kd=7:=by omega
 clear hk
 go_enter func32,ntmps32
 go_wp2
 go_ret2
 exact ⟨rfl,(Wr.refl _ _).alloc _⟩
theorem lx_any {kd:Int} (hr:RowAt .i64 w sa n zs) (hL:n≤1000000) {x:Int} (hx:chk kd n zs sz pl B G D=x) (h0:x≠0):
  Calls prog 32 #[.pointer (some ⟨p,0,none⟩),.agg #[.int .i64 kd,.slice sa n cap,.int .u32 v,.int .i64 sz,.int .i64 pl,.int .i64 B,.int .i64 G,.int .i64 D]] w (BnPost w x):=by
 unfold chk at hx
 split at hx
 ·subst hx;rename_i hk;exact lx_no hk _
 rename_i hk
 split at hx
 ·rename_i hn
  subst hx
  have:kd=1∨kd=2∨kd=3∨kd=4∨kd=5∨kd=6∨kd=7:=by omega
  rcases this with rfl|rfl|rfl|rfl|rfl|rfl|rfl
  ·exact lx_tk hr hL hn
  ·exact lx_sl hr hL hn
  ·exact lx_cl hr hL hn
  ·exact lx_mc hr hL hn
  ·exact lx_ab hr hL hn
  ·exact lx_hi hr hL hn
  ·exact lx_co hr hL hn
 rename_i hn
 have ho:homesOK zs=true:=by
  cases e:homesOK zs
  ·exact absurd (.inl e) hn
  ·rfl
 have n1:1≤n:=by omega
 have n2:n≤64:=by omega
 split at hx
 ·rename_i h;obtain ⟨rfl,h⟩:=h;subst hx;exact lc_sl hr ho n1 n2 h
 split at hx
 ·rename_i h;obtain ⟨rfl,h⟩:=h;subst hx;exact lc_ab hr ho n1 n2 h
 split at hx
 ·rename_i h;obtain ⟨rfl,h⟩:=h;subst hx;exact lc_co hr ho n1 n2 h
 exact absurd hx.symm h0
theorem ly_any {w0 w1:World} {q:Pl} {b o:Nat} {kd:Int} (hx:chk kd n zs sz pl B G D=0) (h0:Wr Nil w0 w1) (hq:∀ k,q.F k→w0.heap.size≤k) (hP:PlanAt w1 q n [] []) (hr:RowAt .i64 w0 (some ⟨b,o,none⟩) n zs) (hb:b<w0.heap.size) (hv:0≤v∧v<4294967296):
  Calls prog 32 #[.pointer (some ⟨q.p,0,none⟩),.agg #[.int .i64 kd,.slice (some ⟨b,o,none⟩) n cap,.int .u32 v,.int .i64 sz,.int .i64 pl,.int .i64 B,.int .i64 G,.int .i64 D]] w1 (BlPost w0 (λa=>a.kd=kd∧NewA n zs v sz pl B G D a) q):=by
 unfold chk at hx
 split at hx
 ·omega
 rename_i hk
 split at hx
 ·omega
 rename_i hn
 have ho:homesOK zs=true:=by
  cases e:homesOK zs
  ·exact absurd (.inl e) hn
  ·rfl
 have n1:1≤n:=by omega
 have n2:n≤64:=by omega
 split at hx
 ·omega
 rename_i h2
 split at hx
 ·omega
 rename_i h5
 split at hx
 ·omega
 rename_i h7
 have:kd=1∨kd=2∨kd=3∨kd=4∨kd=5∨kd=6∨kd=7:=by omega
 rcases this with rfl|rfl|rfl|rfl|rfl|rfl|rfl
 ·exact ly_tk h0 hq hP hr hb ho n1 n2 hv
 ·have hs:sizeB sz=true:=by
   cases e:sizeB sz
   ·exact absurd ⟨rfl,.inl e⟩ h2
   ·rfl
  obtain ⟨m,rfl⟩:=Int.eq_ofNat_of_zero_le (show 0≤sz by unfold sizeB at hs;have:=of_decide_eq_true hs;omega)
  have hm:n≤m:=by omega
  obtain ⟨z,hz⟩:=Int.eq_ofNat_of_zero_le (Int.emod_nonneg v (show (m:Int)≠0 by omega))
  exact ly_sl h0 hq hP hr hb ho n1 n2 hv hs hm hz rfl
 ·exact ly_cl h0 hq hP hr hb ho n1 n2
 ·exact ly_mc h0 hq hP hr hb ho n1 n2
 ·obtain ⟨ea,rfl⟩:=Int.eq_ofNat_of_zero_le (show 0≤pl by omega)
  exact ly_ab h0 hq hP hr hb ho n1 n2 (by omega) (by omega) rfl
 ·exact ly_hi h0 hq hP hr hb ho n1 n2
 ·have hc:rightB G D B=true:=by
   cases e:rightB G D B
   ·exact absurd ⟨rfl,e⟩ h7
   ·rfl
  exact ly_co h0 hq hP hr hb ho n1 n2 hc
end
def MkPost (w0:World) (P:Any→Prop) (e:Ending) (w':World):Prop:=∃ a:Any,e= .returned (.tuple #[a.val,.pointer (some ⟨a.q.p,0,none⟩),.int .i64 0])∧a.At w0 w'∧P a
def MxPost (w0:World) (x:Int) (e:Ending) (w':World):Prop:=e= .returned (.tuple #[.nilIface,.pointer none,.int .i64 x])∧Wr Nil w0 w'
theorem bn_good {w0:World} {n cap:Nat} {sa:Option Addr} {kd v sz pl B G D:Int} {P:Any→Prop} (hn:n≤9223372036854775807)
  (hl:∀ (q:Pl) w1,PlanAt w1 q n [] []→(∀ k,q.F k→w0.heap.size≤k)→Wr Nil w0 w1→Calls prog 32 #[.pointer (some ⟨q.p,0,none⟩),.agg #[.int .i64 kd,.slice sa n cap,.int .u32 v,.int .i64 sz,.int .i64 pl,.int .i64 B,.int .i64 G,.int .i64 D]] w1 (BlPost w0 P q)):
  Calls prog 11 #[.agg #[.int .i64 kd,.slice sa n cap,.int .u32 v,.int .i64 sz,.int .i64 pl,.int .i64 B,.int .i64 G,.int .i64 D]] w0 (MkPost w0 P):=by
 obtain ⟨X,hX⟩:∃ X,X=w0.alloc (.cells #[.int .i64 kd,.slice sa n cap,.int .u32 v,.int .i64 sz,.int .i64 pl,.int .i64 B,.int .i64 G,.int .i64 D] 25):=⟨_,rfl⟩
 have hWX:Wr Nil w0 X:=by rw [hX];exact (Wr.refl _ w0).alloc _
 have hblk:X.heap[w0.heap.size]? =some (.cells #[.int .i64 kd,.slice sa n cap,.int .u32 v,.int .i64 sz,.int .i64 pl,.int .i64 B,.int .i64 G,.int .i64 D] 25 (0,0)):=by rw [hX];exact Go.Deep.blk_alloc_new _ _
 have HL:=Lib.hid (And.intro hl hWX)
 have HX:=Lib.hid hX
 clear hl hX
 have x0:X.cell? ⟨w0.heap.size,0,none⟩=some (.int .i64 kd):=(blk_cell hblk 0).trans rfl
 have x1:X.cell? ⟨w0.heap.size,1,none⟩=some (.slice sa n cap):=(blk_cell hblk 1).trans rfl
 have x2:X.cell? ⟨w0.heap.size,2,none⟩=some (.int .u32 v):=(blk_cell hblk 2).trans rfl
 have x3:X.cell? ⟨w0.heap.size,3,none⟩=some (.int .i64 sz):=(blk_cell hblk 3).trans rfl
 have x4:X.cell? ⟨w0.heap.size,4,none⟩=some (.int .i64 pl):=(blk_cell hblk 4).trans rfl
 have x5:X.cell? ⟨w0.heap.size,5,none⟩=some (.int .i64 B):=(blk_cell hblk 5).trans rfl
 have x6:X.cell? ⟨w0.heap.size,6,none⟩=some (.int .i64 G):=(blk_cell hblk 6).trans rfl
 have x7:X.cell? ⟨w0.heap.size,7,none⟩=some (.int .i64 D):=(blk_cell hblk 7).trans rfl
 go_enter func11,ntmps11
 go_wp2_with (first
  |(go_at_call 31;rw [←HX.out];(with_reducible refine (plnew_any n X).mono ?_);rintro e w1 ⟨q,rfl,hP,hnew,hW1⟩;have cL:=HL.out.1 q w1 hP (λk hk=>Nat.le_trans HL.out.2.size (hnew k hk)) (HL.out.2.nil hW1);have y0:=hW1.old x0;have y1:=hW1.old x1;have y2:=hW1.old x2;have y3:=hW1.old x3;have y4:=hW1.old x4;have y5:=hW1.old x5;have y6:=hW1.old x6;have y7:=hW1.old x7;clear hP hnew hW1)
  |(go_at_call 32;(with_reducible refine cL.mono ?_);intro e w2 hq;unfold BlPost at hq;obtain ⟨lb,ty,rfl,hW2,hP⟩:=hq;have cP:=hP w2 (Wr.refl _ _);clear hP hW2 cL)
  |(go_at_call 33;(with_reducible refine cP.mono ?_);rintro e w3 ⟨a,rfl,hlb,hty,hPa,hA⟩;subst hlb;subst hty;have m0:=a.via_use;have m1:=a.nil_use;have m2:=a.useF_enter;have cU:=Any.any_use hA;have HA:=Lib.hid hPa;clear hA hPa cP)
  |((with_reducible refine cU.mono ?_);rintro e w4 ⟨rfl,hL,_⟩;have HZ:=Lib.hid hL;clear hL cU))
 go_returns
 exact ⟨_,rfl,HZ.out,HA.out⟩
theorem bn_bad {w0:World} {n cap:Nat} {sa:Option Addr} {kd v sz pl B G D x:Int} (h0:x≠0)
  (hl:∀ (q:Pl) w1,Wr Nil w0 w1→Calls prog 32 #[.pointer (some ⟨q.p,0,none⟩),.agg #[.int .i64 kd,.slice sa n cap,.int .u32 v,.int .i64 sz,.int .i64 pl,.int .i64 B,.int .i64 G,.int .i64 D]] w1 (BnPost w1 x)):
  Calls prog 11 #[.agg #[.int .i64 kd,.slice sa n cap,.int .u32 v,.int .i64 sz,.int .i64 pl,.int .i64 B,.int .i64 G,.int .i64 D]] w0 (MxPost w0 x):=by
 have hx:(x != 0)=true:=by simp [h0]
 obtain ⟨X,hX⟩:∃ X,X=w0.alloc (.cells #[.int .i64 kd,.slice sa n cap,.int .u32 v,.int .i64 sz,.int .i64 pl,.int .i64 B,.int .i64 G,.int .i64 D] 25):=⟨_,rfl⟩
 have hWX:Wr Nil w0 X:=by rw [hX];exact (Wr.refl _ w0).alloc _
 have hblk:X.heap[w0.heap.size]? =some (.cells #[.int .i64 kd,.slice sa n cap,.int .u32 v,.int .i64 sz,.int .i64 pl,.int .i64 B,.int .i64 G,.int .i64 D] 25 (0,0)):=by rw [hX];exact Go.Deep.blk_alloc_new _ _
 have HL:=Lib.hid (And.intro hl hWX)
 have HX:=Lib.hid hX
 clear hl hX
 have x0:X.cell? ⟨w0.heap.size,0,none⟩=some (.int .i64 kd):=(blk_cell hblk 0).trans rfl
 have x1:X.cell? ⟨w0.heap.size,1,none⟩=some (.slice sa n cap):=(blk_cell hblk 1).trans rfl
 have x2:X.cell? ⟨w0.heap.size,2,none⟩=some (.int .u32 v):=(blk_cell hblk 2).trans rfl
 have x3:X.cell? ⟨w0.heap.size,3,none⟩=some (.int .i64 sz):=(blk_cell hblk 3).trans rfl
 have x4:X.cell? ⟨w0.heap.size,4,none⟩=some (.int .i64 pl):=(blk_cell hblk 4).trans rfl
 have x5:X.cell? ⟨w0.heap.size,5,none⟩=some (.int .i64 B):=(blk_cell hblk 5).trans rfl
 have x6:X.cell? ⟨w0.heap.size,6,none⟩=some (.int .i64 G):=(blk_cell hblk 6).trans rfl
 have x7:X.cell? ⟨w0.heap.size,7,none⟩=some (.int .i64 D):=(blk_cell hblk 7).trans rfl
 go_enter func11,ntmps11
 go_wp2_with (first
  |(go_at_call 31;rw [←HX.out];(with_reducible refine (plnew_any n X).mono ?_);rintro e w1 ⟨q,rfl,hP,hnew,hW1⟩;have cL:=HL.out.1 q w1 (HL.out.2.nil hW1);have y0:=hW1.old x0;have y1:=hW1.old x1;have y2:=hW1.old x2;have y3:=hW1.old x3;have y4:=hW1.old x4;have y5:=hW1.old x5;have y6:=hW1.old x6;have y7:=hW1.old x7;have HW:=Lib.hid (HL.out.2.nil hW1);clear hP hnew hW1)
  |(go_at_call 32;(with_reducible refine cL.mono ?_);intro e w2 hq;unfold BnPost at hq;obtain ⟨rfl,hW2⟩:=hq;have HZ:=Lib.hid (HW.out.nil hW2);clear hW2 cL))
 go_returns
 exact ⟨rfl,HZ.out⟩
theorem bn_any {w0:World} {n cap b o:Nat} {zs:List Int} {kd v sz pl B G D:Int} (hx:chk kd n zs sz pl B G D=0) (hn:n≤1000000) (hr:RowAt .i64 w0 (some ⟨b,o,none⟩) n zs) (hb:b<w0.heap.size) (hv:0≤v∧v<4294967296):
  Calls prog 11 #[.agg #[.int .i64 kd,.slice (some ⟨b,o,none⟩) n cap,.int .u32 v,.int .i64 sz,.int .i64 pl,.int .i64 B,.int .i64 G,.int .i64 D]] w0 (MkPost w0 λa=>a.kd=kd∧NewA n zs v sz pl B G D a):=
 bn_good (by omega) λq w1 hP hq h0=>ly_any hx h0 hq hP hr hb hv
theorem bx_any {w0:World} {n cap:Nat} {sa:Option Addr} {zs:List Int} {kd v sz pl B G D x:Int} (hx:chk kd n zs sz pl B G D=x) (h0:x≠0) (hn:n≤1000000) (hr:RowAt .i64 w0 sa n zs):
  Calls prog 11 #[.agg #[.int .i64 kd,.slice sa n cap,.int .u32 v,.int .i64 sz,.int .i64 pl,.int .i64 B,.int .i64 G,.int .i64 D]] w0 (MxPost w0 x):=
 bn_bad h0 λq w1 k=>lx_any (hr.after k) hn hx h0
theorem row_1z (w:World):RowAt .i64 (w.alloc (.cells #[.int .i64 0] 3)) (some ⟨w.heap.size,0,none⟩) 1 [0]:=by
 refine ⟨rfl,λe=>(by cases e),λb hb j hj=> ?_⟩
 have e:j=0:=by omega
 subst e
 cases hb
 exact (blk_cell (Go.Deep.blk_alloc_new w (.cells #[.int .i64 0] 3)) 0).trans rfl
def AwkPost (w:World) (e:Ending) (w':World):Prop:=e= .returned (.bool true)∧Wr Nil w w'
end Go.Proofs.YtcikfcplagelaaaGreat

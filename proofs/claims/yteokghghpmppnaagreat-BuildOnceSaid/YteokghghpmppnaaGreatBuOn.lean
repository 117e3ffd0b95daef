
import Derived.Test.YteokghghpmppnaaGreatBuMk
import Derived.Test.YteokghghpmppnaaGreatBuCheck
import Derived.Deep.AppendSrc
namespace Go.Proofs.YteokghghpmppnaaGreat
open Go.RowKit Go.BigFrame
set_option linter.unusedVariables false
set_option maxRecDepth 100000
theorem ty_off {w:World} {b c:Nat} {cs cs':Array Value} {t t':TypeId} (h:w.heap[b]? =some (.cells cs t (0,0))) (h':w.heap[c]? =some (.cells cs' t' (0,0))) (ht:t≠t'):c≠b:=by
 rintro rfl
 rw [h] at h'
 cases h'
 exact ht rfl
theorem own_ty {w:World} {base:Nat} {e:TypeId} {size:Nat} {v:Value} {n:Nat} {xs:List Value} {c:Nat} (h:w.ownsRow base e size v n xs) (hc:v.ownBlock=some c):∃ cur,w.heap[c]? =some (.cells cur e (0,0)):=by
 rcases h.2 with ⟨h1,_⟩|⟨g,cap,cur,hv,_,hg,_⟩
 ·rw [h1] at hc;simp [Value.ownBlock] at hc
 ·rw [hv] at hc;simp [Value.ownBlock] at hc;subst hc;exact ⟨cur,hg⟩
theorem PoolAt.off {w:World} {q:Pp} {s:PS} (h:PoolAt w q s) {b:Nat} {cs:Array Value} {t:TypeId} (hb:w.heap[b]? =some (.cells cs t (0,0))) (h1:t≠236) (h2:t≠238) (h3:t≠22) (h4:t≠3) {c:Nat} (hc:q.F s.T c):c≠b:=by
 rcases hc with rfl|rfl|x|⟨u,hu,x⟩
 ·exact ty_off hb h.obj h1
 ·obtain ⟨cur,hg,_⟩:=h.rows
  exact ty_off hb hg h3
 ·obtain ⟨cur,hg⟩:=own_ty h.nodes x
  exact ty_off hb hg h2
 ·obtain ⟨cur,hg⟩:=own_ty (h.row u hu) x
  exact ty_off hb hg h4
namespace Any
theorem At.kept {X W0 w w':World} {a:Any} {b:Nat} {cs:Array Value} (h:a.At W0 w) (hX:Wr Nil X W0) (h0:X.heap.size≤b) (h1:b<W0.heap.size) (hM:w.heap[b]? =some (.cells cs 126 (0,0))) (k:Wr (One b) w w'):a.At X w':=by
 have hs:=hX.size
 have hwr:Wr Nil X w':=(hX.nil h.wr).trans k λc hc e=>by unfold One at e;unfold Nil;omega
 have ne:∀ {c:Nat},W0.heap.size≤c→¬ One b c:=λhc e=>by unfold One at e;omega
 cases a with
 |tk L f=>
  have hl:=Kf.LkS.low h
  exact ⟨(Kf.LkS.lk h).wrote k (ne hl.1) (ne hl.2.1) (ne hl.2.2.1) (ne hl.2.2.2.1) (λc c1 _=>ne (Nat.le_trans hl.2.2.2.2 c1)),⟨by omega,by omega,by omega,by omega,by omega⟩,hwr⟩
 |sl L f=>
  have hl:=Ks.LkS.low h
  exact ⟨(Ks.LkS.lk h).wrote k (ne hl.1) (ne hl.2.1) (ne hl.2.2.1) (ne hl.2.2.2.1) (λc c1 _=>ne (Nat.le_trans hl.2.2.2.2 c1)),⟨by omega,by omega,by omega,by omega,by omega⟩,hwr⟩
 |cl L f=>
  have hl:=Kc.LkS.low h
  exact ⟨(Kc.LkS.lk h).wrote k (ne hl.1) (ne hl.2.1) (ne hl.2.2.1) (ne hl.2.2.2.1) (λc c1 _=>ne (Nat.le_trans hl.2.2.2.2 c1)),⟨by omega,by omega,by omega,by omega,by omega⟩,hwr⟩
 |mc L f=>
  have hl:=Km.LkS.low h
  exact ⟨(Km.LkS.lk h).wrote k (ne hl.1) (ne hl.2.1) (ne hl.2.2.1) (ne hl.2.2.2.1) (λc c1 _=>ne (Nat.le_trans hl.2.2.2.2 c1)),⟨by omega,by omega,by omega,by omega,by omega⟩,hwr⟩
 |ab L f=>
  have hl:=Ka.LkS.low h
  obtain ⟨Q,q1,q2,q3⟩:=(Ka.LkS.lk h).raw.obj
  obtain ⟨G,g1,g2⟩:=(Ka.LkS.lk h).raw.tick
  have hr:=(Ka.LkS.lk h).raw
  exact ⟨⟨⟨⟨Q,(k.block _ (blk_lt q1) (ne hl.1)).trans q1,q2.wrote k (λc hc e=>q2.off hM (by decide) (by decide) (by decide) (by decide) hc e),q3⟩,hr.seat.wrote k (ne hl.2.1) (ne hl.2.2.1),⟨G,(k.block _ (blk_lt g1) (ne hl.2.2.2.1)).trans g1,g2⟩,hr.np,hr.ne,hr.each,hr.adr⟩,(Ka.LkS.lk h).port.wrote k (λc c1 _=>ne (Nat.le_trans hl.2.2.2.2 c1)),(Ka.LkS.lk h).far,Nat.le_trans (Ka.LkS.lk h).top k.size⟩,⟨by omega,by omega,by omega,by omega,by omega⟩,hwr⟩
 |hi L f=>
  have hl:=Kh.LkS.low h
  exact ⟨⟨(Kh.LkS.lk h).raw.wrote k (ne hl.1) (ne hl.2.1) (ne hl.2.2.1) (ne hl.2.2.2.1),(Kh.LkS.lk h).port.wrote k (λc c1 _=>ne (Nat.le_trans hl.2.2.2.2 c1)),(Kh.LkS.lk h).far,Nat.le_trans (Kh.LkS.lk h).top k.size⟩,⟨by omega,by omega,by omega,by omega,by omega⟩,hwr⟩
 |co L f=>
  have hl:W0.heap.size≤L.lo:=LkS.low h
  have h5:=(LkS.lk h).lk.k0
  have hm:=(LkS.lk h).lk
  exact ⟨⟨⟨hm.raw.wrote k (λc c1 _=>ne (Nat.le_trans hl c1)),hm.port.wrote k (λc c1 _=>ne (by omega)),hm.far,Nat.le_trans hm.top k.size⟩,(LkS.lk h).inv,(LkS.lk h).a1⟩,by omega,hwr⟩
end Any
open _root_.Go.Proofs.Tryz Go.Deep
theorem on_home {w:World} {b o n cap:Nat} {zs:List Int} {kd v sz pl B G D:Int} (hr:RowAt .i64 w (some ⟨b,o,none⟩) n zs) (hn:1≤n):
  Calls prog 20 #[.agg #[.int .i64 kd,.slice (some ⟨b,o,none⟩) n cap,.int .u32 v,.int .i64 sz,.int .i64 pl,.int .i64 B,.int .i64 G,.int .i64 D]] w λe w'=>e= .returned (.int .i64 (if kd=7 then 0 else zs.getD 0 0))∧Wr Nil w w':=by
 obtain ⟨X,hX⟩:∃ X,X=w.alloc (.cells #[.int .i64 kd,.slice (some ⟨b,o,none⟩) n cap,.int .u32 v,.int .i64 sz,.int .i64 pl,.int .i64 B,.int .i64 G,.int .i64 D] 25):=⟨_,rfl⟩
 have hWX:Wr Nil w X:=by rw [hX];exact (Wr.refl _ w).alloc _
 have hblk:X.heap[w.heap.size]? =some (.cells #[.int .i64 kd,.slice (some ⟨b,o,none⟩) n cap,.int .u32 v,.int .i64 sz,.int .i64 pl,.int .i64 B,.int .i64 G,.int .i64 D] 25 (0,0)):=by rw [hX];exact blk_alloc_new _ _
 have x0:X.cell? ⟨w.heap.size,0,none⟩=some (.int .i64 kd):=(blk_cell hblk 0).trans rfl
 have x1:X.cell? ⟨w.heap.size,1,none⟩=some (.slice (some ⟨b,o,none⟩) n cap):=(blk_cell hblk 1).trans rfl
 have hc:X.cell? ⟨b,o,none⟩=some (.int .i64 (zs.getD 0 0)):=by have h:=(hr.after hWX).cell _ rfl 0 (by omega);rw [Addr.add_lit,Nat.add_zero] at h;exact h
 have hn1:(0:Int)<(n:Nat):=by omega
 have hn2:0<n:=by omega
 have HX:=Lib.hid (And.intro hX hWX)
 clear hX hWX hblk hr hn
 by_cases h7:kd=7
 ·subst h7
  rw [if_pos rfl]
  go_enter func20,ntmps20
  go_upto_region 1 with fail
  rw [←HX.out.1]
  go_wp2
  go_ret
  exact ⟨rfl,HX.out.2⟩
 ·rw [if_neg h7]
  go_enter func20,ntmps20
  go_upto_region 1 with fail
  rw [←HX.out.1]
  go_wp2
  go_ret
  exact ⟨rfl,HX.out.2⟩
def OnP (X:World) (b n:Nat) (zs:List Int) (kd v sz pl B G D:Int) (l p:Value) (x:Int) (w:World):Prop:=
 ∃ (a:Any) (W0 W:World),l=a.val∧p= .pointer (some ⟨a.q.p,0,none⟩)∧x=0∧(a.kd=kd∧NewA n zs v sz pl B G D a)∧a.At W0 W∧Wr Nil X W0∧b<W0.heap.size∧(∃ cs,W.heap[b]? =some (.cells cs 126 (0,0)))∧Wr (One b) W w
def On1 (X w:World) (b n:Nat) (zs:List Int) (kd v sz pl B G D:Int) (e:Ending) (w':World):Prop:=
 ∃ a:Any,e= .returned (.tuple #[a.val,.pointer (some ⟨a.q.p,0,none⟩),.int .i64 0])∧(a.kd=kd∧NewA n zs v sz pl B G D a)∧a.At X w'∧MkAt w' b 1 0 1 zfOf a.val (.pointer (some ⟨a.q.p,0,none⟩)) 0∧Wr (One b) w w'
theorem on_lk1 {X w:World} {b n c s so:Nat} {zs:List Int} {kd v sz pl B G D x0:Int} {l0 p0:Value} (hM:MkAt w b 0 0 0 (cfOf kd (.slice (some ⟨s,so,none⟩) n c) v sz pl B G D) l0 p0 x0) (hr:RowAt .i64 w (some ⟨s,so,none⟩) n zs) (hs:s<w.heap.size) (hsb:s≠b) (hx:chk kd n zs sz pl B G D=0) (hn:n≤1000) (hv:0≤v∧v<4294967296) (hXw:Wr Nil X w) (hXb:X.heap.size≤b):
  Calls prog 18 #[.pointer (some ⟨b,0,none⟩)] w (On1 X w b n zs kd v sz pl B G D):=by
 have hb:=blk_lt hM
 refine (lk_G (Pf:=OnP X b n zs kd v sz pl B G D) hM (λY hY hT W hW=> ?_) (λl p x w1 w2 h k=> ?_)).mono ?_
 ·have hYW:Wr (One b) w W:=hY.trans hW λ_ _ e=>e.elim
  refine (bn_any (cap:=c) hx (by omega) (hr.wrote hYW λb' e' h=>by cases e';exact hsb h) (Nat.lt_of_lt_of_le hs hYW.size) hv).mono ?_
  intro e w9 hq
  unfold MkPost at hq
  obtain ⟨a,rfl,hA,hNA⟩:=hq
  refine ⟨a.ty,.pointer (some ⟨a.lb,0,none⟩),some ⟨a.q.p,0,none⟩,0,rfl,⟨a,W,w9,rfl,rfl,rfl,hNA,hA,hXw.trans hYW λc hc e=>by unfold One at e;unfold Nil;omega,Nat.lt_of_lt_of_le hb hYW.size,?_,Wr.refl _ _⟩,hA.wr⟩
  obtain ⟨cs,hT⟩:=hT
  have hT2:=(hW.block _ (blk_lt hT) id).trans hT
  exact ⟨cs,(hA.wr.block _ (blk_lt hT2) id).trans hT2⟩
 ·obtain ⟨a,W0,W,h1,h2,h3,h4,h5,h6,h7,h8,h9⟩:=h
  exact ⟨a,W0,W,h1,h2,h3,h4,h5,h6,h7,h8,h9.trans k λ_ _ e=>e⟩
 ·rintro e w' ⟨ty,l,p,x,rfl,⟨a,W0,W,h1,h2,rfl,h4,h5,h6,h7,⟨cs,h8⟩,h9⟩,hM',hW'⟩
  rw [h1,h2] at hM' ⊢
  exact ⟨a,rfl,h4,h5.kept h6 hXb h7 h8 h9,hM',hW'⟩
def On0 (w:World) (b:Nat) (x:Int) (e:Ending) (w':World):Prop:=e= .returned (.tuple #[.nilIface,.pointer none,.int .i64 x])∧MkAt w' b 1 0 1 zfOf .nilIface (.pointer none) x∧Wr (One b) w w'
theorem on_bad1 {w:World} {b n c:Nat} {sa:Option Addr} {zs:List Int} {kd v sz pl B G D x0 x:Int} {l0 p0:Value} (hM:MkAt w b 0 0 0 (cfOf kd (.slice sa n c) v sz pl B G D) l0 p0 x0) (hr:RowAt .i64 w sa n zs) (hsb:∀ y,sa=some y→y.block≠b) (hx:chk kd n zs sz pl B G D=x) (h0:x≠0) (hn:n≤1000):
  Calls prog 18 #[.pointer (some ⟨b,0,none⟩)] w (On0 w b x):=by
 refine (lk_N (Pf:=λ_ p y _=>p= .pointer none∧y=x) hM (λY hY _ W hW=> ?_) (λ_ _ _ _ _ h _=>h)).mono ?_
 ·refine (bx_any (cap:=c) hx h0 (by omega) (hr.wrote (hY.trans hW λ_ _ e=>e.elim) λb' e' h=>hsb _ e' h)).mono ?_
  intro e w9 hq
  unfold MxPost at hq
  obtain ⟨rfl,hW9⟩:=hq
  exact ⟨none,x,rfl,⟨rfl,rfl⟩,hW9⟩
 ·rintro e w' ⟨p,y,rfl,⟨h1,rfl⟩,hM',hW'⟩
  rw [h1] at hM' ⊢
  exact ⟨rfl,hM',hW'⟩
structure OnS (w4:World) (b O g n c:Nat) (sa:Option Addr) (zs:List Int) (cf:Fin 8→Value) (wr:World):Prop where
 mkr:MkAt wr b 0 0 0 cf .nilIface (.pointer none) 0
 row:RowAt .i64 wr sa n zs
 own:∀ j,j<n→∃ z,wr.cell? ⟨g,j,none⟩=some (.int .i64 z)
 fz:∀ j,wr.frozen? ⟨g,j,none⟩=false
 box:wr.cell? ⟨O,1,none⟩=some (.slice (some ⟨g,0,none⟩) n c)
 ne:b≠g∧O≠g∧∀ y,sa=some y→y.block≠g
 wrt:Wr Nil w4 wr
 low:w4.heap.size≤g
def OnA (w4 w5:World) (n:Nat) (zs:List Int) (v:Value) (w6:World):Prop:=
 ∃ g c,v= .slice (some ⟨g,0,none⟩) n c∧RowAt .i64 w6 (some ⟨g,0,none⟩) n zs∧w5.heap.size≤g∧g<w6.heap.size∧(∃ cs,w6.heap[g]? =some (.cells cs 3 (0,0)))∧Wr Nil w5 w6
theorem on_app {w4 w5 w6:World} {v:Value} {n:Nat} {zs:List Int} {o:Option Nat} (h:w6.ownsRow w5.heap.size 3 1 v n (zs.map (Value.int .i64))) (hg:(w5.alloc (.cells #[] 3)).grownBy w6 o) (ho:∀ j,o=some j→w5.heap.size≤j) (hv:v≠.slice none 0 0):OnA w4 w5 n zs v w6:=by
 have hW:=((Wr.refl Nil w5).alloc (.cells #[] 3)).grown hg λj hj hlt=>by have:=ho j hj;unfold Nil;omega
 obtain ⟨sa,c,rfl,_,hc,hr,hb⟩:=own_rowAt h
 cases sa with
 |none=>
  have h1:=hc rfl
  have h2:=hr.empty rfl
  subst h1 h2
  exact absurd rfl hv
 |some a=>
  obtain ⟨a1,a2,a3,a4,_⟩:=hb a rfl
  obtain ⟨g,o',sp⟩:=a
  dsimp only at a1 a2 a3 a4
  subst a3 a4
  obtain ⟨cur,hcur⟩:=own_ty (c:=g) h rfl
  exact ⟨g,c,rfl,hr,a1,a2,⟨cur,hcur⟩,hW⟩
theorem on_app0 {w5:World}:∃ g w6,g=w5.heap.size∧w6=w5.alloc (.cells #[] 3)∧RowAt .i64 w6 (some ⟨g,0,none⟩) 0 []∧w5.heap.size≤g∧g<w6.heap.size∧(∃ cs,w6.heap[g]? =some (.cells cs 3 (0,0)))∧Wr Nil w5 w6:=
 ⟨_,_,rfl,rfl,⟨rfl,λ_=>rfl,λ_ _ j hj=>absurd hj (Nat.not_lt_zero j)⟩,Nat.le_refl _,Nat.lt_of_lt_of_eq (Nat.lt_succ_self _) (nblk_alloc w5 _).symm,⟨_,blk_alloc_new _ _⟩,(Wr.refl Nil w5).alloc _⟩
theorem OnS.mk0 {w4 w7 w8:World} {b O g n c:Nat} {sa:Option Addr} {zs:List Int} {cf:Fin 8→Value} (hM:MkAt w8 b 0 0 0 cf .nilIface (.pointer none) 0) (hr:RowAt .i64 w8 sa n zs) (h7:RowAt .i64 w7 (some ⟨g,0,none⟩) n zs) (hk:∃ cs,w7.heap[g]? =some (.cells cs 3 (0,0))) (hb:w7.heap.size≤b) (hs:∀ y,sa=some y→w7.heap.size≤y.block∧y.block≠b)
  (hx:w7.cell? ⟨O,1,none⟩=some (.slice (some ⟨g,0,none⟩) n c)) (hOg:O<g) (hg:w4.heap.size≤g) (hW:Wr Nil w4 w7) (hW8:Wr Nil w7 w8):OnS w4 b O g n c sa zs cf w8:=by
 obtain ⟨cs,hk⟩:=hk
 have hk8:=(hW8.block _ (blk_lt hk) id).trans hk
 have hlt:=blk_lt hk
 exact ⟨hM,hr,λj hj=>⟨_,by have h:=(h7.after hW8).cell _ rfl j hj;rw [Addr.add_lit,Nat.zero_add] at h;exact h⟩,λj=>blk_frozen hk8 j,hW8.old hx,⟨by omega,by omega,λy hy=>by have:=hs y hy;omega⟩,hW.nil hW8,hg⟩
theorem chk_0 {kd:Int} {zs:List Int} {sz pl B G D:Int}:chk kd 0 zs sz pl B G D≠0:=by
 unfold chk
 split
 ·decide
 ·rw [if_pos (.inr (.inl (by decide)))];decide
theorem chk_ok {kd:Int} {n:Nat} {zs:List Int} {sz pl B G D:Int} (h:chk kd n zs sz pl B G D=0):homesOK zs=true∧1≤n∧n≤64:=by
 unfold chk at h
 split at h
 ·cases h
 ·split at h
  ·cases h
  ·next hx=>
   refine ⟨?_,by omega,by omega⟩
   cases e:homesOK zs with
   |false=>exact absurd (.inl e) hx
   |true=>rfl
theorem load_0 (hs:List Int):loadI hs 0=hs.getD 0 0:=rfl
def Ons (w4 w:World) (a:Any):Prop:=
 Calls prog 196 #[.pointer (some ⟨a.p,0,none⟩),.int .i64 0,.int .i64 (-1)] w (λe w'=>(∃ x:Int,e= .returned (.int .i64 x))∧(a.lock 0 (-1)).At w4 w')∧
 (∀ W,(a.lock 0 (-1)).At w4 W→Calls prog a.stepF #[.pointer (some ⟨a.lb,0,none⟩),.int .i64 0,.int .i64 0,.int .i64 0] W λe w'=>(∃ d:Dd,e= .returned d.val)∧((a.lock 0 (-1)).step 0 0).At w4 w')∧
 (∀ W,(a.lock 0 (-1)).At w4 W→Calls prog 21 #[.pointer (some ⟨a.q.p,0,none⟩),.int .i64 0] W λe w'=>e= .returned (.int .i64 0)∧w'=W)∧
 (∀ W,((a.lock 0 (-1)).step 0 0).At w4 W→Calls prog 21 #[.pointer (some ⟨a.q.p,0,none⟩),.int .i64 0] W λe w'=>e= .returned (.int .i64 1)∧w'=W)∧
 (∀ W,((a.lock 0 (-1)).step 0 0).At w4 W→Calls prog 198 #[.pointer (some ⟨a.p,0,none⟩),.int .i64 0] W λe w'=>e= .returned (.int .i64 1)∧W=w')∧
 (∀ W,((a.lock 0 (-1)).step 0 0).At w4 W→W.cell? ⟨a.lb,0,none⟩=some (.pointer (some ⟨a.p,0,none⟩)))
theorem on_same1 (a:Any):(a.lock 0 (-1)).ty=a.ty∧(a.lock 0 (-1)).lb=a.lb∧(a.lock 0 (-1)).p=a.p∧(a.lock 0 (-1)).q=a.q∧(a.lock 0 (-1)).stepF=a.stepF:=by cases a<;>exact ⟨rfl,rfl,rfl,rfl,rfl⟩
theorem on_same2 (a:Any):(a.step 0 0).ty=a.ty∧(a.step 0 0).lb=a.lb∧(a.step 0 0).p=a.p∧(a.step 0 0).q=a.q∧(a.step 0 0).stepF=a.stepF:=by cases a<;>exact ⟨rfl,rfl,rfl,rfl,rfl⟩
theorem on_s {w4 w:World} {a:Any} {n:Nat} {zs:List Int} {v sz pl B G D:Int} (hA:a.At w4 w) (hN:NewA n zs v sz pl B G D a) (n1:1≤n) (n2:n≤64) (hn:zs.length=n) (ho:homesOK zs=true):Ons w4 w a:=by
 obtain ⟨f1,f2,f3,f4⟩:=hN.first n1 n2 hn ho
 obtain ⟨_,s1,s2,s3,s4⟩:=on_same1 a
 obtain ⟨_,r1,r2,r3,r4⟩:=on_same2 (a.lock 0 (-1))
 refine ⟨?_,λW h=> ?_,λW h=> ?_,λW h=> ?_,λW h=> ?_,λW h=> ?_⟩
 ·refine (Any.any_lock hA 0 (-1)).mono ?_
  rintro e w2 ⟨rfl,hL,_⟩
  exact ⟨⟨_,rfl⟩,hL⟩
 ·have c:=Any.any_step h 0 0 (by rw [f4];decide)
  rw [s1,s4] at c
  refine c.mono ?_
  rintro e w2 ⟨rfl,hL,_⟩
  exact ⟨⟨_,rfl⟩,hL⟩
 ·have c:=paccesses_any h.port 0
  rw [s3,f3] at c
  exact c
 ·have c:=paccesses_any h.port 0
  rw [r3,s3,f2] at c
  exact c
 ·have c:=Any.any_state h 0
  rw [r2,s2,f1] at c
  exact c
 ·have c:=h.cell0
  rw [r1,r2,s1,s2] at c
  exact c
theorem OnS.set {w4 wr:World} {b O g n c k:Nat} {sa:Option Addr} {zs:List Int} {cf:Fin 8→Value} (h:OnS w4 b O g n c sa zs cf wr) (hk:k<n) (z:Int):OnS w4 b O g n c sa zs cf (wr.setCell ⟨g,k,none⟩ (.int .i64 z)):=by
 have hS:Wr (One g) wr (wr.setCell ⟨g,k,none⟩ (.int .i64 z)):=(Wr.refl _ wr).setCell _ _ λ_=>rfl
 obtain ⟨z0,hz0⟩:=h.own k hk
 refine ⟨h.mkr.wrote hS λe=>h.ne.1 e,h.row.wrote hS λb' e' e=>h.ne.2.2 _ e' e,λj hj=> ?_,λj=> ?_,hS.cell h.box λe=>h.ne.2.1 e,h.ne,h.wrt.trans hS λc' hc' e=>by have:=h.low;unfold One at e;unfold Nil;omega,h.low⟩
 ·by_cases e:j=k
  ·subst e
   exact ⟨z,by go_simp⟩
  ·obtain ⟨y,hy⟩:=h.own j hj
   refine ⟨y,?_⟩
   rw [World.cell?_setCell_other _ _ _ _ (by simp)]
   exact hy
 ·have:=h.fz j
  go_simp
end Go.Proofs.YteokghghpmppnaaGreat

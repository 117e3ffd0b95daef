
import Derived.Test.YtcikfcplagelaaaGreatCohLayDo
import Derived.Test.YtcikfcplagelaaaGreatCohortStep
namespace Go.Proofs.YtcikfcplagelaaaGreat
set_option maxHeartbeats 8000000
open _root_.Go.Proofs.Tryz Go.Deep
open Go.RowKit Go.BigFrame
set_option linter.unusedVariables false
set_option maxRecDepth 100000
def callsV:Value:= .func (.func 123) #[] #[]
def newCo (hN:Nat→Nat) (n:Nat) (G K B:Int) (base:Nat) (ps:PSta):FL:=
 ⟨newSeat n false false,B,hN,λt=>cntH hN (hN t) t,λ_=>0,λ_=>0,base+8,λc=>base+8+inZ G 8+lZ K (λc=>cntH hN c n) c,newInn G 8 ps,λc=>newInn K (cntH hN c n) ps,ps⟩
def NewCoPost (w:World) (q:Pl) (t:Int) (hs vs:List Int) (n:Nat) (hN:Nat→Nat) (G K B:Int) (e:Ending) (w':World):Prop:=
 ∃ (L:Lp) (q':Pl),e= .returned (.tuple #[.pointer (some ⟨L.lb,0,none⟩),.int .i64 0])∧(∀ ps,FlRaw w' L (.pointer none) (.pointer none) (λ_=> .pointer none) (newCo hN n G K B hs.length ps) (λ_=>callsV))∧
  w.heap.size≤L.lo∧L.a1=hs.length∧q'.p=q.p∧PlanAt w' q' t (hs++gH G++lH K (λc=>cntH hN c n) 8) (vs++List.replicate (8+inZ G 8+lZ K (λc=>cntH hN c n) 8) 0)∧Wr q.F w w'∧Came w q.F q'.F
theorem i_cx:(prog.info? 264).map (λi=>(i.zero,i.size,i.bytes))=some (some (.agg #[.int .i64 0,.int .i64 0,.nilFunc,.int .u32 0]),4,32):=by kernel_rfl
theorem made_cx (n:Nat):madeCells (Value.agg #[.int .i64 0,.int .i64 0,.nilFunc,.int .u32 0]).cells (n*4)=(cx0 n).toArray:=by
 apply Array.ext'
 show (madeCells (#[.int .i64 0,.int .i64 0,.nilFunc,.int .u32 0]:Array Value) (n*4)).toList=cx0 n
 apply List.ext_getElem?
 intro m
 by_cases hm:m<n*4
 ·have ha:m/4<n:=by omega
  have e:m=m/4*4+m%4:=by omega
  have h2:=cxs_at n (λ_=>0) (λ_=>0) (λ_=> .nilFunc) (λ_=>0) (k:=m/4) ha (j:=m%4) (Nat.mod_lt _ (by decide))
  rw [←e] at h2
  unfold cx0
  rw [h2]
  unfold madeCells
  rw [Array.toList_map,List.getElem?_map,Array.toList_range,List.getElem?_range hm]
  have:m%4=0∨m%4=1∨m%4=2∨m%4=3:=by omega
  rcases this with h|h|h|h<;>simp [h,cxC]
 ·rw [List.getElem?_eq_none (by simp [madeCells];omega),List.getElem?_eq_none (by unfold cx0 cxs;rw [flat_len (cxC_len _ _ _ _),List.length_range];omega)]
theorem co_start {w ws:World} {q:Pl} {t:Int} {hs vs:List Int} (h:PlanAt w q t hs vs) (k:Wr Nil w ws) {p sb n:Nat} {bud:Int} (hS:SeatAt ws p sb (newSeat n false false)) (hp:w.heap.size≤p) (hsb:w.heap.size≤sb) {A:Array Value} (hA:(cx0 n).toArray=A) {lb tb:Nat} (htb:tb=ws.heap.size) (hlb:lb=ws.heap.size+1)
  {W:World} (hW:W=(ws.alloc (.cells A 264)).alloc (.cells (objC p bud 0 .nilIface (λ_=> .nilIface) tb n) 214)):
  LaySt W q ⟨lb,p,sb,tb,n,bud⟩ W q t hs vs 0 .nilIface (λ_=> .nilIface) (cx0 n)∧Wr Nil w W:=by
 subst hA htb hlb hW
 have e1:(ws.alloc (.cells (cx0 n).toArray 264)).heap.size=ws.heap.size+1:=nblk_alloc _ _
 have k2:Wr Nil ws ((ws.alloc (.cells (cx0 n).toArray 264)).alloc (.cells (objC p bud 0 .nilIface (λ_=> .nilIface) ws.heap.size n) 214)):=((Wr.refl _ ws).alloc _).alloc _
 have l2:=blk_lt hS.obj
 have l3:=blk_lt hS.ctx
 have hne:=hS.ne
 refine ⟨⟨(h.after k).after k2,rfl,Came.refl _ _,Wr.refl _ _,?_,hS.after k2,?_,⟨?_,?_,?_,?_⟩,⟨by dsimp only;omega,by dsimp only;omega,by dsimp only;omega,by dsimp only;omega,by dsimp only;omega⟩⟩,k.nil k2⟩
 ·rw [←e1];exact blk_alloc_new _ _
 ·rw [blk_alloc_lt _ _ _ (by rw [e1];dsimp only;omega),blk_alloc_new]
 all_goals
  dsimp only
  rw [nblk_alloc,e1]
  omega
theorem co_end {w Wl W:World} {q q':Pl} {t:Int} {hs vs:List Int} {hN:Nat→Nat} {G K:Int} {vq:Nat→Value} {gi:Ip} {I:Nat→Ip} {lb p sb tb n:Nat} {bud:Int} (h:PlanAt w q t hs vs) (k:Wr Nil w Wl) (hl:LdSt Wl q ⟨lb,p,sb,tb,n,bud⟩ t hs vs hN G K vq gi 8 q' I W) (hlo:w.heap.size≤lb∧w.heap.size≤p∧w.heap.size≤sb∧w.heap.size≤tb)
  (hH:∀ t,t<n→hN t<8) (hb:0≤bud∧bud<4294967296) (hL:hs.length≤700000):
  NewCoPost w q t hs vs n hN G K bud (.returned (.tuple #[.pointer (some ⟨lb,0,none⟩),.int .i64 0])) W:=by
 obtain ⟨L,hLe⟩:∃ L:Lp,L=⟨lb,p,sb,tb,hs.length,(hs.length:Int)+1,noPl,[],w.heap.size,gi,I,λc=>decide (0<cntH hN c n)⟩:=⟨_,rfl⟩
 have hlv:∀ c,c<8→lvK I (λc=>cntH hN c n) 8 c=lvL L c:=λc hc=>by
  rw [hLe]
  unfold lvK lvL
  by_cases q:0<cntH hN c n
  ·rw [if_pos ⟨hc,q⟩];simp [q]
  ·rw [if_neg λe=>q e.2];simp [q]
 have hhas:∀ c,L.has c=true→0<cntH hN c n:=λc hc=>by rw [hLe] at hc;simpa using hc
 have hlt:=hl.lay.lt
 have hg:=hl.ga
 have hga:=(hl.glo ⟨[],[],[],[],[]⟩).rng.1
 refine ⟨L,q',by rw [hLe],λps=>⟨?_,?_,?_,?_,λc hc hh=> ?_,?_,?_,⟨λc hc hh=> ?_,λc d hc hd hhc hhd hne=> ?_⟩,λt ht=>⟨hH t ht,?_⟩,⟨?_,?_,λc hc hh=> ?_⟩,⟨λ_=>by show (0:Int)≤0∧(0:Int)<4294967296;decide,hb⟩⟩,by rw [hLe];exact Nat.le_refl _,by rw [hLe],hl.lay.pq,hl.lay.plan,?_,?_⟩
 ·rw [←hlv 0 (by decide),←hlv 1 (by decide),←hlv 2 (by decide),←hlv 3 (by decide),←hlv 4 (by decide),←hlv 5 (by decide),←hlv 6 (by decide),←hlv 7 (by decide),hLe]
  exact hl.lay.obj
 ·rw [hLe];exact hl.lay.seat
 ·rw [hLe];exact hl.lay.ctx
 ·rw [hLe];exact hl.glo ps
 ·rw [hLe];exact (hl.loc c hc (hhas c hh)).1 ps
 ·rw [hLe];exact hl.lay.ne
 ·rw [hLe]
  dsimp only at hlt ⊢
  exact ⟨⟨hlo.1,by omega⟩,⟨hlo.2.1,by omega⟩,⟨hlo.2.2.1,by omega⟩,hlo.2.2.2,by omega⟩
 ·rw [hLe];exact (hl.loc c hc (hhas c hh)).2.2
 ·rw [hLe]
  dsimp only
  rcases Nat.lt_or_ge c d with x|x
  ·exact .inl (hl.ord c d x hd (hhas c hhc) (hhas d hhd))
  ·exact .inr (hl.ord d c (by omega) hc (hhas d hhd) (hhas c hhc))
 ·rw [hLe]
  exact decide_eq_true ((cntH_pos hN _ n).2 ⟨t,ht,rfl⟩)
 ·rw [hLe];dsimp only;omega
 ·rw [hLe];exact hg.1
 ·rw [hLe];exact (hl.loc c hc (hhas c hh)).2.1
 ·refine (k.mono λ_ _ e=>e.elim).trans hl.lay.wr λj hj e=> ?_
  rcases e with e|e|e
  ·exact e
  ·dsimp only at e;omega
  ·dsimp only at e;omega
 ·exact λj hj=>by
   rcases hl.lay.came j hj with e|e
   ·exact .inl e
   ·have:=k.size;exact .inr (by omega)
theorem lay_off {w ws W:World} {q:Pl} {b:Nat} {B:Int} (hb:¬ q.F b) (hbl:b<w.heap.size) (s1:w.heap.size≤ws.heap.size) (s2:w.heap.size≤W.heap.size) (p sb n:Nat):¬ LyF q ⟨ws.heap.size+1,p,sb,ws.heap.size,n,B⟩ b∧b<W.heap.size:=by
 refine ⟨λe=> ?_,by omega⟩
 rcases e with e|e|e
 ·exact hb e
 ·dsimp only at e;omega
 ·dsimp only at e;omega
theorem fn_new {w:World} {q:Pl} {t:Int} {hs vs:List Int} (h:PlanAt w q t hs vs) {b o n cap:Nat} {zs:List Int} {hN:Nat→Nat} {G K B:Int} (hr:RowAt .i64 w (some ⟨b,o,none⟩) n zs) (ho:homesOK zs=true) (hH:∀ t,t<n→zs.getD t 0=(hN t:Nat)∧hN t<8) (n1:1≤n) (n2:n≤64) (hL:hs.length≤700000) (hb:¬ q.F b) (hbl:b<w.heap.size) (hc:rightB G K B=true):
  Calls prog 63 #[.pointer (some ⟨q.p,0,none⟩),.slice (some ⟨b,o,none⟩) n cap,.int .i64 G,.int .i64 K,.int .i64 B] w (NewCoPost w q t hs vs n hN G K B):=by
 obtain ⟨i0,hi,hz0,hz1,hz2⟩:=info_parts i_cx
 have hmk:∀ w:World,(Instr.makeSlice 211 (.int .i64 (n:Int)) (.int .i64 (n:Int))).run prog w= .ok (.slice (some ⟨w.heap.size,0,none⟩) n n) (w.alloc (.cells (cx0 n).toArray 264)):=by
  intro w
  have h:=Go.run_make (P:=prog) w 211 264 i0 _ underlying211 hi hz0 .i64 .i64 n n (by omega) (by omega) (by rw [hz2];omega) (by omega)
  rw [hz1] at h
  simp only [Int.toNat_natCast] at h
  rw [made_cx n] at h
  exact h
 generalize hA:(cx0 n).toArray=A at hmk
 have cS:=hm_seats (cap:=cap) hr ho false false n1 n2
 have cR:=fl_right G K B
 rw [hc] at cR
 have hc':=hc
 unfold rightB at hc'
 simp only [Bool.and_eq_true,decide_eq_true_eq,List.mem_cons,List.not_mem_nil,or_false] at hc'
 obtain ⟨⟨⟨g1,g2⟩,g3⟩,g4⟩:=hc'
 have hwB:IntKind.u32.wrap B=B:=by rw [IntKind.wrap_u32];omega
 have HX:=Lib.hid (And.intro h (And.intro hr (And.intro hA (And.intro hb (And.intro hbl (And.intro hH (And.intro (show G=1∨G=3∨G=4 by omega) (show K=1∨K=3∨K=4 by omega))))))))
 clear h hr ho hA hb hbl hc hH g1 g2
 go_enter func63,ntmps63
 go_wp2_with (first
  |(go_at_call 80;(with_reducible refine cS.mono ?_);intro e wq hq;unfold NewSeatPost at hq;obtain ⟨p,sb,rfl,hS,hp,hsb,hW⟩:=hq;have HS:=Lib.hid (And.intro hS (And.intro hp (And.intro hsb hW)));clear hS hp hsb hW cS)
  |(go_at_call 92;(with_reducible refine (cR _).mono ?_);rintro e ws ⟨rfl,hW⟩;have HW:=Lib.hid hW;clear hW cR)
  |(go_at_call 93;generalize hWe:(ws.alloc _).alloc _=W;have hc:=co_start (bud:=B) HX.out.1 (HS.out.2.2.2.nil HW.out) (HS.out.1.after HW.out) HS.out.2.1 HS.out.2.2.1 HX.out.2.2.1 rfl rfl hWe.symm;have hlt:=lay_off (B:=B) HX.out.2.2.2.1 HX.out.2.2.2.2.1 (HS.out.2.2.2.nil HW.out).size hc.2.size p sb n;(with_reducible refine (fl_lay (cap:=cap) hc.1 HX.out.2.2.2.2.2.2.1 HX.out.2.2.2.2.2.2.2 (HX.out.2.1.after hc.2) HX.out.2.2.2.2.2.1 n1 n2 hlt.1 hlt.2 hL).mono ?_);intro e w5 hq;unfold LayPost at hq;obtain ⟨rfl,vq,gi,q',I,hl⟩:=hq;have HZ:=Lib.hid (And.intro hc.2 hl);clear hc hlt hl hWe))
 go_ret2
 obtain ⟨h,hr,hA,hb,hbl,hH,hG,hK⟩:=HX.out
 obtain ⟨hS,hp,hsb,hW⟩:=HS.out
 have sz:=(hW.nil HW.out).size
 exact co_end h HZ.out.1 HZ.out.2 ⟨by omega,hp,hsb,by omega⟩ (λt ht=>(hH t ht).2) (by omega) hL
theorem fn_none {w:World} {sa:Option Addr} {n cap:Nat} {zs:List Int} (a:Addr) (G K B:Int) (hr:RowAt .i64 w sa n zs) (hL:n≤1000000) (hn:homesOK zs=false∨n<1∨64<n):
  Calls prog 63 #[.pointer (some a),.slice sa n cap,.int .i64 G,.int .i64 K,.int .i64 B] w λe w'=>e= .returned (.tuple #[.pointer none,.int .i64 1])∧w=w':=by
 have cS:=hm_none (cap:=cap) hr false false hL hn
 clear hr hn
 go_enter func63,ntmps63
 go_wp2_with (go_at_call 80;(with_reducible refine cS.mono ?_);rintro e w' ⟨rfl,hw'⟩;subst w')
 go_ret2
 exact ⟨rfl,rfl⟩
theorem fn_cfg {w:World} {sa:Option Addr} {n cap:Nat} {zs:List Int} (a:Addr) {G K B:Int} (hr:RowAt .i64 w sa n zs) (ho:homesOK zs=true) (n1:1≤n) (n2:n≤64) (hc:rightB G K B=false):
  Calls prog 63 #[.pointer (some a),.slice sa n cap,.int .i64 G,.int .i64 K,.int .i64 B] w λe w'=>e= .returned (.tuple #[.pointer none,.int .i64 7])∧Wr Nil w w':=by
 have cS:=hm_seats (cap:=cap) hr ho false false n1 n2
 have cR:=fl_right G K B
 rw [hc] at cR
 clear hr ho hc
 go_enter func63,ntmps63
 go_wp2_with (first
  |(go_at_call 80;(with_reducible refine cS.mono ?_);intro e wq hq;unfold NewSeatPost at hq;obtain ⟨p,sb,rfl,hS,hp,hsb,hW⟩:=hq;have HS:=Lib.hid hW;clear hS hp hsb hW cS)
  |(go_at_call 92;(with_reducible refine (cR _).mono ?_);rintro e ws ⟨rfl,hW⟩;have HW:=Lib.hid hW;clear hW cR))
 go_ret2
 exact ⟨rfl,HS.out.nil HW.out⟩
open _root_.Go.Proofs.Tryz
def UF (L:Lp) (k:Nat):Prop:=k=L.lb∨Rng L.gi.lo L.gi.hi k∨∃ c,c<8∧L.has c=true∧Rng (L.li c).lo (L.li c).hi k
structure UseSt (w:World) (L:Lp) (a:Addr) (pl:Nat→Value) (f:FL) (nx:Nat→Value) (m:Nat) (wr:World):Prop where
 raw:FlRaw wr L (.pointer (some a)) (.pointer (some a)) (λc=>if c<m then .pointer (some a) else pl c) f nx
 wr:Wr (UF L) w wr
namespace UseSt
variable {w wr w':World} {L:Lp} {a:Addr} {pl:Nat→Value} {f:FL} {nx:Nat→Value} {m:Nat}
theorem skip (h:UseSt w L a pl f nx m wr) (hm:L.has m=false):UseSt w L a pl f nx (m+1) wr:=by
 obtain ⟨r,k⟩:=h
 refine ⟨⟨r.obj,r.seat,r.tick,r.glo,λc hc hh=> ?_,r.ne,r.low,r.sep,r.nod,r.adr,r.rng⟩,k⟩
 have hne:c≠m:=λe=>by subst e;rw [hm] at hh;cases hh
 have i:=r.loc c hc hh
 by_cases q:c<m
 ·rw [if_pos q] at i;rw [if_pos (by omega)];exact i
 ·rw [if_neg q] at i;rw [if_neg (by omega)];exact i
theorem used (h:UseSt w L a pl f nx m wr) (hm:m<8) (hh:L.has m=true) (hI:InAt w' (L.li m) (.pointer (some a)) (f.Lc m)) (k:Wr (Rng (L.li m).lo (L.li m).hi) wr w'):UseSt w L a pl f nx (m+1) w':=by
 have hr:=h.raw.locl hm hh hI k λb _ e=> .inl e
 refine ⟨⟨hr.obj,hr.seat,hr.tick,hr.glo,λc hc hcc=> ?_,hr.ne,hr.low,hr.sep,hr.nod,hr.adr,hr.rng⟩,h.wr.trans k λb _ e=> .inr (.inr ⟨m,hm,hh,e⟩)⟩
 have i:=hr.loc c hc hcc
 have e:upd f.Lc m (f.Lc m) c=f.Lc c:=by unfold upd;split<;>simp_all
 have i:InAt w' (L.li c) (upd (λc=>if c<m then (.pointer (some a):Value) else pl c) m (.pointer (some a)) c) (upd f.Lc m (f.Lc m) c):=i
 rw [e] at i
 by_cases q:c=m
 ·subst q;rw [upd_same] at i;rw [if_pos (by omega)];exact i
 ·rw [upd_other _ _ q] at i
  by_cases q2:c<m
  ·rw [if_pos q2] at i;rw [if_pos (by omega)];exact i
  ·rw [if_neg q2] at i;rw [if_neg (by omega)];exact i
end UseSt
theorem FlRaw.useO {w:World} {L:Lp} {pv pg:Value} {pl:Nat→Value} {f:FL} {nx:Nat→Value} (h:FlRaw w L pv pg pl f nx) (v:Value):FlRaw (w.setCell ⟨L.lb,1,none⟩ v) L v pg pl f nx∧Wr (One L.lb) w (w.setCell ⟨L.lb,1,none⟩ v):=by
 have hW:Wr (One L.lb) w (w.setCell ⟨L.lb,1,none⟩ v):=(Wr.refl _ w).setCell _ _ λ_=>rfl
 obtain ⟨k1,k2⟩:=h.keep hW λb e=>by unfold One at e;have:=h.low;omega
 refine ⟨⟨?_,h.seat.wrote hW (λe=>h.ne.2.2.2.2 e.symm) (λe=>h.ne.1 e.symm),(hW.block _ (blk_lt h.tick) (λe=>h.ne.2.1 e.symm)).trans h.tick,k1,k2,h.ne,h.low,h.sep,h.nod,h.adr,h.rng⟩,hW⟩
 rw [blk_setCell h.obj]
 rfl
theorem lvL_or (L:Lp) (c:Nat):(L.has c=false∧lvL L c= .nilIface)∨(L.has c=true∧lvL L c= .iface (L.li c).ty (.pointer (some ⟨(L.li c).lb,0,none⟩))):=by
 unfold lvL Ip.val
 cases h:L.has c
 ·exact .inl ⟨rfl,by simp⟩
 ·exact .inr ⟨rfl,by simp⟩
theorem ix8_0 (v0 v1 v2 v3 v4 v5 v6 v7:Value) (w:World):(Instr.index 212 (.agg #[v0,v1,v2,v3,v4,v5,v6,v7]) (.int .i64 ((0:Nat):Int))).run prog w= .ok v0 w:=by kernel_rfl
theorem ix8_1 (v0 v1 v2 v3 v4 v5 v6 v7:Value) (w:World):(Instr.index 212 (.agg #[v0,v1,v2,v3,v4,v5,v6,v7]) (.int .i64 ((1:Nat):Int))).run prog w= .ok v1 w:=by kernel_rfl
theorem ix8_2 (v0 v1 v2 v3 v4 v5 v6 v7:Value) (w:World):(Instr.index 212 (.agg #[v0,v1,v2,v3,v4,v5,v6,v7]) (.int .i64 ((2:Nat):Int))).run prog w= .ok v2 w:=by kernel_rfl
theorem ix8_3 (v0 v1 v2 v3 v4 v5 v6 v7:Value) (w:World):(Instr.index 212 (.agg #[v0,v1,v2,v3,v4,v5,v6,v7]) (.int .i64 ((3:Nat):Int))).run prog w= .ok v3 w:=by kernel_rfl
theorem ix8_4 (v0 v1 v2 v3 v4 v5 v6 v7:Value) (w:World):(Instr.index 212 (.agg #[v0,v1,v2,v3,v4,v5,v6,v7]) (.int .i64 ((4:Nat):Int))).run prog w= .ok v4 w:=by kernel_rfl
theorem ix8_5 (v0 v1 v2 v3 v4 v5 v6 v7:Value) (w:World):(Instr.index 212 (.agg #[v0,v1,v2,v3,v4,v5,v6,v7]) (.int .i64 ((5:Nat):Int))).run prog w= .ok v5 w:=by kernel_rfl
theorem ix8_6 (v0 v1 v2 v3 v4 v5 v6 v7:Value) (w:World):(Instr.index 212 (.agg #[v0,v1,v2,v3,v4,v5,v6,v7]) (.int .i64 ((6:Nat):Int))).run prog w= .ok v6 w:=by kernel_rfl
theorem ix8_7 (v0 v1 v2 v3 v4 v5 v6 v7:Value) (w:World):(Instr.index 212 (.agg #[v0,v1,v2,v3,v4,v5,v6,v7]) (.int .i64 ((7:Nat):Int))).run prog w= .ok v7 w:=by kernel_rfl
theorem ix8 (v0 v1 v2 v3 v4 v5 v6 v7:Value) {m:Nat} (hm:m<8) (w:World):(Instr.index 212 (.agg #[v0,v1,v2,v3,v4,v5,v6,v7]) (.int .i64 (m:Nat))).run prog w= .ok (#[v0,v1,v2,v3,v4,v5,v6,v7].getD m undef) w:=by
 have:m=0∨m=1∨m=2∨m=3∨m=4∨m=5∨m=6∨m=7:=by omega
 rcases this with rfl|rfl|rfl|rfl|rfl|rfl|rfl|rfl
 ·exact ix8_0 _ _ _ _ _ _ _ _ w
 ·exact ix8_1 _ _ _ _ _ _ _ _ w
 ·exact ix8_2 _ _ _ _ _ _ _ _ w
 ·exact ix8_3 _ _ _ _ _ _ _ _ w
 ·exact ix8_4 _ _ _ _ _ _ _ _ w
 ·exact ix8_5 _ _ _ _ _ _ _ _ w
 ·exact ix8_6 _ _ _ _ _ _ _ _ w
 ·exact ix8_7 _ _ _ _ _ _ _ _ w
theorem pick8 {g:Nat→Value} {v0 v1 v2 v3 v4 v5 v6 v7:Value} (h:v0=g 0∧v1=g 1∧v2=g 2∧v3=g 3∧v4=g 4∧v5=g 5∧v6=g 6∧v7=g 7) {m:Nat} (hm:m<8): #[v0,v1,v2,v3,v4,v5,v6,v7].getD m undef=g m:=by
 obtain ⟨rfl,rfl,rfl,rfl,rfl,rfl,rfl,rfl⟩:=h
 have:m=0∨m=1∨m=2∨m=3∨m=4∨m=5∨m=6∨m=7:=by omega
 rcases this with rfl|rfl|rfl|rfl|rfl|rfl|rfl|rfl<;>rfl
theorem fl_use {w:World} {L:Lp} {pv pg:Value} {pl:Nat→Value} {f:FL} {nx:Nat→Value} (h:FlRaw w L pv pg pl f nx) (a:Addr):
  Calls prog 271 #[.pointer (some ⟨L.lb,0,none⟩),.pointer (some a)] w λe w'=>e= .returned (.tuple #[])∧FlRaw w' L (.pointer (some a)) (.pointer (some a)) (λ_=> .pointer (some a)) f nx∧Wr (UF L) w w':=by
 have c1:=h.cell1
 have f1:=h.frozen 1
 obtain ⟨h1,hW1⟩:=h.useO (.pointer (some a))
 have c4:=h1.cell4
 unfold Ip.val at c4
 have vU:=h1.glo.via_use
 have cU:=in_use h1.glo a
 have hF:=f.G.use_enter
 generalize f.G.useF=F at*
 have HE:=Lib.hid (And.intro h1 (hW1.mono (T:=UF L) λb _ e=> .inl e))
 clear h h1 hW1
 go_enter func271,ntmps271
 go_wp2_with ((with_reducible refine cU.mono ?_);intro e w2 hq;unfold InPost at hq;obtain ⟨rfl,hI,hW⟩:=hq;have hG:=HE.out.1.glob hI hW λb _ e=> .inl e;have hL:=λ(c:Nat) (hc:c<8)=>hG.cellL hc;have l0:=hL 0 (by decide);have l1:=hL 1 (by decide);have l2:=hL 2 (by decide);have l3:=hL 3 (by decide);have l4:=hL 4 (by decide);have l5:=hL 5 (by decide);have l6:=hL 6 (by decide);have l7:=hL 7 (by decide);have HG:=Lib.hid (And.intro hG (HE.out.2.trans hW λb _ e=> .inr (.inl e)));clear hG hI hW hL)
 clear cU vU hF c4 c1 f1 l0 l1 l2 l3 l4 l5 l6 l7
 have hv:=λc=>lvL_or L c
 obtain ⟨v0,e0⟩:∃ v,v=lvL L 0:=⟨_,rfl⟩
 obtain ⟨v1,e1⟩:∃ v,v=lvL L 1:=⟨_,rfl⟩
 obtain ⟨v2,e2⟩:∃ v,v=lvL L 2:=⟨_,rfl⟩
 obtain ⟨v3,e3⟩:∃ v,v=lvL L 3:=⟨_,rfl⟩
 obtain ⟨v4,e4⟩:∃ v,v=lvL L 4:=⟨_,rfl⟩
 obtain ⟨v5,e5⟩:∃ v,v=lvL L 5:=⟨_,rfl⟩
 obtain ⟨v6,e6⟩:∃ v,v=lvL L 6:=⟨_,rfl⟩
 obtain ⟨v7,e7⟩:∃ v,v=lvL L 7:=⟨_,rfl⟩
 rw [←e0,←e1,←e2,←e3,←e4,←e5,←e6,←e7]
 have E:=Lib.hid (And.intro e0 (And.intro e1 (And.intro e2 (And.intro e3 (And.intro e4 (And.intro e5 (And.intro e6 e7)))))))
 have HV:=Lib.hid hv
 clear e0 e1 e2 e3 e4 e5 e6 e7 hv
 go_loopw [5,20] (λ_ i wr=>∃ m:Nat,m≤8∧i= .int .i64 m∧UseSt w L a pl f nx m wr) (λ_ i _=>8-(intOf i).toNat)
 case atStart=>exact ⟨0,by decide,rfl,⟨by simpa using HG.out.1,HG.out.2⟩⟩
 case round=>
  clear HG HE
  obtain ⟨m,hm,rfl,hl⟩:=hrel
  by_cases hlt:m<8
  ·have hI:(m:Int)<8:=by omega
   have hx:=ix8 v0 v1 v2 v3 v4 v5 v6 v7 hlt
   rw [pick8 E.out hlt] at hx
   rcases HV.out m with ⟨hh,e⟩|⟨hh,e⟩
   ·rw [e] at hx
    have HL:=Lib.hid (hl.skip hh)
    clear hl hh e
    go_wp2
    go_roundw
    case rel=>exact ⟨m+1,by omega,by go_num,HL.out⟩
    case measure=>simp [intOf];omega
   ·rw [e] at hx
    have hi:=hl.raw.loc m hlt hh
    have vU:=hi.via_use
    have cU:=in_use hi a
    have hF:=(f.Lc m).use_enter
    generalize (f.Lc m).useF=F at*
    have HL:=Lib.hid (And.intro hl hh)
    clear hl hh e hi
    go_wp2_with ((with_reducible refine cU.mono ?_);intro e w3 hq;unfold InPost at hq;obtain ⟨rfl,hI2,hW⟩:=hq;have HS:=Lib.hid (HL.out.1.used hlt HL.out.2 hI2 hW);clear hI2 hW)
    go_roundw
    case rel=>exact ⟨m+1,by omega,by go_num,HS.out⟩
    case measure=>simp [intOf];omega
  ·obtain rfl:m=8:=by omega
   have HL:=Lib.hid hl
   clear hl
   go_wp2
   go_end0
   obtain ⟨hr,hW⟩:=HL.out
   refine ⟨rfl,⟨hr.obj,hr.seat,hr.tick,hr.glo,λc hc hh=> ?_,hr.ne,hr.low,hr.sep,hr.nod,hr.adr,hr.rng⟩,hW⟩
   have i:=hr.loc c hc hh
   rw [if_pos hc] at i
   exact i
section
variable {f:FL} {ga:Nat} {la:Nat→Nat} {H:Nat→Option Nat} {V:Nat→List Nat} {gg:Option Nat} {Wg:List Nat}
theorem nx_seats {s':SS} (h:OrdJ f ga la H V gg Wg) {k:Nat} {y:Int} (hk:k<f.s.n) (hs:s'.st=upd f.s.st k y) (hy:(f.s.st k=0∧y=1)∨(f.s.st k=2∧y=3)):∀ t,t<f.s.n→nxF f t=nxF {f with s:=s'} t:=λt ht=>by
 unfold nxF
 dsimp only
 rw [hs]
 by_cases e:t=k
 ·subst e
  rw [upd_same]
  have hx:=h.cor.cx t hk
  rcases hy with ⟨a,rfl⟩|⟨a,rfl⟩
  ·cases hx with
   |idle hx hp hl=>rw [a,hp,hl];rfl
   |_=>omega
  ·cases hx with
   |has hx hp hl he q1 q2=>rw [a,hp];rfl
   |_=>omega
 ·rw [upd_other _ _ e]
theorem nx_lock (h:OrdJ f ga la H V gg Wg) (t d:Int):∀ j,j<f.s.n→nxF f j=nxF (f.lock t d) j:=by
 unfold FL.lock SS.lock
 split
 ·rename_i e
  unfold lockE at e
  split at e
  ·rename_i ht
   obtain ⟨k,rfl⟩:=Int.eq_ofNat_of_zero_le ht.1.1
   split at e
   ·rename_i s0
    rw [Int.toNat_natCast] at s0 ⊢
    exact nx_seats (k:=k) (y:=1) h (by omega) rfl (.inl ⟨s0,rfl⟩)
   ·omega
  ·omega
 ·intro j _;rfl
theorem nx_unlock (h:OrdJ f ga la H V gg Wg) (t:Int):∀ j,j<f.s.n→nxF f j=nxF (f.turn t 3) j:=by
 unfold FL.turn SS.turn
 split
 ·rename_i e
  unfold turnE at e
  split at e
  ·rename_i ht
   obtain ⟨k,rfl⟩:=Int.eq_ofNat_of_zero_le ht.1
   rw [Int.toNat_natCast] at e ⊢
   split at e
   ·omega
   ·split at e
    ·rename_i s2
     exact nx_seats (k:=k) (y:=3) h (by omega) rfl (.inr ⟨s2,rfl⟩)
    ·omega
  ·omega
 ·intro j _;rfl
end
namespace LkAt
variable {w w':World} {L:Lp} {f:FL}
theorem wrote {S:Nat→Prop} (h:LkAt w L f) (k:Wr S w w') (h5:∀ b,b<L.q.k3→¬ S b):LkAt w' L f:=⟨h.lk.wrote k h5,h.inv,h.a1⟩
theorem after (h:LkAt w L f) (k:Wr Nil w w'):LkAt w' L f:=⟨h.lk.after k,h.inv,h.a1⟩
end LkAt
def Low (L:Lp) (k:Nat):Prop:=k<L.q.k3
theorem lk_low {w w':World} {L:Lp} (k:Wr (LF L) w w'):Wr (Low L) w w':=k.mono λb _ e=>e.2
structure LkS (w0 w:World) (L:Lp) (f:FL):Prop where
 lk:LkAt w L f
 low:w0.heap.size≤L.lo
 wr:Wr Nil w0 w
namespace LkS
variable {w0 w w':World} {L:Lp} {f f':FL}
theorem after (h:LkS w0 w L f) (k:Wr Nil w w'):LkS w0 w' L f:=⟨h.lk.after k,h.low,h.wr.nil k⟩
theorem k0 (h:LkS w0 w L f):L.lo<L.q.k3∧L.q.k3≤w.heap.size:=by have:=h.lk.lk.k0;exact ⟨by omega,h.lk.lk.top⟩
theorem apart {S:Nat→Prop} (h:LkS w0 w L f) (k:Wr S w w') (hS:∀ b,S b→L.q.k3≤b):LkS w0 w' L f:=by
 have h1:=h.k0
 have h3:=h.low
 exact ⟨h.lk.wrote k λb hb e=>by have:=hS b e;omega,h.low,h.wr.trans k λb hb e=>by have:=hS b e;unfold Nil;omega⟩
theorem lnew (h:LkS w0 w L f) {k:Nat} (hk:LF L k):w0.heap.size≤k:=Nat.le_trans h.low hk.1
theorem call (h:LkS w0 w L f) (hl:LkAt w' L f') (k:Wr (LF L) w w'):LkS w0 w' L f':=⟨hl,h.low,h.wr.trans k λb hb e=>by have:=h.lnew e;unfold Nil;omega⟩
theorem cell0 (h:LkS w0 w L f):w.cell? ⟨L.lb,0,none⟩=some (.pointer (some ⟨L.p,0,none⟩)):=h.lk.lk.raw.cell0
end LkS
def LsPost (w0 w:World) (L:Lp) (f:FL) (v:Value) (e:Ending) (w':World):Prop:=e= .returned v∧LkS w0 w' L f∧Wr (Low L) w w'
section
variable {w0 w:World} {L:Lp} {f:FL}
theorem ls_lock (h:LkS w0 w L f) (t d:Int):Calls prog 189 #[.pointer (some ⟨L.p,0,none⟩),.int .i64 t,.int .i64 d] w (LsPost w0 w L (f.lock t d) (.int .i64 (lockE f.s t d))):=
 (se_lock h.lk.lk.raw.seat t d).mono λe w' ⟨he,hS,hW⟩=>by
   obtain ⟨H,V,gg,Wg,hJ⟩:=h.lk.inv
   have hl:LkAt w' L (f.lock t d):=⟨(h.lk.lk.seats hS (SS.lock_n _ _ _) hW).same λj hj=>nx_lock hJ t d j (by have:j<(f.s.lock t d).n:=hj;rw [SS.lock_n] at this;exact this),⟨H,V,gg,Wg,hJ.lock t d⟩,h.lk.a1⟩
   exact ⟨he,h.call hl (lf_b h.lk.lk hW),lk_low (lf_b h.lk.lk hW)⟩
theorem ls_unlock (h:LkS w0 w L f) (t:Int):Calls prog 193 #[.pointer (some ⟨L.p,0,none⟩),.int .i64 t] w (LsPost w0 w L (f.turn t 3) (.int .i64 (turnE f.s t))):=
 (se_unlock h.lk.lk.raw.seat t).mono λe w' ⟨he,hS,hW⟩=>by
   obtain ⟨H,V,gg,Wg,hJ⟩:=h.lk.inv
   have hl:LkAt w' L (f.turn t 3):=⟨(h.lk.lk.seats hS (SS.turn_n _ _ _) hW).same λj hj=>nx_unlock hJ t j (by have:j<(f.s.turn t 3).n:=hj;rw [SS.turn_n] at this;exact this),⟨H,V,gg,Wg,hJ.unlock t⟩,h.lk.a1⟩
   exact ⟨he,h.call hl (lf_b h.lk.lk hW),lk_low (lf_b h.lk.lk hW)⟩
theorem ls_step (h:LkS w0 w L f) (t u x:Int) (hD:f.ps.D.length<4611686018427387904) (e:t=u:=by rfl):Calls prog 270 #[.pointer (some ⟨L.lb,0,none⟩),.int .i64 t,.int .i64 u,.int .i64 x] w (LsPost w0 w L (f.step L t u) (f.did L t u).val):=by
 subst e
 exact (fl_step h.lk t x hD).mono λe w' ⟨he,hl,hW⟩=>⟨he,h.call hl hW,lk_low hW⟩
end
theorem uf_lf {w w':World} {L:Lp} {f:FL} {pv pg:Value} {pl:Nat→Value} {nx:Nat→Value} (hr:FlRaw w L pv pg pl f nx) (hf:L.gi.hi≤L.q.k0∧∀ c,c<8→L.has c=true→(L.li c).hi≤L.q.k0) (hk:L.q.k0≤L.q.k3) (k:Wr (UF L) w w'):Wr (LF L) w w':=k.mono λj _ e=>by
 have:=hr.low
 have:=hr.glr
 unfold LF Rng
 rcases e with e|e|⟨c,hc,hh,e⟩
 ·omega
 ·unfold Rng at e;omega
 ·have:=hf.2 c hc hh
  have:=hr.sep.1 c hc hh
  unfold Rng at e;omega
theorem use_port {w w':World} {L:Lp} {f:FL} {pv pg:Value} {pl:Nat→Value} {nx:Nat→Value} (hr:FlRaw w L pv pg pl f nx) (hf:L.gi.hi≤L.q.k0∧∀ c,c<8→L.has c=true→(L.li c).hi≤L.q.k0) (hP:PortAt w L.q L.hs f.ps) (k:Wr (UF L) w w'):PortAt w' L.q L.hs f.ps:=by
 have:=hr.low
 have:=hr.glr
 refine hP.wrote k λb b1 _ e=> ?_
 rcases e with e|e|⟨c,hc,hh,e⟩
 ·omega
 ·unfold Rng at e;omega
 ·have:=hf.2 c hc hh
  unfold Rng at e;omega
structure LkP (w0 w:World) (L:Lp) (f:FL):Prop where
 raw:FlRaw w L (.pointer none) (.pointer none) (λ_=> .pointer none) f (nxF f)
 port:PortAt w L.q L.hs f.ps
 far:L.gi.hi≤L.q.k0∧∀ c,c<8→L.has c=true→(L.li c).hi≤L.q.k0
 top:L.q.k3≤w.heap.size
 low:w0.heap.size≤L.lo
 wr:Wr Nil w0 w
 inv:∃ H V gg Wg,OrdJ f f.ga f.la H V gg Wg
 a1:L.a1=0
theorem lp_use {w0 w:World} {L:Lp} {f:FL} (h:LkP w0 w L f):
  Calls prog 271 #[.pointer (some ⟨L.lb,0,none⟩),.pointer (some ⟨L.q.p,0,none⟩)] w λe w'=>e= .returned (.tuple #[])∧LkS w0 w' L f∧Wr (Low L) w w':=by
 refine (fl_use h.raw ⟨L.q.p,0,none⟩).mono ?_
 rintro e w' ⟨rfl,hr,hW⟩
 have hk:=h.port.place.le
 have hlf:=uf_lf h.raw h.far (by omega) hW
 exact ⟨rfl,⟨⟨⟨hr,use_port h.raw h.far h.port hW,h.far,Nat.le_trans h.top hW.size⟩,h.inv,h.a1⟩,h.low,h.wr.trans hlf λb hb e=>by have:=h.low;unfold LF Rng at e;unfold Nil;omega⟩,lk_low hlf⟩
def hNo (zs:List Int) (t:Nat):Nat:=(zs.getD t 0).toNat
def cntC (zs:List Int) (n c:Nat):Nat:=cntH (hNo zs) c n
def wordsC (zs:List Int) (n:Nat) (G K:Int):List Int:=List.replicate (8+inZ G 8+lZ K (cntC zs n) 8) 0
def homesC (zs:List Int) (n:Nat) (G K:Int):List Int:=gH G++lH K (cntC zs n) 8
def newC (zs:List Int) (n:Nat) (G K B:Int) (t:Nat):FL:=newCo (hNo zs) n G K B 0 (newS t (wordsC zs n G K))
theorem hNo_of {zs:List Int} {n:Nat} (hl:zs.length=n) (h:homesOK zs=true):∀ t,t<n→zs.getD t 0=(hNo zs t:Nat)∧hNo zs t<8:=λt ht=>by
 unfold homesOK at h
 rw [List.all_eq_true] at h
 have hg:zs.getD t 0∈zs:=by
  rw [List.getD_eq_getElem?_getD,List.getElem?_eq_getElem (show t<zs.length by omega)]
  exact List.getElem_mem _
 have:=h _ hg
 unfold okH at this
 have:=of_decide_eq_true this
 unfold hNo
 omega
theorem cntC_le (zs:List Int) (n c:Nat):cntC zs n c≤n:=cntH_le _ _ _
theorem ok_append {a b:List Int} (ha:homesOK a=true) (hb:homesOK b=true):homesOK (a++b)=true:=by
 unfold homesOK at*
 rw [List.all_append,ha,hb]
 rfl
theorem ok_head {zs:List Int} (h:homesOK zs=true):homesOK [zs.getD 0 0]=true:=by
 cases zs with
 |nil=>decide
 |cons z r=>
  unfold homesOK at*
  simp only [List.all_cons,Bool.and_eq_true] at h
  simp [h.1]
theorem ok_dbl {zs:List Int} (h:homesOK zs=true):homesOK (Km.dbl zs)=true:=by
 unfold homesOK Km.dbl at*
 rw [List.all_eq_true] at*
 intro x hx
 obtain ⟨z,hz,hx⟩:=List.mem_flatMap.1 hx
 have:x=z:=by simpa using hx
 rw [this]
 exact h z hz
theorem ok_inH {K:Int} {zs:List Int} (h:homesOK zs=true):homesOK (inH K zs)=true:=by
 unfold inH
 split
 ·exact ok_append (ok_head h) (ok_head h)
 split
 ·exact ok_append (ok_append (ok_head h) (ok_head h)) h
 ·exact ok_append (ok_head h) (ok_dbl h)
theorem ok_lH (K:Int) (cnt:Nat→Nat):∀ m,m≤8→homesOK (lH K cnt m)=true
 |0,_=>rfl
 |m+1,hm=>by
  unfold lH
  refine ok_append (ok_lH K cnt m (by omega)) ?_
  split
  ·exact ok_inH (ok_rep _ _ (by omega))
  ·rfl
theorem ok_homesC (zs:List Int) (n:Nat) (G K:Int):homesOK (homesC zs n G K)=true:=ok_append (ok_append ok_nodes (ok_inH ok_nodes)) (ok_lH K _ 8 (Nat.le_refl _))
theorem homesC_len (zs:List Int) (n:Nat) (G K:Int):(homesC zs n G K).length=8+inZ G 8+lZ K (cntC zs n) 8:=by unfold homesC;rw [List.length_append,gH_len,lH_len]
theorem sizeC_le {zs:List Int} {n:Nat} (G K:Int) (hn:n≤64):8+inZ G 8+lZ K (cntC zs n) 8≤1200:=by
 have:=inZ_le G 8
 have:=lZ_le K (cntC zs n) 8 λc=>Nat.le_trans (cntC_le zs n c) hn
 omega
theorem wordsC_rng (zs:List Int) (n:Nat) (G K:Int) (j:Nat):0≤(wordsC zs n G K).getD j 0∧(wordsC zs n G K).getD j 0<4294967296:=by
 unfold wordsC
 rw [List.getD_eq_getElem?_getD,List.getElem?_replicate]
 split<;>decide
theorem ord_new (zs:List Int) (n:Nat) {G K B:Int} (hl:zs.length=n) (n8:n≤64) (ho:homesOK zs=true) (hB:1≤B∧B≤1000):OrdJ (newC zs n G K B n) (newC zs n G K B n).ga (newC zs n G K B n).la (λ_=>none) (λ_=>[]) none []:=by
 have hH:=hNo_of hl ho
 have hz:∀ x∈(newS n (wordsC zs n G K)).ws,x=0:=λx hx=>List.eq_of_mem_replicate hx
 have hw:(newS n (wordsC zs n G K)).ws.length=8+inZ G 8+lZ K (cntC zs n) 8:=List.length_replicate
 have pos:∀ t,t<n→0<cntC zs n (hNo zs t):=λt ht=>(cntH_pos _ _ _).2 ⟨t,ht,rfl⟩
 have lm:∀ t,t<n→lZ K (cntC zs n) (hNo zs t)+inZ K (cntC zs n (hNo zs t))≤lZ K (cntC zs n) 8:=λt ht=>lZ_mono K _ (hH t ht).2 (pos t ht)
 refine OrdJ.start n8 hB (by show (List.replicate n 0).length=n;exact List.length_replicate) hz (λt ht=>(hH t ht).2) (λt ht=> ?_) (λt u ht hu e1 e2=>cntH_inj _ e1 e2) (λt ht=> ?_) (λc j=> ?_) ?_ ?_ (λc=> ?_) (by omega) (λt ht=> ?_) (λt u ht hu hne=> ?_)
 ·show cntH (hNo zs) (hNo zs t) t<(newInn K (cntH (hNo zs) (hNo zs t) n) _).s.n
  rw [newInn_s]
  exact cntH_lt _ ht
 ·rw [newInn_on]
  refine newInn_at (Nat.le_trans (cntH_le _ _ _) n8) ?_ hz
  have:=lm t ht
  unfold cntC at this
  rw [hw]
  unfold cntC
  omega
 ·rw [newInn_s];rfl
 ·rw [newInn_on]
  refine newInn_at (by decide) ?_ hz
  rw [hw]
  omega
 ·rw [newInn_s];rfl
 ·rw [newInn_s];rfl
 ·rw [newInn_size]
  omega
 ·rw [newInn_size,newInn_size]
  have h1:=pos t ht
  have h2:=pos u hu
  unfold cntC at h1 h2
  rcases Nat.lt_or_ge (hNo zs t) (hNo zs u) with q|q
  ·left
   have:=lZ_mono K (λc=>cntH (hNo zs) c n) q h1
   omega
  ·right
   have:=lZ_mono K (λc=>cntH (hNo zs) c n) (show hNo zs u<hNo zs t by omega) h2
   omega
def PtPost (w0:World) (n:Nat) (zs:List Int) (G K B:Int) (lb:Nat) (e:Ending) (w':World):Prop:=∃ L:Lp,e= .returned (.tuple #[.pointer (some ⟨L.q.p,0,none⟩),.int .i64 0])∧(L.a1=0∧LkP w0 w' L (newC zs n G K B n))∧L.lb=lb∧L.hs=homesC zs n G K
theorem nxF_new (zs:List Int) (n:Nat) (G K B:Int) (t:Nat):nxF (newC zs n G K B n) t=callsV:=by
 unfold nxF
 rfl
theorem fl_port {w0 w w1:World} {q q':Pl} {n:Nat} {zs:List Int} {G K B:Int} {L0:Lp} (h0:Wr Nil w0 w) (hq:∀ k,q.F k→w0.heap.size≤k) (n1:1≤n) (n2:n≤64) (ho:homesOK zs=true) (hn:zs.length=n) (hB:1≤B∧B≤1000)
  (hR:∀ ps,FlRaw w1 L0 (.pointer none) (.pointer none) (λ_=> .pointer none) (newCo (hNo zs) n G K B 0 ps) (λ_=>callsV)) (hl:w.heap.size≤L0.lo) (h1:L0.a1=0) (hqq:q'.p=q.p) (hP:PlanAt w1 q' n (homesC zs n G K) (wordsC zs n G K)) (hW:Wr q.F w w1):
  Calls prog 33 #[.pointer (some ⟨q.p,0,none⟩)] w1 (PtPost w0 n zs G K B L0.lb):=by
 have c:=plport_good hP (λj=>wordsC_rng zs n G K j) n1 (by omega) (by rw [homesC_len];have:=sizeC_le (zs:=zs) G K (show n≤64 by omega);omega) (ok_homesC zs n G K)
 rw [hqq] at c
 refine c.mono ?_
 rintro e w' ⟨qq,rfl,hA,hk0,hk3,hW2⟩
 have s0:=h0.size
 have hr0:=hR (newS n (wordsC zs n G K))
 have hr:=(hr0.wrote hW2 λ_ _ _=>id).place qq (homesC zs n G K)
 refine ⟨{L0 with q:=qq,hs:=homesC zs n G K},rfl,⟨h1,⟨hr.same λt _=>(nxF_new zs n G K B t).symm,hA,⟨?_,λc hc hh=> ?_⟩,hk3,by dsimp only;omega,(h0.trans hW λk hk e=>by have:=hq k e;unfold Nil;omega).nil hW2,?_,h1⟩⟩,rfl,rfl⟩
 ·have:=hr0.glo.le
  dsimp only
  omega
 ·have:=(hr0.loc c hc hh).le
  dsimp only
  omega
 ·exact ⟨_,_,_,_,ord_new zs n hn n2 ho hB⟩
end Go.Proofs.YtcikfcplagelaaaGreat

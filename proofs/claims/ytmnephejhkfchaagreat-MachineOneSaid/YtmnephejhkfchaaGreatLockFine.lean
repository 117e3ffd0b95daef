
import Derived.Test.YtmnephejhkfchaaGreatCohLayDo
import Derived.Test.YtmnephejhkfchaaGreatCohortStep
namespace Go.Proofs.YtmnephejhkfchaaGreat
set_option maxHeartbeats 8000000
open _root_.Go.Proofs.Tryz Go.Deep
open Go.RowKit Go.BigFrame
set_option linter.unusedVariables false
set_option maxRecDepth 100000
def Ku:Value:= .func (.func 80) #[] #[]
def P_ (hN:Nat->Nat) (n:Nat) (G K B:Int) (base:Nat) (ps:AK):FL:=
 ⟨AQ n false false,B,hN,λt=>Ao hN (hN t) t,λ_=>0,λ_=>0,base+8,λc=>base+8+Fz G 8+lZ K (λc=>Ao hN c n) c,Cc G 8 ps,λc=>Cc K (Ao hN c n) ps,ps⟩
def Ho (w:World) (q:Pl) (t:Int) (hs vs:List Int) (n:Nat) (hN:Nat->Nat) (G K B:Int) (e:Ending) (w':World):Prop:=
 ∃ (L:Lp) (q':Pl),e= .returned (.tuple #[.pointer (some ⟨L.lb,0,none⟩),.int .i64 0])/\(∀ ps,FlRaw w' L (.pointer none) (.pointer none) (λ_=> .pointer none) (P_ hN n G K B hs.length ps) (λ_=>Ku))/\
  w.heap.size<=L.lo/\L.a1=hs.length/\q'.p=q.p/\PlanAt w' q' t (hs++gH G++lH K (λc=>Ao hN c n) 8) (vs++List.replicate (8+Fz G 8+lZ K (λc=>Ao hN c n) 8) 0)/\Wr q.F w w'/\Came w q.F q'.F
theorem h_:(prog.info? 192).map (λi=>(i.zero,i.size,i.bytes))=some (some (.agg #[.int .i64 0,.int .i64 0,.nilFunc,.int .u32 0]),4,32):=by kernel_rfl
theorem Vn (n:Nat):madeCells (Value.agg #[.int .i64 0,.int .i64 0,.nilFunc,.int .u32 0]).cells (n*4)=(Jl n).toArray:=by
 apply Array.ext';show (madeCells (#[.int .i64 0,.int .i64 0,.nilFunc,.int .u32 0]:Array Value) (n*4)).toList=Jl n;apply List.ext_getElem?;intro m;by_cases hm:m<n*4
 ·have ha:m/4<n:=by omega
  have e:m=m/4*4+m%4:=by omega
  have h2:=FI n (λ_=>0) (λ_=>0) (λ_=> .nilFunc) (λ_=>0) (k:=m/4) ha (j:=m%4) (Nat.mod_lt _ (by decide));rw [<-e] at h2;unfold Jl;rw [h2];unfold madeCells;rw [Array.toList_map,List.getElem?_map,Array.toList_range,List.getElem?_range hm];have:m%4=0\/m%4=1\/m%4=2\/m%4=3:=by omega
  rcases this with h|h|h|h<;>simp [h,Og]
 ·rw [List.getElem?_eq_none (by simp [madeCells];omega),List.getElem?_eq_none (by unfold Jl Ga;rw [CF (Dz _ _ _ _),List.length_range];omega)]
theorem Rz {w ws:World} {q:Pl} {t:Int} {hs vs:List Int} (h:PlanAt w q t hs vs) (k:Wr Nil w ws) {p sb n:Nat} {CJ:Int} (hS:SeatAt ws p sb (AQ n false false)) (hp:w.heap.size<=p) (Eg:w.heap.size<=sb) {A:Array Value} (hA:(Jl n).toArray=A) {lb tb:Nat} (VY:tb=ws.heap.size) (hlb:lb=ws.heap.size+1)
  {W:World} (hW:W=(ws.alloc (.cells A 192)).alloc (.cells (I0 p CJ 0 .nilIface (λ_=> .nilIface) tb n) 142)):
  LaySt W q ⟨lb,p,sb,tb,n,CJ⟩ W q t hs vs 0 .nilIface (λ_=> .nilIface) (Jl n)/\Wr Nil w W:=by
 subst hA VY hlb hW;have e1:(ws.alloc (.cells (Jl n).toArray 192)).heap.size=ws.heap.size+1:=nblk_alloc _ _;have k2:Wr Nil ws ((ws.alloc (.cells (Jl n).toArray 192)).alloc (.cells (I0 p CJ 0 .nilIface (λ_=> .nilIface) ws.heap.size n) 142)):=((Wr.refl _ ws).alloc _).alloc _;have l2:=A2 hS.obj;have l3:=A2 hS.ctx;have hne:=hS.ne;refine ⟨⟨(h.after k).after k2,rfl,Came.refl _ _,Wr.refl _ _,?_,hS.after k2,?_,⟨?_,?_,?_,?_⟩,⟨by dsimp only;omega,by dsimp only;omega,by dsimp only;omega,by dsimp only;omega,by dsimp only;omega⟩⟩,k.nil k2⟩
 ·rw [<-e1];exact blk_alloc_new _ _
 ·rw [blk_alloc_lt _ _ _ (by rw [e1];dsimp only;omega),blk_alloc_new]
 all_goals
  dsimp only;rw [nblk_alloc,e1];omega
theorem XZ {w Wl W:World} {q q':Pl} {t:Int} {hs vs:List Int} {hN:Nat->Nat} {G K:Int} {vq:Nat->Value} {gi:Ip} {I:Nat->Ip} {lb p sb tb n:Nat} {CJ:Int} (h:PlanAt w q t hs vs) (k:Wr Nil w Wl) (hl:LdSt Wl q ⟨lb,p,sb,tb,n,CJ⟩ t hs vs hN G K vq gi 8 q' I W) (hlo:w.heap.size<=lb/\w.heap.size<=p/\w.heap.size<=sb/\w.heap.size<=tb)
  (hH:∀ t,t<n->hN t<8) (hb:0<=CJ/\CJ<4294967296) (hL:hs.length<=700000):
  Ho w q t hs vs n hN G K CJ (.returned (.tuple #[.pointer (some ⟨lb,0,none⟩),.int .i64 0])) W:=by
 obtain ⟨L,Lx⟩:∃ L:Lp,L=⟨lb,p,sb,tb,hs.length,(hs.length:Int)+1,Js,[],w.heap.size,gi,I,λc=>decide (0<Ao hN c n)⟩:=⟨_,rfl⟩
 have hlv:∀ c,c<8->Nn I (λc=>Ao hN c n) 8 c=JJ L c:=λc hc=>by
  rw [Lx];unfold Nn JJ;by_cases q:0<Ao hN c n
  ·rw [Qj ⟨hc,q⟩];simp [q]
  ·rw [Qq λe=>q e.2];simp [q]
 have hhas:∀ c,L.has c=true->0<Ao hN c n:=λc hc=>by rw [Lx] at hc;simpa using hc
 have hlt:=hl.lay.lt;have hg:=hl.ga;have ny:=(hl.Cw ⟨[],[],[],[],[]⟩).BP.1;refine ⟨L,q',by rw [Lx],λps=>⟨?_,?_,?_,?_,λc hc hh=> ?_,?_,?_,⟨λc hc hh=> ?_,λc d hc hd ju jv hne=> ?_⟩,λt ht=>⟨hH t ht,?_⟩,⟨?_,?_,λc hc hh=> ?_⟩,⟨λ_=>by show (0:Int)<=0/\(0:Int)<4294967296;decide,hb⟩⟩,by rw [Lx];exact Nat.le_refl _,by rw [Lx],hl.lay.pq,hl.lay.plan,?_,?_⟩
 ·rw [<-hlv 0 (by decide),<-hlv 1 (by decide),<-hlv 2 (by decide),<-hlv 3 (by decide),<-hlv 4 (by decide),<-hlv 5 (by decide),<-hlv 6 (by decide),<-hlv 7 (by decide),Lx]
  exact hl.lay.obj
 ·rw [Lx];exact hl.lay.seat
 ·rw [Lx];exact hl.lay.ctx
 ·rw [Lx];exact hl.Cw ps
 ·rw [Lx];exact (hl.loc c hc (hhas c hh)).1 ps
 ·rw [Lx];exact hl.lay.ne
 ·rw [Lx]
  dsimp only at hlt ⊢;exact ⟨⟨hlo.1,by omega⟩,⟨hlo.2.1,by omega⟩,⟨hlo.2.2.1,by omega⟩,hlo.2.2.2,by omega⟩
 ·rw [Lx];exact (hl.loc c hc (hhas c hh)).2.2
 ·rw [Lx]
  dsimp only;rcases Nat.lt_or_ge c d with x|x
  ·exact .inl (hl.ord c d x hd (hhas c ju) (hhas d jv))
  ·exact .inr (hl.ord d c (by omega) hc (hhas d jv) (hhas c ju))
 ·rw [Lx]
  exact decide_eq_true ((M_ hN _ n).2 ⟨t,ht,rfl⟩)
 ·rw [Lx];dsimp only;omega
 ·rw [Lx];exact hg.1
 ·rw [Lx];exact (hl.loc c hc (hhas c hh)).2.1
 ·refine (k.mono λ_ _ e=>e.elim).trans hl.lay.wr λj hj e=> ?_
  rcases e with e|e|e
  ·exact e
  ·dsimp only at e;omega
  ·dsimp only at e;omega
 ·exact λj hj=>by
   rcases hl.lay.came j hj with e|e
   ·exact .inl e
   ·have:=k.size;exact .inr (by omega)
theorem Vd {w ws W:World} {q:Pl} {b:Nat} {B:Int} (hb:¬ q.F b) (QH:b<w.heap.size) (s1:w.heap.size<=ws.heap.size) (s2:w.heap.size<=W.heap.size) (p sb n:Nat):¬ dg q ⟨ws.heap.size+1,p,sb,ws.heap.size,n,B⟩ b/\b<W.heap.size:=by
 refine ⟨λe=> ?_,by omega⟩;rcases e with e|e|e
 ·exact hb e
 ·dsimp only at e;omega
 ·dsimp only at e;omega
theorem Cv {w:World} {q:Pl} {t:Int} {hs vs:List Int} (h:PlanAt w q t hs vs) {b o n cap:Nat} {zs:List Int} {hN:Nat->Nat} {G K B:Int} (hr:Ad .i64 w (some ⟨b,o,none⟩) n zs) (ho:A8 zs=true) (hH:∀ t,t<n->zs.getD t 0=(hN t:Nat)/\hN t<8) (n1:1<=n) (n2:n<=64) (hL:hs.length<=700000) (hb:¬ q.F b) (QH:b<w.heap.size) (hc:CK G K B=true):
  Calls prog 40 #[.pointer (some ⟨q.p,0,none⟩),.slice (some ⟨b,o,none⟩) n cap,.int .i64 G,.int .i64 K,.int .i64 B] w (Ho w q t hs vs n hN G K B):=by
 obtain ⟨i0,hi,hz0,hz1,hz2⟩:=info_parts h_;have hmk:∀ w:World,(Instr.makeSlice 139 (.int .i64 (n:Int)) (.int .i64 (n:Int))).run prog w= .ok (.slice (some ⟨w.heap.size,0,none⟩) n n) (w.alloc (.cells (Jl n).toArray 192)):=by
  intro w;have h:=Go.run_make (P:=prog) w 139 192 i0 _ underlying139 hi hz0 .i64 .i64 n n (by omega) (by omega) (by rw [hz2];omega) (by omega);rw [hz1] at h;simp only [Int.toNat_natCast] at h;rw [Vn n] at h;exact h
 generalize hA:(Jl n).toArray=A at hmk;have cS:=EY (cap:=cap) hr ho false false n1 n2;have cR:=Sg G K B;rw [hc] at cR;have hc':=hc;unfold CK at hc';simp only [Bool.and_eq_true,decide_eq_true_eq,List.mem_cons,List.not_mem_nil,or_false] at hc';obtain ⟨⟨⟨g1,g2⟩,g3⟩,g4⟩:=hc';have oJ:IntKind.u32.wrap B=B:=by rw [IntKind.wrap_u32];omega
 have HX:=Qw (Qz h (Qz hr (Qz hA (Qz hb (Qz QH (Qz hH (Qz (show G=1\/G=3\/G=4 by omega) (show K=1\/K=3\/K=4 by omega))))))));clear h hr ho hA hb QH hc hH g1 g2
 go_in
 go_wp2_with (first
  |((with_reducible refine cS.mono ?_);intro e wq hq;unfold Br at hq;obtain ⟨p,sb,rfl,hS,hp,Eg,hW⟩:=hq;have HS:=Qw (Qz hS (Qz hp (Qz Eg hW)));clear hS hp Eg hW cS)
  |((with_reducible refine (cR _).mono ?_);rintro e ws ⟨rfl,hW⟩;have HW:=Qw hW;clear hW cR)
  |(go_at_call 61;generalize GC:(ws.alloc _).alloc _=W;have hc:=Rz (CJ:=B) HX.out.1 (HS.out.2.2.2.nil HW.out) (HS.out.1.after HW.out) HS.out.2.1 HS.out.2.2.1 HX.out.2.2.1 rfl rfl GC.symm;have hlt:=Vd (B:=B) HX.out.2.2.2.1 HX.out.2.2.2.2.1 (HS.out.2.2.2.nil HW.out).size hc.2.size p sb n;(with_reducible refine (Xc (cap:=cap) hc.1 HX.out.2.2.2.2.2.2.1 HX.out.2.2.2.2.2.2.2 (HX.out.2.1.after hc.2) HX.out.2.2.2.2.2.1 n1 n2 hlt.1 hlt.2 hL).mono ?_);intro e w5 hq;unfold Ax at hq;obtain ⟨rfl,vq,gi,q',I,hl⟩:=hq;have HZ:=Qw (Qz hc.2 hl);clear hc hlt hl GC))
 go_ret2
 obtain ⟨h,hr,hA,hb,QH,hH,hG,hK⟩:=HX.out;obtain ⟨hS,hp,Eg,hW⟩:=HS.out;have sz:=(hW.nil HW.out).size;exact XZ h HZ.out.1 HZ.out.2 ⟨by omega,hp,Eg,by omega⟩ (λt ht=>(hH t ht).2) (by omega) hL
open _root_.Go.Proofs.Tryz
def UF (L:Lp) (k:Nat):Prop:=k=L.lb\/Bk L.gi.lo L.gi.hi k\/∃ c,c<8/\L.has c=true/\Bk (L.li c).lo (L.li c).hi k
structure UseSt (w:World) (L:Lp) (a:Addr) (pl:Nat->Value) (f:FL) (nx:Nat->Value) (m:Nat) (wr:World):Prop where
 raw:FlRaw wr L (.pointer (some a)) (.pointer (some a)) (λc=>if c<m then .pointer (some a) else pl c) f nx
 wr:Wr (UF L) w wr
namespace UseSt
variable {w wr w':World} {L:Lp} {a:Addr} {pl:Nat->Value} {f:FL} {nx:Nat->Value} {m:Nat}
theorem skip (h:UseSt w L a pl f nx m wr) (hm:L.has m=false):UseSt w L a pl f nx (m+1) wr:=by
 obtain ⟨r,k⟩:=h;refine ⟨⟨r.obj,r.seat,r.tick,r.Cw,λc hc hh=> ?_,r.ne,r.low,r.sep,r.GL,r.CM,r.BP⟩,k⟩;have hne:c≠m:=λe=>by subst e;rw [hm] at hh;cases hh
 have i:=r.loc c hc hh;by_cases q:c<m
 ·rw [Qj q] at i;rw [Qj (by omega)];exact i
 ·rw [Qq q] at i;rw [Qq (by omega)];exact i
theorem used (h:UseSt w L a pl f nx m wr) (hm:m<8) (hh:L.has m=true) (hI:InAt w' (L.li m) (.pointer (some a)) (f.Lc m)) (k:Wr (Bk (L.li m).lo (L.li m).hi) wr w'):UseSt w L a pl f nx (m+1) w':=by
 have hr:=h.raw.Nm hm hh hI k λb _ e=> .inl e;refine ⟨⟨hr.obj,hr.seat,hr.tick,hr.Cw,λc hc hcc=> ?_,hr.ne,hr.low,hr.sep,hr.GL,hr.CM,hr.BP⟩,h.wr.trans k λb _ e=> .inr (.inr ⟨m,hm,hh,e⟩)⟩;have i:=hr.loc c hc hcc;have e:upd f.Lc m (f.Lc m) c=f.Lc c:=by unfold upd;split<;>simp_all
 have i:InAt w' (L.li c) (upd (λc=>if c<m then (.pointer (some a):Value) else pl c) m (.pointer (some a)) c) (upd f.Lc m (f.Lc m) c):=i;rw [e] at i;by_cases q:c=m
 ·subst q;rw [upd_same] at i;rw [Qj (by omega)];exact i
 ·rw [A0 _ _ q] at i
  by_cases q2:c<m
  ·rw [Qj q2] at i;rw [Qj (by omega)];exact i
  ·rw [Qq q2] at i;rw [Qq (by omega)];exact i
end UseSt
theorem FlRaw.jH {w:World} {L:Lp} {pv pg:Value} {pl:Nat->Value} {f:FL} {nx:Nat->Value} (h:FlRaw w L pv pg pl f nx) (v:Value):FlRaw (w.setCell ⟨L.lb,1,none⟩ v) L v pg pl f nx/\Wr (One L.lb) w (w.setCell ⟨L.lb,1,none⟩ v):=by
 have hW:Wr (One L.lb) w (w.setCell ⟨L.lb,1,none⟩ v):=(Wr.refl _ w).setCell _ _ λ_=>rfl;obtain ⟨k1,k2⟩:=h.keep hW λb e=>by unfold One at e;have:=h.low;omega
 refine ⟨⟨?_,h.seat.wrote hW (λe=>h.ne.2.2.2.2 e.symm) (λe=>h.ne.1 e.symm),(hW.block _ (A2 h.tick) (λe=>h.ne.2.1 e.symm)).trans h.tick,k1,k2,h.ne,h.low,h.sep,h.GL,h.CM,h.BP⟩,hW⟩;rw [A3 h.obj];rfl
theorem Xu (L:Lp) (c:Nat):(L.has c=false/\JJ L c= .nilIface)\/(L.has c=true/\JJ L c= .iface (L.li c).ty (.pointer (some ⟨(L.li c).lb,0,none⟩))):=by
 unfold JJ Ip.val;cases h:L.has c
 ·exact .inl ⟨rfl,by simp⟩
 ·exact .inr ⟨rfl,by simp⟩
theorem aG (v0 v1 v2 v3 v4 v5 v6 v7:Value) (w:World):(Instr.index 140 (.agg #[v0,v1,v2,v3,v4,v5,v6,v7]) (.int .i64 ((0:Nat):Int))).run prog w= .ok v0 w:=by kernel_rfl
theorem aH (v0 v1 v2 v3 v4 v5 v6 v7:Value) (w:World):(Instr.index 140 (.agg #[v0,v1,v2,v3,v4,v5,v6,v7]) (.int .i64 ((1:Nat):Int))).run prog w= .ok v1 w:=by kernel_rfl
theorem aI (v0 v1 v2 v3 v4 v5 v6 v7:Value) (w:World):(Instr.index 140 (.agg #[v0,v1,v2,v3,v4,v5,v6,v7]) (.int .i64 ((2:Nat):Int))).run prog w= .ok v2 w:=by kernel_rfl
theorem aJ (v0 v1 v2 v3 v4 v5 v6 v7:Value) (w:World):(Instr.index 140 (.agg #[v0,v1,v2,v3,v4,v5,v6,v7]) (.int .i64 ((3:Nat):Int))).run prog w= .ok v3 w:=by kernel_rfl
theorem aK (v0 v1 v2 v3 v4 v5 v6 v7:Value) (w:World):(Instr.index 140 (.agg #[v0,v1,v2,v3,v4,v5,v6,v7]) (.int .i64 ((4:Nat):Int))).run prog w= .ok v4 w:=by kernel_rfl
theorem aL (v0 v1 v2 v3 v4 v5 v6 v7:Value) (w:World):(Instr.index 140 (.agg #[v0,v1,v2,v3,v4,v5,v6,v7]) (.int .i64 ((5:Nat):Int))).run prog w= .ok v5 w:=by kernel_rfl
theorem aM (v0 v1 v2 v3 v4 v5 v6 v7:Value) (w:World):(Instr.index 140 (.agg #[v0,v1,v2,v3,v4,v5,v6,v7]) (.int .i64 ((6:Nat):Int))).run prog w= .ok v6 w:=by kernel_rfl
theorem aO (v0 v1 v2 v3 v4 v5 v6 v7:Value) (w:World):(Instr.index 140 (.agg #[v0,v1,v2,v3,v4,v5,v6,v7]) (.int .i64 ((7:Nat):Int))).run prog w= .ok v7 w:=by kernel_rfl
theorem mE (v0 v1 v2 v3 v4 v5 v6 v7:Value) {m:Nat} (hm:m<8) (w:World):(Instr.index 140 (.agg #[v0,v1,v2,v3,v4,v5,v6,v7]) (.int .i64 (m:Nat))).run prog w= .ok (#[v0,v1,v2,v3,v4,v5,v6,v7].getD m undef) w:=by
 have:m=0\/m=1\/m=2\/m=3\/m=4\/m=5\/m=6\/m=7:=by omega
 rcases this with rfl|rfl|rfl|rfl|rfl|rfl|rfl|rfl
 ·exact aG _ _ _ _ _ _ _ _ w
 ·exact aH _ _ _ _ _ _ _ _ w
 ·exact aI _ _ _ _ _ _ _ _ w
 ·exact aJ _ _ _ _ _ _ _ _ w
 ·exact aK _ _ _ _ _ _ _ _ w
 ·exact aL _ _ _ _ _ _ _ _ w
 ·exact aM _ _ _ _ _ _ _ _ w
 ·exact aO _ _ _ _ _ _ _ _ w
theorem bL {g:Nat->Value} {v0 v1 v2 v3 v4 v5 v6 v7:Value} (h:v0=g 0/\v1=g 1/\v2=g 2/\v3=g 3/\v4=g 4/\v5=g 5/\v6=g 6/\v7=g 7) {m:Nat} (hm:m<8): #[v0,v1,v2,v3,v4,v5,v6,v7].getD m undef=g m:=by
 obtain ⟨rfl,rfl,rfl,rfl,rfl,rfl,rfl,rfl⟩:=h;have:m=0\/m=1\/m=2\/m=3\/m=4\/m=5\/m=6\/m=7:=by omega
 rcases this with rfl|rfl|rfl|rfl|rfl|rfl|rfl|rfl<;>rfl
theorem Cu {w:World} {L:Lp} {pv pg:Value} {pl:Nat->Value} {f:FL} {nx:Nat->Value} (h:FlRaw w L pv pg pl f nx) (a:Addr):
  Calls prog 209 #[.pointer (some ⟨L.lb,0,none⟩),.pointer (some a)] w λe w'=>e= .returned (.tuple #[])/\FlRaw w' L (.pointer (some a)) (.pointer (some a)) (λ_=> .pointer (some a)) f nx/\Wr (UF L) w w':=by
 have c1:=h.cell1;have f1:=h.frozen 1;obtain ⟨h1,Gk⟩:=h.jH (.pointer (some a));have c4:=h1.Av;unfold Ip.val at c4;have vU:=h1.Cw.Bh;have cU:=T7 h1.Cw a;have hF:=f.G.KY;generalize f.G.Jh=F at*;have HE:=Qw (Qz h1 (Gk.mono (T:=UF L) λb _ e=> .inl e));clear h h1 Gk
 go_in
 go_wp2_with ((with_reducible refine cU.mono ?_);intro e w2 hq;unfold EO at hq;obtain ⟨rfl,hI,hW⟩:=hq;have hG:=HE.out.1.Q9 hI hW λb _ e=> .inl e;have hL:=λ(c:Nat) (hc:c<8)=>hG.Wo hc;have l0:=hL 0 (by decide);have l1:=hL 1 (by decide);have l2:=hL 2 (by decide);have l3:=hL 3 (by decide);have l4:=hL 4 (by decide);have l5:=hL 5 (by decide);have l6:=hL 6 (by decide);have l7:=hL 7 (by decide);have HG:=Qw (Qz hG (HE.out.2.trans hW λb _ e=> .inr (.inl e)));clear hG hI hW hL)
 clear cU vU hF c4 c1 f1 l0 l1 l2 l3 l4 l5 l6 l7;have hv:=λc=>Xu L c;obtain ⟨v0,e0⟩:∃ v,v=JJ L 0:=⟨_,rfl⟩
 obtain ⟨v1,e1⟩:∃ v,v=JJ L 1:=⟨_,rfl⟩
 obtain ⟨v2,e2⟩:∃ v,v=JJ L 2:=⟨_,rfl⟩
 obtain ⟨v3,e3⟩:∃ v,v=JJ L 3:=⟨_,rfl⟩
 obtain ⟨v4,e4⟩:∃ v,v=JJ L 4:=⟨_,rfl⟩
 obtain ⟨v5,e5⟩:∃ v,v=JJ L 5:=⟨_,rfl⟩
 obtain ⟨v6,e6⟩:∃ v,v=JJ L 6:=⟨_,rfl⟩
 obtain ⟨v7,e7⟩:∃ v,v=JJ L 7:=⟨_,rfl⟩
 rw [<-e0,<-e1,<-e2,<-e3,<-e4,<-e5,<-e6,<-e7];have E:=Qw (Qz e0 (Qz e1 (Qz e2 (Qz e3 (Qz e4 (Qz e5 (Qz e6 e7)))))));have HV:=Qw hv;clear e0 e1 e2 e3 e4 e5 e6 e7 hv;go_loopw [5,20] (λ_ i wr=>∃ m:Nat,m<=8/\i= .int .i64 m/\UseSt w L a pl f nx m wr) (λ_ i _=>8-(intOf i).toNat)
 case atStart=>exact ⟨0,by decide,rfl,⟨by simpa using HG.out.1,HG.out.2⟩⟩
 case round=>
  clear HG HE;obtain ⟨m,hm,rfl,hl⟩:=hrel;by_cases hlt:m<8
  ·have hI:(m:Int)<8:=by omega
   have hx:=mE v0 v1 v2 v3 v4 v5 v6 v7 hlt;rw [bL E.out hlt] at hx;rcases HV.out m with ⟨hh,e⟩|⟨hh,e⟩
   ·rw [e] at hx
    have HL:=Qw (hl.skip hh);clear hl hh e;go_wp2;go_roundw
    case rel=>exact ⟨m+1,by omega,by go_num,HL.out⟩
    case measure=>simp [intOf];omega
   ·rw [e] at hx
    have hi:=hl.raw.loc m hlt hh;have vU:=hi.Bh;have cU:=T7 hi a;have hF:=(f.Lc m).KY;generalize (f.Lc m).Jh=F at*;have HL:=Qw (Qz hl hh);clear hl hh e hi;go_wp2_with ((with_reducible refine cU.mono ?_);intro e w3 hq;unfold EO at hq;obtain ⟨rfl,jf,hW⟩:=hq;have HS:=Qw (HL.out.1.used hlt HL.out.2 jf hW);clear jf hW)
    go_roundw
    case rel=>exact ⟨m+1,by omega,by go_num,HS.out⟩
    case measure=>simp [intOf];omega
  ·obtain rfl:m=8:=by omega
   have HL:=Qw hl;clear hl;go_wp2
   go_end0
   obtain ⟨hr,hW⟩:=HL.out;refine ⟨rfl,⟨hr.obj,hr.seat,hr.tick,hr.Cw,λc hc hh=> ?_,hr.ne,hr.low,hr.sep,hr.GL,hr.CM,hr.BP⟩,hW⟩;have i:=hr.loc c hc hh;rw [Qj hc] at i;exact i
section
variable {f:FL} {ga:Nat} {la:Nat->Nat} {H:Nat->Option Nat} {V:Nat->List Nat} {gg:Option Nat} {Wg:List Nat}
theorem Mc {s':SS} (h:OrdJ f ga la H V gg Wg) {k:Nat} {y:Int} (hk:k<f.s.n) (hs:s'.st=upd f.s.st k y) (hy:(f.s.st k=0/\y=1)\/(f.s.st k=2/\y=3)):∀ t,t<f.s.n->DB f t=DB {f with s:=s'} t:=λt ht=>by
 unfold DB;dsimp only;rw [hs];by_cases e:t=k
 ·subst e
  rw [upd_same];have hx:=h.Ae.cx t hk;rcases hy with ⟨a,rfl⟩|⟨a,rfl⟩
  ·cases hx with
   |idle hx hp hl=>rw [a,hp,hl];rfl
   |_=>omega
  ·cases hx with
   |has hx hp hl he q1 q2=>rw [a,hp];rfl
   |_=>omega
 ·rw [A0 _ _ e]
theorem WA (h:OrdJ f ga la H V gg Wg) (t d:Int):∀ j,j<f.s.n->DB f j=DB (f.lock t d) j:=by
 unfold FL.lock SS.lock;split
 ·rename_i e
  unfold BZ at e;split at e
  ·rename_i ht
   obtain ⟨k,rfl⟩:=Qx ht.1.1;split at e
   ·rename_i s0
    rw [Int.toNat_natCast] at s0 ⊢;exact Mc (k:=k) (y:=1) h (by omega) rfl (.inl ⟨s0,rfl⟩)
   ·omega
  ·omega
 ·intro j _;rfl
theorem Qg (h:OrdJ f ga la H V gg Wg) (t:Int):∀ j,j<f.s.n->DB f j=DB (f.turn t 3) j:=by
 unfold FL.turn SS.turn;split
 ·rename_i e
  unfold BR at e;split at e
  ·rename_i ht
   obtain ⟨k,rfl⟩:=Qx ht.1;rw [Int.toNat_natCast] at e ⊢;split at e
   ·omega
   ·split at e
    ·rename_i s2
     exact Mc (k:=k) (y:=3) h (by omega) rfl (.inr ⟨s2,rfl⟩)
    ·omega
  ·omega
 ·intro j _;rfl
end
namespace LkAt
variable {w w':World} {L:Lp} {f:FL}
theorem wrote {S:Nat->Prop} (h:LkAt w L f) (k:Wr S w w') (h5:∀ b,b<L.q.k3->¬ S b):LkAt w' L f:=⟨h.lk.wrote k h5,h.inv,h.a1⟩
theorem after (h:LkAt w L f) (k:Wr Nil w w'):LkAt w' L f:=⟨h.lk.after k,h.inv,h.a1⟩
end LkAt
def Low (L:Lp) (k:Nat):Prop:=k<L.q.k3
theorem LU {w w':World} {L:Lp} (k:Wr (LF L) w w'):Wr (Low L) w w':=k.mono λb _ e=>e.2
structure LkS (w0 w:World) (L:Lp) (f:FL):Prop where
 lk:LkAt w L f
 low:w0.heap.size<=L.lo
 wr:Wr Nil w0 w
namespace LkS
variable {w0 w w':World} {L:Lp} {f f':FL}
theorem after (h:LkS w0 w L f) (k:Wr Nil w w'):LkS w0 w' L f:=⟨h.lk.after k,h.low,h.wr.nil k⟩
theorem k0 (h:LkS w0 w L f):L.lo<L.q.k3/\L.q.k3<=w.heap.size:=by have:=h.lk.lk.k0;exact ⟨by omega,h.lk.lk.top⟩
theorem apart {S:Nat->Prop} (h:LkS w0 w L f) (k:Wr S w w') (hS:∀ b,S b->L.q.k3<=b):LkS w0 w' L f:=by
 have h1:=h.k0;have h3:=h.low;exact ⟨h.lk.wrote k λb hb e=>by have:=hS b e;omega,h.low,h.wr.trans k λb hb e=>by have:=hS b e;unfold Nil;omega⟩
theorem Hy (h:LkS w0 w L f) {k:Nat} (hk:LF L k):w0.heap.size<=k:=Nat.le_trans h.low hk.1
theorem call (h:LkS w0 w L f) (hl:LkAt w' L f') (k:Wr (LF L) w w'):LkS w0 w' L f':=⟨hl,h.low,h.wr.trans k λb hb e=>by have:=h.Hy e;unfold Nil;omega⟩
theorem cell0 (h:LkS w0 w L f):w.cell? ⟨L.lb,0,none⟩=some (.pointer (some ⟨L.p,0,none⟩)):=h.lk.lk.raw.cell0
end LkS
def Bf (w0 w:World) (L:Lp) (f:FL) (v:Value) (e:Ending) (w':World):Prop:=e= .returned v/\LkS w0 w' L f/\Wr (Low L) w w'
section
variable {w0 w:World} {L:Lp} {f:FL}
theorem Cr (h:LkS w0 w L f) (t d:Int):Calls prog 127 #[.pointer (some ⟨L.p,0,none⟩),.int .i64 t,.int .i64 d] w (Bf w0 w L (f.lock t d) (.int .i64 (BZ f.s t d))):=
 (Eo h.lk.lk.raw.seat t d).mono λe w' ⟨he,hS,hW⟩=>by
   obtain ⟨H,V,gg,Wg,hJ⟩:=h.lk.inv;have hl:LkAt w' L (f.lock t d):=⟨(h.lk.lk.seats hS (SS.Bz _ _ _) hW).same λj hj=>WA hJ t d j (by have:j<(f.s.lock t d).n:=hj;rw [SS.Bz] at this;exact this),⟨H,V,gg,Wg,hJ.lock t d⟩,h.lk.a1⟩
   exact ⟨he,h.call hl (CH h.lk.lk hW),LU (CH h.lk.lk hW)⟩
theorem Bt (h:LkS w0 w L f) (t:Int):Calls prog 131 #[.pointer (some ⟨L.p,0,none⟩),.int .i64 t] w (Bf w0 w L (f.turn t 3) (.int .i64 (BR f.s t))):=
 (DJ h.lk.lk.raw.seat t).mono λe w' ⟨he,hS,hW⟩=>by
   obtain ⟨H,V,gg,Wg,hJ⟩:=h.lk.inv;have hl:LkAt w' L (f.turn t 3):=⟨(h.lk.lk.seats hS (SS.Bu _ _ _) hW).same λj hj=>Qg hJ t j (by have:j<(f.s.turn t 3).n:=hj;rw [SS.Bu] at this;exact this),⟨H,V,gg,Wg,hJ.unlock t⟩,h.lk.a1⟩
   exact ⟨he,h.call hl (CH h.lk.lk hW),LU (CH h.lk.lk hW)⟩
theorem Cs (h:LkS w0 w L f) (t u x:Int) (hD:f.ps.D.length<4611686018427387904) (e:t=u:=by rfl):Calls prog 208 #[.pointer (some ⟨L.lb,0,none⟩),.int .i64 t,.int .i64 u,.int .i64 x] w (Bf w0 w L (f.step L t u) (f.did L t u).val):=by
 subst e;exact (CB h.lk t x hD).mono λe w' ⟨he,hl,hW⟩=>⟨he,h.call hl hW,LU hW⟩
end
theorem dW {w w':World} {L:Lp} {f:FL} {pv pg:Value} {pl:Nat->Value} {nx:Nat->Value} (hr:FlRaw w L pv pg pl f nx) (hf:L.gi.hi<=L.q.k0/\∀ c,c<8->L.has c=true->(L.li c).hi<=L.q.k0) (hk:L.q.k0<=L.q.k3) (k:Wr (UF L) w w'):Wr (LF L) w w':=k.mono λj _ e=>by
 have:=hr.low;have:=hr.Lu;unfold LF Bk;rcases e with e|e|⟨c,hc,hh,e⟩
 ·omega
 ·unfold Bk at e;omega
 ·have:=hf.2 c hc hh
  have:=hr.sep.1 c hc hh;unfold Bk at e;omega
theorem UC {w w':World} {L:Lp} {f:FL} {pv pg:Value} {pl:Nat->Value} {nx:Nat->Value} (hr:FlRaw w L pv pg pl f nx) (hf:L.gi.hi<=L.q.k0/\∀ c,c<8->L.has c=true->(L.li c).hi<=L.q.k0) (hP:PortAt w L.q L.hs f.ps) (k:Wr (UF L) w w'):PortAt w' L.q L.hs f.ps:=by
 have:=hr.low;have:=hr.Lu;refine hP.wrote k λb b1 _ e=> ?_;rcases e with e|e|⟨c,hc,hh,e⟩
 ·omega
 ·unfold Bk at e;omega
 ·have:=hf.2 c hc hh
  unfold Bk at e;omega
structure G' (w0 w:World) (L:Lp) (f:FL):Prop where
 raw:FlRaw w L (.pointer none) (.pointer none) (λ_=> .pointer none) f (DB f)
 port:PortAt w L.q L.hs f.ps
 far:L.gi.hi<=L.q.k0/\∀ c,c<8->L.has c=true->(L.li c).hi<=L.q.k0
 top:L.q.k3<=w.heap.size
 low:w0.heap.size<=L.lo
 wr:Wr Nil w0 w
 inv:∃ H V gg Wg,OrdJ f f.ga f.la H V gg Wg
 a1:L.a1=0
theorem Dp {w0 w:World} {L:Lp} {f:FL} (h:G' w0 w L f):
  Calls prog 209 #[.pointer (some ⟨L.lb,0,none⟩),.pointer (some ⟨L.q.p,0,none⟩)] w λe w'=>e= .returned (.tuple #[])/\LkS w0 w' L f/\Wr (Low L) w w':=by
 refine (Cu h.raw ⟨L.q.p,0,none⟩).mono ?_;rintro e w' ⟨rfl,hr,hW⟩;have hk:=h.port.place.le;have kA:=dW h.raw h.far (by omega) hW;exact ⟨rfl,⟨⟨⟨hr,UC h.raw h.far h.port hW,h.far,Nat.le_trans h.top hW.size⟩,h.inv,h.a1⟩,h.low,h.wr.trans kA λb hb e=>by have:=h.low;unfold LF Bk at e;unfold Nil;omega⟩,LU kA⟩
def K0 (zs:List Int) (t:Nat):Nat:=(zs.getD t 0).toNat
def GV (zs:List Int) (n c:Nat):Nat:=Ao (K0 zs) c n
def FU (zs:List Int) (n:Nat) (G K:Int):List Int:=List.replicate (8+Fz G 8+lZ K (GV zs n) 8) 0
def Bd (zs:List Int) (n:Nat) (G K:Int):List Int:=gH G++lH K (GV zs n) 8
def QZ (zs:List Int) (n:Nat) (G K B:Int) (t:Nat):FL:=P_ (K0 zs) n G K B 0 (Dq t (FU zs n G K))
theorem Sn {zs:List Int} {n:Nat} (hl:zs.length=n) (h:A8 zs=true):∀ t,t<n->zs.getD t 0=(K0 zs t:Nat)/\K0 zs t<8:=λt ht=>by
 unfold A8 at h;rw [List.all_eq_true] at h;have hg:zs.getD t 0∈zs:=by
  rw [List.getD_eq_getElem?_getD,List.getElem?_eq_getElem (show t<zs.length by omega)];exact List.getElem_mem _
 have:=h _ hg;unfold FO at this;have:=of_decide_eq_true this;unfold K0;omega
theorem Us (zs:List Int) (n c:Nat):GV zs n c<=n:=GX _ _ _
theorem Ds {a b:List Int} (ha:A8 a=true) (hb:A8 b=true):A8 (a++b)=true:=by
 unfold A8 at*;rw [List.all_append,ha,hb];rfl
theorem Gt {zs:List Int} (h:A8 zs=true):A8 [zs.getD 0 0]=true:=by
 cases zs with
 |nil=>decide
 |cons z r=>
  unfold A8 at*;simp only [List.all_cons,Bool.and_eq_true] at h;simp [h.1]
theorem Y_ {zs:List Int} (h:A8 zs=true):A8 (Km.MC zs)=true:=by
 unfold A8 Km.MC at*;rw [List.all_eq_true] at*;intro x hx;obtain ⟨z,hz,hx⟩:=List.mem_flatMap.1 hx;have:x=z:=by simpa using hx
 rw [this];exact h z hz
theorem TX {K:Int} {zs:List Int} (h:A8 zs=true):A8 (MT K zs)=true:=by
 unfold MT;split
 ·exact Ds (Gt h) (Gt h)
 split
 ·exact Ds (Ds (Gt h) (Gt h)) h
 ·exact Ds (Gt h) (Y_ h)
theorem XI (K:Int) (cnt:Nat->Nat):∀ m,m<=8->A8 (lH K cnt m)=true
 |0,_=>rfl
 |m+1,hm=>by
  unfold lH;refine Ds (XI K cnt m (by omega)) ?_;split
  ·exact TX (TY _ _ (by omega))
  ·rfl
theorem Qm (zs:List Int) (n:Nat) (G K:Int):A8 (Bd zs n G K)=true:=Ds (Ds JQ (TX JQ)) (XI K _ 8 (Nat.le_refl _))
theorem FM (zs:List Int) (n:Nat) (G K:Int):(Bd zs n G K).length=8+Fz G 8+lZ K (GV zs n) 8:=by unfold Bd;rw [List.length_append,NS,Nj]
theorem Tt {zs:List Int} {n:Nat} (G K:Int) (hn:n<=64):8+Fz G 8+lZ K (GV zs n) 8<=1200:=by
 have:=Nf G 8;have:=X8 K (GV zs n) 8 λc=>Nat.le_trans (Us zs n c) hn;omega
theorem OL (zs:List Int) (n:Nat) (G K:Int) (j:Nat):0<=(FU zs n G K).getD j 0/\(FU zs n G K).getD j 0<4294967296:=by
 unfold FU;rw [List.getD_eq_getElem?_getD,List.getElem?_replicate];split<;>decide
theorem CZ (zs:List Int) (n:Nat) {G K B:Int} (hl:zs.length=n) (n8:n<=64) (ho:A8 zs=true) (hB:1<=B/\B<=1000):OrdJ (QZ zs n G K B n) (QZ zs n G K B n).ga (QZ zs n G K B n).la (λ_=>none) (λ_=>[]) none []:=by
 have hH:=Sn hl ho;have hz:∀ x∈(Dq n (FU zs n G K)).ws,x=0:=λx hx=>List.eq_of_mem_replicate hx;have hw:(Dq n (FU zs n G K)).ws.length=8+Fz G 8+lZ K (GV zs n) 8:=List.length_replicate;have pos:∀ t,t<n->0<GV zs n (K0 zs t):=λt ht=>(M_ _ _ _).2 ⟨t,ht,rfl⟩;have lm:∀ t,t<n->lZ K (GV zs n) (K0 zs t)+Fz K (GV zs n (K0 zs t))<=lZ K (GV zs n) 8:=λt ht=>LS K _ (hH t ht).2 (pos t ht);refine OrdJ.start n8 hB (by show (List.replicate n 0).length=n;exact List.length_replicate) hz (λt ht=>(hH t ht).2) (λt ht=> ?_) (λt u ht hu e1 e2=>Ry _ e1 e2) (λt ht=> ?_) (λc j=> ?_) ?_ ?_ (λc=> ?_) (by omega) (λt ht=> ?_) (λt u ht hu hne=> ?_)
 ·show Ao (K0 zs) (K0 zs t) t<(Cc K (Ao (K0 zs) (K0 zs t) n) _).s.n
  rw [Gq];exact Kz _ ht
 ·rw [KA]
  refine K_ (Nat.le_trans (GX _ _ _) n8) ?_ hz;have:=lm t ht;unfold GV at this;rw [hw];unfold GV;omega
 ·rw [Gq];rfl
 ·rw [KA]
  refine K_ (by decide) ?_ hz;rw [hw];omega
 ·rw [Gq];rfl
 ·rw [Gq];rfl
 ·rw [Fp]
  omega
 ·rw [Fp,Fp]
  have h1:=pos t ht;have h2:=pos u hu;unfold GV at h1 h2;rcases Nat.lt_or_ge (K0 zs t) (K0 zs u) with q|q
  ·left
   have:=LS K (λc=>Ao (K0 zs) c n) q h1;omega
  ·right
   have:=LS K (λc=>Ao (K0 zs) c n) (show K0 zs u<K0 zs t by omega) h2;omega
def Iz (w0:World) (n:Nat) (zs:List Int) (G K B:Int) (lb:Nat) (e:Ending) (w':World):Prop:=∃ L:Lp,e= .returned (.tuple #[.pointer (some ⟨L.q.p,0,none⟩),.int .i64 0])/\(L.a1=0/\G' w0 w' L (QZ zs n G K B n))/\L.lb=lb/\L.hs=Bd zs n G K
theorem W9 (zs:List Int) (n:Nat) (G K B:Int) (t:Nat):DB (QZ zs n G K B n) t=Ku:=by
 unfold DB;rfl
theorem Cn {w0 w w1:World} {q q':Pl} {n:Nat} {zs:List Int} {G K B:Int} {L0:Lp} (h0:Wr Nil w0 w) (hq:∀ k,q.F k->w0.heap.size<=k) (n1:1<=n) (n2:n<=64) (ho:A8 zs=true) (hn:zs.length=n) (hB:1<=B/\B<=1000)
  (hR:∀ ps,FlRaw w1 L0 (.pointer none) (.pointer none) (λ_=> .pointer none) (P_ (K0 zs) n G K B 0 ps) (λ_=>Ku)) (hl:w.heap.size<=L0.lo) (h1:L0.a1=0) (Eu:q'.p=q.p) (hP:PlanAt w1 q' n (Bd zs n G K) (FU zs n G K)) (hW:Wr q.F w w1):
  Calls prog 26 #[.pointer (some ⟨q.p,0,none⟩)] w1 (Iz w0 n zs G K B L0.lb):=by
 have c:=Ch hP (λj=>OL zs n G K j) n1 (by omega) (by rw [FM];have:=Tt (zs:=zs) G K (show n<=64 by omega);omega) (Qm zs n G K);rw [Eu] at c;refine c.mono ?_;rintro e w' ⟨qq,rfl,hA,Ly,Gn,Ba⟩;have s0:=h0.size;have gN:=hR (Dq n (FU zs n G K));have hr:=(gN.wrote Ba λ_ _ _=>id).place qq (Bd zs n G K);refine ⟨{L0 with q:=qq,hs:=Bd zs n G K},rfl,⟨h1,⟨hr.same λt _=>(W9 zs n G K B t).symm,hA,⟨?_,λc hc hh=> ?_⟩,Gn,by dsimp only;omega,(h0.trans hW λk hk e=>by have:=hq k e;unfold Nil;omega).nil Ba,?_,h1⟩⟩,rfl,rfl⟩
 ·have:=gN.Cw.le
  dsimp only;omega
 ·have:=(gN.loc c hc hh).le
  dsimp only;omega
 ·exact ⟨_,_,_,_,CZ zs n hn n2 ho hB⟩
end Go.Proofs.YtmnephejhkfchaaGreat

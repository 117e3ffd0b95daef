
import Derived.Test.YtkmikkjjnbikdaaGreatCohLeaves
import Derived.Test.YtkmikkjjnbikdaaGreatCohRight
namespace Go.Proofs.YtkmikkjjnbikdaaGreat
set_option maxHeartbeats 8000000
open _root_.Go.Proofs.Tryz
open Go.RowKit Go.BigFrame
set_option linter.unusedVariables false
set_option maxRecDepth 100000
def nxN (x p l:Int):Nat:=
 if x=1 then (if p=0 then (if l=0 then 80 else 86) else if p=1 then 88 else if p=2 then 92 else 97)
 else if x=3 then (if p=0 then 91 else if p=1 then 96 else if p=2 then 102 else if p=3 then 95 else if p=4 then 101 else 106)
 else if x=2 then 91 else 80
def nxF (f:FL) (t:Nat):Value:= .func (.func (nxN (f.s.st t) (f.ph t) ((f.Lc (f.nd t)).s.st (f.own t)))) #[] #[]
theorem fin_off (s:SS) {k j:Nat} (ev:Int) (h:j≠k):(s.fin (k:Nat) ev).st j=s.st j:=by
 unfold SS.fin
 split
 ·unfold SS.set;exact upd_other _ _ (by simpa using h)
 ·rfl
theorem lock_off (s:SS) {k j:Nat} (d:Int) (h:j≠k):(s.lock (k:Nat) d).st j=s.st j:=by
 unfold SS.lock
 split
 ·unfold SS.set;exact upd_other _ _ (by simpa using h)
 ·rfl
theorem turn_off (s:SS) {k j:Nat} (x:Int) (h:j≠k):(s.turn (k:Nat) x).st j=s.st j:=by
 unfold SS.turn
 split
 ·unfold SS.set;exact upd_other _ _ (by simpa using h)
 ·rfl
theorem lk_s (f:FL) (c:Nat):(f.lk c).s=(f.Lc c).s:=Inn.on_s _
theorem ask_off (f:FL) (k:Nat) {j:Nat} (h:j≠f.own k):(f.ask k).s.st j=(f.Lc (f.nd k)).s.st j:=by
 unfold FL.ask
 split
 ·rw [Inn.lock_s,lk_s];exact lock_off _ _ h
 ·rw [lk_s]
theorem upd_loc {g:Nat→Inn} {c c' j:Nat} {y:Inn} (h:c'=c→y.s.st j=(g c).s.st j):((upd g c y) c').s.st j=(g c').s.st j:=by
 by_cases e:c'=c
 ·subst e;rw [upd_same];exact h rfl
 ·rw [upd_other _ _ e]
theorem mid_loc (f:FL) (L:Lp) (k:Nat) (u:Int) {c j:Nat} (h:c≠f.nd k∨j≠f.own k):((f.mid L k u).Lc c).s.st j=(f.Lc c).s.st j:=by
 have hj:c=f.nd k→j≠f.own k:=λe=>h.resolve_left λq=>q e
 unfold FL.mid FL.acq FL.rel
 simp only [Int.toNat_natCast]
 repeat' split
 all_goals first
  |rfl
  |exact upd_loc λe=>by rw [Inn.step_s,fin_off _ _ (hj e)];first|exact ask_off f k (hj e)|rw [lk_s]
  |exact upd_loc λe=>by rw [Inn.turn_s,turn_off _ _ (hj e)]
theorem mid_ph (f:FL) (L:Lp) (k:Nat) (u:Int) {t:Nat} (h:t≠k):(f.mid L k u).ph t=f.ph t:=by
 unfold FL.mid FL.acq FL.rel
 simp only [Int.toNat_natCast]
 repeat' split
 all_goals first|rfl|exact upd_other _ _ h
theorem step_far {f:FL} {L:Lp} {ga:Nat} {la:Nat→Nat} {H:Nat→Option Nat} {V:Nat→List Nat} {gg:Option Nat} {Wg:List Nat} (hJ:OrdJ f ga la H V gg Wg) {k t:Nat} (hk:k<f.s.n) (ht:t<f.s.n) (h:t≠k) (u:Int):nxF (f.step L k u) t=nxF f t:=by
 obtain ⟨e1,e2,e3,e4⟩:=f.mid_s L k u
 have a1:(f.step L k u).s.st t=f.s.st t:=fin_off _ _ h
 have a2:(f.step L k u).ph t=f.ph t:=by
  show (if endB f.s k (f.did L k u).ev=true then upd (f.mid L k u).ph (k:Int).toNat 0 else (f.mid L k u).ph) t=_
  split
  ·rw [upd_other _ _ (by simpa using h)];exact mid_ph f L k u h
  ·exact mid_ph f L k u h
 have a3:(f.step L k u).nd=f.nd:=e2
 have a4:(f.step L k u).own=f.own:=e3
 have a5:((f.step L k u).Lc (f.nd t)).s.st (f.own t)=(f.Lc (f.nd t)).s.st (f.own t):=by
  refine mid_loc f L k u ?_
  by_cases q:f.nd t=f.nd k
  ·exact .inr λe=>h (hJ.cor.inj t k ht hk q e)
  ·exact .inl q
 unfold nxF
 rw [a1,a2,a3,a4,a5]
section
variable {w:World} {L:Lp} {f:FL} {ga:Nat} {la:Nat→Nat} {H:Nat→Option Nat} {V:Nat→List Nat} {gg:Option Nat} {Wg:List Nat}
theorem go_fin {f1:FL} {nx1:Nat→Value} {v:Value} {k:Nat} {e:Ending} {w':World} (hJ:OrdJ f ga la H V gg Wg) (hk:k<f.s.n) (hp:LmPost w L f1 nx1 v e w') (hv:v=(f.did L k k).val) (hm:∃ p,f.mid L k k={f1 with ph:=p})
  (hn:∀ t,t≠k→nx1 t=nxF f t) (hn1:nx1 k=nxF (f.step L k k) k):LmPost w L (f.mid L k k) (nxF (f.step L k k)) (f.did L k k).val e w':=by
 obtain ⟨rfl,h1,h2⟩:=hp
 obtain ⟨p,hm⟩:=hm
 have hs:f1.s=f.s:=by have:=(f.mid_s L k k).1;rw [hm] at this;exact this
 refine ⟨by rw [hv],?_,h2⟩
 rw [hm]
 refine (h1.same λt ht=> ?_).phs p
 rw [hs] at ht
 by_cases q:t=k
 ·subst q;exact hn1
 ·rw [hn t q,step_far hJ hk ht q]
theorem go_any {F:Nat} {f':FL} {nx nx':Nat→Value} {d:Dd} (hF:∀ (args:Array Value) (w:World),(callFunc F args).run prog w= .ok (.enter F args) w) (h:LkM w L f nx) {k:Nat} (hk:k<f.s.n) (u:Int) (hn:nx k= .func (.func F) #[] #[])
  (cF:∀ W,LkM W L f nx→Calls prog F #[.pointer (some ⟨L.lb,0,none⟩),.pointer (some ⟨L.tb,k*4,none⟩),.int .i64 u] W (LmPost W L f' nx' d.val)):
  Calls prog 43 #[.pointer (some ⟨L.lb,0,none⟩),.int .i64 (k:Nat),.int .i64 u] w (LmPost w L f' nx' d.val):=by
 have hFr:=Fr.start h
 obtain ⟨Z,hZ⟩:∃ Z,Z=w.alloc (.cells #[.int .i64 0,.bool false,.bool false,.bool false] 71):=⟨_,rfl⟩
 rw [←hZ] at hFr
 have c13:=hFr.lk.raw.cell13
 have cN:=hFr.lk.raw.cx2 hk
 rw [hn] at cN
 rw [hZ] at c13
 have cF:=cF _ hFr.lk
 have hkI:(k:Int)<f.s.n:=by omega
 have hn64:=h.raw.seat.n2
 have HE:=Lib.hid (And.intro h (And.intro hk hFr))
 have HZ:=Lib.hid hZ
 rw [hZ] at cN
 clear h hFr hn hZ
 go_enter func43,ntmps43
 go_wp2_with ((rw [←HZ.out];with_reducible refine cF.mono ?_);intro e w2 hq;unfold LmPost at hq;obtain ⟨rfl,hA,hW⟩:=hq;dsimp only [Dd.val];have h3:=Fr.call HE.out.1 HE.out.2.2 hA hW;obtain ⟨v0,v1,v2,v3⟩:=h3.cell;obtain ⟨x0,x1,x2,x3⟩:=h3.frz;have HU:=Lib.hid h3;clear h3 hA hW)
 refine bodyPost_ret (v:=Dd.val d) (results_cell_row rfl _ _ w.heap.size 71 _ (0,0) _ rfl (set4 HU.out.res rfl _ _ _ _) underlying71 rfl i_did) rfl (HU.out.told HE.out.1 d)
theorem en_calls (args:Array Value) (w:World):(callFunc 80 args).run prog w= .ok (.enter 80 args) w:=by kernel_rfl
theorem en_queues (args:Array Value) (w:World):(callFunc 86 args).run prog w= .ok (.enter 86 args) w:=by kernel_rfl
theorem en_looks (args:Array Value) (w:World):(callFunc 88 args).run prog w= .ok (.enter 88 args) w:=by kernel_rfl
theorem en_arrives (args:Array Value) (w:World):(callFunc 92 args).run prog w= .ok (.enter 92 args) w:=by kernel_rfl
theorem en_leads (args:Array Value) (w:World):(callFunc 97 args).run prog w= .ok (.enter 97 args) w:=by kernel_rfl
theorem en_counts (args:Array Value) (w:World):(callFunc 91 args).run prog w= .ok (.enter 91 args) w:=by kernel_rfl
theorem en_asks (args:Array Value) (w:World):(callFunc 96 args).run prog w= .ok (.enter 96 args) w:=by kernel_rfl
theorem en_keeps (args:Array Value) (w:World):(callFunc 102 args).run prog w= .ok (.enter 102 args) w:=by kernel_rfl
theorem en_ends (args:Array Value) (w:World):(callFunc 95 args).run prog w= .ok (.enter 95 args) w:=by kernel_rfl
theorem en_yields (args:Array Value) (w:World):(callFunc 101 args).run prog w= .ok (.enter 101 args) w:=by kernel_rfl
theorem en_leaves (args:Array Value) (w:World):(callFunc 106 args).run prog w= .ok (.enter 106 args) w:=by kernel_rfl
end
section
variable {w:World} {L:Lp} {f:FL} {ga:Nat} {la:Nat→Nat} {H:Nat→Option Nat} {V:Nat→List Nat} {gg:Option Nat} {Wg:List Nat} {k:Nat}
theorem nx_is {f:FL} {k:Nat} {x p l:Int} (hx:f.s.st k=x) (hp:f.ph k=p) (hl:(f.Lc (f.nd k)).s.st (f.own k)=l) {F:Nat} (e:nxN x p l=F):nxF f k= .func (.func F) #[] #[]:=by
 unfold nxF
 rw [hx,hp,hl,e]
theorem up2 {nx:Nat→Value} {a b:Value}:∀ t,t≠k→upd (upd nx k a) k b t=nx t:=λt ht=>by rw [upd_other _ _ ht,upd_other _ _ ht]
theorem up1 {nx:Nat→Value} {a:Value}:∀ t,t≠k→upd nx k a t=nx t:=λt ht=>upd_other _ _ ht
theorem ask_is (hJ:OrdJ f ga la H V gg Wg) (hk:k<f.s.n) (s1:f.s.st k=1) (p0:f.ph k=0):((f.Lc (f.nd k)).s.st (f.own k)=0∨(f.Lc (f.nd k)).s.st (f.own k)=1)∧(f.ask k).s.st (f.own k)=1∧(((f.ask k).did (f.la (f.nd k):Nat) (f.own k:Nat) (k:Nat)).ev=0∨((f.ask k).did (f.la (f.nd k):Nat) (f.own k:Nat) (k:Nat)).ev=1):=by
 have ho:=hJ.own k hk
 have hl:(f.Lc (f.nd k)).s.st (f.own k)=0∨(f.Lc (f.nd k)).s.st (f.own k)=1:=by
  have hx:=hJ.cor.cx k hk
  cases hx with
  |loc hx hp hl=>exact hl
  |_=>omega
 have ya:(f.ask k).s.st (f.own k)=1∧(f.ask k).s.n=(f.Lc (f.nd k)).s.n:=by
  unfold FL.ask
  rcases hl with e|e
  ·rw [if_pos e,Inn.lock_s,lk_s,lock_st ho e,upd_same]
   exact ⟨rfl,SS.lock_n _ _ _⟩
  ·rw [if_neg (by omega),lk_s]
   exact ⟨e,rfl⟩
 exact ⟨hl,ya.1,((Inn.did_at (x:=f.ask k) (k:=f.own k) (u:=k) (f.la (f.nd k):Nat) (by rw [ya.2];exact ho)).1 ya.1).1⟩
theorem p0_step (hJ:OrdJ f ga la H V gg Wg) (hk:k<f.s.n) (s1:f.s.st k=1) (p0:f.ph k=0):nxF (f.step L k k) k=(if ((f.ask k).did (f.la (f.nd k):Nat) (f.own k:Nat) (k:Nat)).ev=1 then (.func (.func 88) #[] #[]) else (.func (.func 86) #[] #[]):Value):=by
 obtain ⟨hl,ya,hd⟩:=ask_is hJ hk s1 p0
 obtain ⟨ed,em⟩:=OrdJ.at_one (L:=L) (u:=(k:Int)) hk s1
 have ed2:(f.did L k k).ev=0:=by rw [ed];unfold FL.acqD;rw [if_pos p0]
 have em2:f.mid L k k={f with Lc:=upd f.Lc (f.nd k) ((f.ask k).step (f.la (f.nd k):Nat) (f.own k:Nat) (k:Nat)),ph:=upd f.ph k ((f.ask k).did (f.la (f.nd k):Nat) (f.own k:Nat) (k:Nat)).ev,ps:=((f.ask k).step (f.la (f.nd k):Nat) (f.own k:Nat) (k:Nat)).ps}:=by rw [em];unfold FL.acq;rw [if_pos p0]
 have es:=OrdJ.on_step (L:=L) (u:=(k:Int)) (k:=k) ed2 em2 (by rw [s1];rfl)
 rw [es]
 rcases hd with e|e
 ·rw [if_neg (by omega)]
  refine nx_is (x:=1) (p:=0) (l:=1) (by exact s1) ?_ ?_ rfl
  ·show upd f.ph k _ k=0
   rw [upd_same,e]
  ·show (upd f.Lc (f.nd k) _ (f.nd k)).s.st (f.own k)=1
   rw [upd_same,Inn.step_s,e,(fin_none' (by rw [ya];rfl)).1]
   exact ya
 ·rw [if_pos e]
  refine nx_is (x:=1) (p:=1) (by exact s1) ?_ rfl rfl
  show upd f.ph k _ k=1
  rw [upd_same,e]
theorem go_calls (h:LkM w L f (nxF f)) (hJ:OrdJ f ga la H V gg Wg) (hk:k<f.s.n) (s1:f.s.st k=1) (p0:f.ph k=0) (hD:f.ps.D.length<4611686018427387904) (l0:(f.Lc (f.nd k)).s.st (f.own k)=0):Calls prog 43 #[.pointer (some ⟨L.lb,0,none⟩),.int .i64 (k:Nat),.int .i64 (k:Nat)] w (LmPost w L (f.mid L k k) (nxF (f.step L k k)) (f.did L k k).val):=by
 obtain ⟨hl,ya,hd⟩:=ask_is hJ hk s1 p0
 obtain ⟨ed,em⟩:=OrdJ.at_one (L:=L) (u:=(k:Int)) hk s1
 have hst:=p0_step (L:=L) hJ hk s1 p0
 obtain ⟨f1,hf1⟩:∃ f1,f1=({f with Lc:=upd f.Lc (f.nd k) ((f.Lc (f.nd k)).lock (f.own k:Nat) (-1))}:FL):=⟨_,rfl⟩
 have ea:f1.lk (f1.nd k)=f.ask k:=by
  rw [hf1]
  unfold FL.ask FL.lk
  rw [if_pos l0]
  show (upd f.Lc (f.nd k) _ (f.nd k)).on f.ps=_
  rw [upd_same,Inn.lock_on]
 have e1:f1.la (f1.nd k)=f.la (f.nd k)∧f1.own k=f.own k:=by rw [hf1];exact ⟨rfl,rfl⟩
 refine (go_any en_calls h hk k (nx_is s1 p0 l0 rfl) λW q=>fl_calls q hk k hD hf1).mono λe w' hp=>go_fin hJ hk hp ?_ ?_ ?_ ?_
 ·rw [ea,e1.1,e1.2,ed]
  unfold FL.acqD
  rw [if_pos p0]
 ·refine ⟨upd f.ph k ((f.ask k).did (f.la (f.nd k):Nat) (f.own k:Nat) (k:Nat)).ev,?_⟩
  rw [ea,e1.1,e1.2,em]
  unfold FL.acq
  rw [if_pos p0,hf1]
  show _=({f with Lc:=upd (upd f.Lc (f.nd k) _) (f.nd k) _,ph:=_,ps:=_}:FL)
  rw [upd_upd]
 ·intro t ht
  split
  ·exact up2 t ht
  ·exact up1 t ht
 ·rw [hst,ea,e1.1,e1.2]
  split
  ·rw [upd_same]
  ·rw [upd_same]
theorem go_queues (h:LkM w L f (nxF f)) (hJ:OrdJ f ga la H V gg Wg) (hk:k<f.s.n) (s1:f.s.st k=1) (p0:f.ph k=0) (hD:f.ps.D.length<4611686018427387904) (l1:(f.Lc (f.nd k)).s.st (f.own k)≠0):Calls prog 43 #[.pointer (some ⟨L.lb,0,none⟩),.int .i64 (k:Nat),.int .i64 (k:Nat)] w (LmPost w L (f.mid L k k) (nxF (f.step L k k)) (f.did L k k).val):=by
 obtain ⟨hl,ya,hd⟩:=ask_is hJ hk s1 p0
 obtain ⟨ed,em⟩:=OrdJ.at_one (L:=L) (u:=(k:Int)) hk s1
 have hst:=p0_step (L:=L) hJ hk s1 p0
 have ea:f.lk (f.nd k)=f.ask k:=by unfold FL.ask;rw [if_neg l1]
 have l2:(f.Lc (f.nd k)).s.st (f.own k)=1:=by omega
 have h0:nxF f k=(.func (.func 86) #[] #[]):=nx_is s1 p0 l2 rfl
 refine (go_any en_queues h hk k h0 λW q=>fl_queues q hk k hD).mono λe w' hp=>go_fin hJ hk hp ?_ ?_ ?_ ?_
 ·rw [ea,ed]
  unfold FL.acqD
  rw [if_pos p0]
 ·refine ⟨upd f.ph k ((f.ask k).did (f.la (f.nd k):Nat) (f.own k:Nat) (k:Nat)).ev,?_⟩
  rw [ea,em]
  unfold FL.acq
  rw [if_pos p0]
 ·intro t ht
  split
  ·exact up1 t ht
  ·rfl
 ·rw [hst,ea]
  split
  ·rw [upd_same]
  ·exact h0
theorem go_looks (h:LkM w L f (nxF f)) (hJ:OrdJ f ga la H V gg Wg) (hk:k<f.s.n) (s1:f.s.st k=1) (p1:f.ph k=1) (hD:f.ps.D.length<4611686018427387904):Calls prog 43 #[.pointer (some ⟨L.lb,0,none⟩),.int .i64 (k:Nat),.int .i64 (k:Nat)] w (LmPost w L (f.mid L k k) (nxF (f.step L k k)) (f.did L k k).val):=by
 obtain ⟨ed,em⟩:=OrdJ.at_one (L:=L) (u:=(k:Int)) hk s1
 unfold FL.acqD at ed
 unfold FL.acq at em
 rw [if_neg (by omega),if_pos p1] at ed em
 have h0:nxF f k=(.func (.func 88) #[] #[]):=nx_is s1 p1 rfl rfl
 refine (go_any en_looks h hk k h0 λW q=>fl_looks q hk k hD).mono λe w' hp=>go_fin hJ hk hp ?_ ?_ ?_ ?_
 ·rw [ed]
 ·rw [em]
  split
  ·exact ⟨_,rfl⟩
  ·exact ⟨f.ph,rfl⟩
 ·intro t ht
  split<;>exact up1 t ht
 ·by_cases hv:(tellS f.ps (k:Nat) 1 (L.pA (f.nd k)))=0
  ·rw [if_pos hv,upd_same]
   rw [if_pos hv] at ed em
   have es:=OrdJ.on_step (L:=L) (u:=(k:Int)) (k:=k) (by rw [ed]) em (by rw [s1];rfl)
   rw [es]
   exact (nx_is (x:=1) (p:=2) (by exact s1) (upd_same _ _ _) rfl rfl).symm
  ·rw [if_neg hv,upd_same]
   rw [if_neg hv] at ed em
   have es:=OrdJ.end_step (L:=L) (u:=(k:Int)) (k:=k) (y:=2) hk (by rw [ed]) em (by rw [s1];rfl)
   rw [es]
   exact (nx_is (x:=2) (p:=0) (upd_same _ _ _) (upd_same _ _ _) rfl rfl).symm
theorem go_arrives (h:LkM w L f (nxF f)) (hJ:OrdJ f ga la H V gg Wg) (hk:k<f.s.n) (s1:f.s.st k=1) (p2:f.ph k=2) (hD:f.ps.D.length<4611686018427387904):Calls prog 43 #[.pointer (some ⟨L.lb,0,none⟩),.int .i64 (k:Nat),.int .i64 (k:Nat)] w (LmPost w L (f.mid L k k) (nxF (f.step L k k)) (f.did L k k).val):=by
 obtain ⟨ed,em⟩:=OrdJ.at_one (L:=L) (u:=(k:Int)) hk s1
 unfold FL.acqD at ed
 unfold FL.acq at em
 rw [if_neg (by omega),if_neg (by omega),if_pos p2] at ed em
 have h0:nxF f k=(.func (.func 92) #[] #[]):=nx_is s1 p2 rfl rfl
 have hc:=hJ.cor.ndl k hk
 have hg:f.G.s.st (f.nd k)=1:=by
  have hx:=hJ.cor.cx k hk
  cases hx with
  |glo hx hp hl hq he=>exact he
  |_=>omega
 have hd:=((Inn.did_at (x:=f.gl) (k:=f.nd k) (u:=k) (f.ga:Nat) (by unfold FL.gl;rw [Inn.on_s,hJ.gn];exact hc)).1 (by unfold FL.gl;rw [Inn.on_s];exact hg)).1
 have es:=OrdJ.on_step (L:=L) (u:=(k:Int)) (k:=k) (by rw [ed]) em (by rw [s1];rfl)
 refine (go_any en_arrives h hk k h0 λW q=>fl_arrives q hk k hD).mono λe w' hp=>go_fin hJ hk hp ?_ ?_ ?_ ?_
 ·rw [ed]
 ·rw [em];exact ⟨_,rfl⟩
 ·intro t ht
  split
  ·exact up1 t ht
  ·rfl
 ·rw [es]
  rcases hd with e|e
  ·rw [if_neg (by omega)]
   exact h0.trans (nx_is (x:=1) (p:=2) (by exact s1) ((upd_same _ _ _).trans (by rw [e];rfl)) rfl rfl).symm
  ·rw [if_pos e,upd_same]
   exact (nx_is (x:=1) (p:=3) (by exact s1) ((upd_same _ _ _).trans (by rw [e];rfl)) rfl rfl).symm
theorem go_leads (h:LkM w L f (nxF f)) (hJ:OrdJ f ga la H V gg Wg) (hk:k<f.s.n) (s1:f.s.st k=1) (p3:f.ph k=3) (hD:f.ps.D.length<4611686018427387904):Calls prog 43 #[.pointer (some ⟨L.lb,0,none⟩),.int .i64 (k:Nat),.int .i64 (k:Nat)] w (LmPost w L (f.mid L k k) (nxF (f.step L k k)) (f.did L k k).val):=by
 obtain ⟨ed,em⟩:=OrdJ.at_one (L:=L) (u:=(k:Int)) hk s1
 unfold FL.acqD at ed
 unfold FL.acq at em
 rw [if_neg (by omega),if_neg (by omega),if_neg (by omega)] at ed em
 have h0:nxF f k=(.func (.func 97) #[] #[]):=nx_is s1 p3 rfl rfl
 have es:=OrdJ.end_step (L:=L) (u:=(k:Int)) (k:=k) (y:=2) hk (by rw [ed]) em (by rw [s1];rfl)
 refine (go_any en_leads h hk k h0 λW q=>fl_leads q hk k hD).mono λe w' hp=>go_fin hJ hk hp ?_ ?_ up1 ?_
 ·rw [ed]
 ·rw [em];exact ⟨f.ph,rfl⟩
 ·rw [es,upd_same]
  exact (nx_is (x:=2) (p:=0) (upd_same _ _ _) (upd_same _ _ _) rfl rfl).symm
theorem go_counts (h:LkM w L f (nxF f)) (hJ:OrdJ f ga la H V gg Wg) (hk:k<f.s.n) (s3:f.s.st k=3) (p0:f.ph k=0) (hD:f.ps.D.length<4611686018427387904):Calls prog 43 #[.pointer (some ⟨L.lb,0,none⟩),.int .i64 (k:Nat),.int .i64 (k:Nat)] w (LmPost w L (f.mid L k k) (nxF (f.step L k k)) (f.did L k k).val):=by
 obtain ⟨ed,em⟩:=OrdJ.at_three (L:=L) (u:=(k:Int)) hk s3
 unfold FL.relD at ed
 unfold FL.rel at em
 rw [if_pos p0] at ed em
 have h0:nxF f k=(.func (.func 91) #[] #[]):=nx_is s3 p0 rfl rfl
 have es:=λm em=>OrdJ.on_step (L:=L) (u:=(k:Int)) (k:=k) (m:=m) (by rw [ed]) em (by rw [s3];rfl)
 refine (go_any en_counts h hk k h0 λW q=>fl_counts q hk k hD).mono λe w' hp=>go_fin hJ hk hp ?_ ?_ ?_ ?_
 ·rw [ed]
 ·rw [em]
  split
  ·exact ⟨_,rfl⟩
  ·exact ⟨_,rfl⟩
 ·intro t ht
  split<;>exact up1 t ht
 ·by_cases hv:(tellS f.ps (k:Nat) 1 (L.pA (f.nd k)))<f.bud
  ·rw [if_pos hv,upd_same]
   rw [if_pos hv] at em
   rw [es _ em]
   exact (nx_is (x:=3) (p:=1) (by exact s3) (upd_same _ _ _) rfl rfl).symm
  ·rw [if_neg hv,upd_same]
   rw [if_neg hv] at em
   rw [es _ em]
   exact (nx_is (x:=3) (p:=3) (by exact s3) (upd_same _ _ _) rfl rfl).symm
theorem go_asks (h:LkM w L f (nxF f)) (hJ:OrdJ f ga la H V gg Wg) (hk:k<f.s.n) (s3:f.s.st k=3) (p1:f.ph k=1) (hD:f.ps.D.length<4611686018427387904):Calls prog 43 #[.pointer (some ⟨L.lb,0,none⟩),.int .i64 (k:Nat),.int .i64 (k:Nat)] w (LmPost w L (f.mid L k k) (nxF (f.step L k k)) (f.did L k k).val):=by
 obtain ⟨ed,em⟩:=OrdJ.at_three (L:=L) (u:=(k:Int)) hk s3
 unfold FL.relD at ed
 unfold FL.rel at em
 rw [if_neg (by omega),if_pos p1] at ed em
 have h0:nxF f k=(.func (.func 96) #[] #[]):=nx_is s3 p1 rfl rfl
 have hg:(f.Lc (f.nd k)).s.st (f.own k)=4:=by
  have hx:=hJ.cor.cx k hk
  cases hx with
  |u1 hx hp hl he q1 q2 hg=>exact hl
  |_=>omega
 have hd:=((Inn.did_at (x:=f.lk (f.nd k)) (k:=f.own k) (u:=k) (f.la (f.nd k):Nat) (by rw [lk_s];exact hJ.own k hk)).2.2.1 (by rw [lk_s];exact hg)).1
 have es:=OrdJ.on_step (L:=L) (u:=(k:Int)) (k:=k) (by rw [ed]) em (by rw [s3];rfl)
 refine (go_any en_asks h hk k h0 λW q=>fl_asks q hk k hD).mono λe w' hp=>go_fin hJ hk hp ?_ ?_ ?_ ?_
 ·rw [ed]
 ·rw [em];exact ⟨_,rfl⟩
 ·intro t ht
  split<;>exact up1 t ht
 ·rw [es]
  rcases hd with e|e
  ·rw [if_pos e,upd_same]
   exact (nx_is (x:=3) (p:=3) (by exact s3) ((upd_same _ _ _).trans (if_neg (by omega))) rfl rfl).symm
  ·rw [if_neg (by omega),upd_same]
   exact (nx_is (x:=3) (p:=2) (by exact s3) ((upd_same _ _ _).trans (if_pos e)) rfl rfl).symm
theorem go_keeps (h:LkM w L f (nxF f)) (hJ:OrdJ f ga la H V gg Wg) (hk:k<f.s.n) (s3:f.s.st k=3) (p2:f.ph k=2) (hD:f.ps.D.length<4611686018427387904):Calls prog 43 #[.pointer (some ⟨L.lb,0,none⟩),.int .i64 (k:Nat),.int .i64 (k:Nat)] w (LmPost w L (f.mid L k k) (nxF (f.step L k k)) (f.did L k k).val):=by
 obtain ⟨ed,em⟩:=OrdJ.at_three (L:=L) (u:=(k:Int)) hk s3
 unfold FL.relD at ed
 unfold FL.rel at em
 rw [if_neg (by omega),if_neg (by omega),if_pos p2] at ed em
 have h0:nxF f k=(.func (.func 102) #[] #[]):=nx_is s3 p2 rfl rfl
 have hg:0≤f.got k∧f.got k≤1000000:=by
  have hx:=hJ.cor.cx k hk
  have hb:=hJ.bud
  cases hx with
  |u2 hx hp hl he q1 q2 hg hv=>omega
  |_=>omega
 have es:=OrdJ.on_step (L:=L) (u:=(k:Int)) (k:=k) (by rw [ed]) em (by rw [s3];rfl)
 refine (go_any en_keeps h hk k h0 λW q=>fl_keeps q hk k hD hg).mono λe w' hp=>go_fin hJ hk hp ?_ ?_ up1 ?_
 ·rw [ed]
 ·rw [em];exact ⟨_,rfl⟩
 ·rw [es,upd_same]
  exact (nx_is (x:=3) (p:=5) (by exact s3) (upd_same _ _ _) rfl rfl).symm
theorem go_ends (h:LkM w L f (nxF f)) (hJ:OrdJ f ga la H V gg Wg) (hk:k<f.s.n) (s3:f.s.st k=3) (p3:f.ph k=3) (hD:f.ps.D.length<4611686018427387904):Calls prog 43 #[.pointer (some ⟨L.lb,0,none⟩),.int .i64 (k:Nat),.int .i64 (k:Nat)] w (LmPost w L (f.mid L k k) (nxF (f.step L k k)) (f.did L k k).val):=by
 obtain ⟨ed,em⟩:=OrdJ.at_three (L:=L) (u:=(k:Int)) hk s3
 unfold FL.relD at ed
 unfold FL.rel at em
 rw [if_neg (by omega),if_neg (by omega),if_neg (by omega),if_pos p3] at ed em
 have h0:nxF f k=(.func (.func 95) #[] #[]):=nx_is s3 p3 rfl rfl
 have es:=OrdJ.on_step (L:=L) (u:=(k:Int)) (k:=k) (by rw [ed]) em (by rw [s3];rfl)
 refine (go_any en_ends h hk k h0 λW q=>fl_ends q hk k hD).mono λe w' hp=>go_fin hJ hk hp ?_ ?_ up1 ?_
 ·rw [ed]
 ·rw [em];exact ⟨_,rfl⟩
 ·rw [es,upd_same]
  exact (nx_is (x:=3) (p:=4) (by exact s3) (upd_same _ _ _) rfl rfl).symm
theorem go_yields (h:LkM w L f (nxF f)) (hJ:OrdJ f ga la H V gg Wg) (hk:k<f.s.n) (s3:f.s.st k=3) (p4:f.ph k=4) (hD:f.ps.D.length<4611686018427387904):Calls prog 43 #[.pointer (some ⟨L.lb,0,none⟩),.int .i64 (k:Nat),.int .i64 (k:Nat)] w (LmPost w L (f.mid L k k) (nxF (f.step L k k)) (f.did L k k).val):=by
 obtain ⟨ed,em⟩:=OrdJ.at_three (L:=L) (u:=(k:Int)) hk s3
 unfold FL.relD at ed
 unfold FL.rel at em
 rw [if_neg (by omega),if_neg (by omega),if_neg (by omega),if_neg (by omega),if_pos p4] at ed em
 have h0:nxF f k=(.func (.func 101) #[] #[]):=nx_is s3 p4 rfl rfl
 have es:=λm em=>OrdJ.on_step (L:=L) (u:=(k:Int)) (k:=k) (m:=m) (by rw [ed]) em (by rw [s3];rfl)
 refine (go_any en_yields h hk k h0 λW q=>fl_yields q hk k hD).mono λe w' hp=>go_fin hJ hk hp ?_ ?_ ?_ ?_
 ·rw [ed]
 ·rw [em]
  split
  ·exact ⟨_,rfl⟩
  ·exact ⟨f.ph,rfl⟩
 ·intro t ht
  split
  ·exact up1 t ht
  ·rfl
 ·by_cases hv:(f.gl.did (f.ga:Nat) (f.nd k:Nat) (k:Nat)).ev=3
  ·rw [if_pos hv,upd_same]
   rw [if_pos hv] at em
   rw [es _ em]
   exact (nx_is (x:=3) (p:=5) (by exact s3) (upd_same _ _ _) rfl rfl).symm
  ·rw [if_neg hv]
   rw [if_neg hv] at em
   rw [es _ em]
   exact h0.trans (nx_is (x:=3) (p:=4) (by exact s3) (by exact p4) rfl rfl).symm
theorem go_leaves (h:LkM w L f (nxF f)) (hJ:OrdJ f ga la H V gg Wg) (hk:k<f.s.n) (s3:f.s.st k=3) (p5:f.ph k=5) (hD:f.ps.D.length<4611686018427387904):Calls prog 43 #[.pointer (some ⟨L.lb,0,none⟩),.int .i64 (k:Nat),.int .i64 (k:Nat)] w (LmPost w L (f.mid L k k) (nxF (f.step L k k)) (f.did L k k).val):=by
 obtain ⟨ed,em⟩:=OrdJ.at_three (L:=L) (u:=(k:Int)) hk s3
 unfold FL.relD at ed
 unfold FL.rel at em
 rw [if_neg (by omega),if_neg (by omega),if_neg (by omega),if_neg (by omega),if_neg (by omega)] at ed em
 have h0:nxF f k=(.func (.func 106) #[] #[]):=nx_is s3 p5 rfl rfl
 have hg:(f.Lc (f.nd k)).s.st (f.own k)=3:=by
  have hx:=hJ.cor.cx k hk
  cases hx with
  |u5 hx hp hl h=>exact hl
  |_=>omega
 have hd:=((Inn.did_at (x:=f.lk (f.nd k)) (k:=f.own k) (u:=k) (f.la (f.nd k):Nat) (by rw [lk_s];exact hJ.own k hk)).2.1 (by rw [lk_s];exact hg)).1
 refine (go_any en_leaves h hk k h0 λW q=>fl_leaves q hk k hD).mono λe w' hp=>go_fin hJ hk hp ?_ ?_ ?_ ?_
 ·rw [ed]
  rcases hd with e|e
  ·rw [if_neg (by omega),e];rfl
  ·rw [if_pos e,e]
 ·rw [em];exact ⟨f.ph,rfl⟩
 ·intro t ht
  split
  ·exact up1 t ht
  ·rfl
 ·rcases hd with e|e
  ·rw [if_neg (by omega)]
   have es:=OrdJ.on_step (L:=L) (u:=(k:Int)) (k:=k) (by rw [ed,e]) em (by rw [s3];rfl)
   rw [es]
   exact h0.trans (nx_is (x:=3) (p:=5) (by exact s3) (by exact p5) rfl rfl).symm
  ·rw [if_pos e,upd_same]
   have es:=OrdJ.end_step (L:=L) (u:=(k:Int)) (k:=k) (y:=0) hk (by rw [ed,e]) em (by rw [s3];rfl)
   rw [es]
   exact (nx_is (x:=0) (p:=0) (upd_same _ _ _) (upd_same _ _ _) rfl rfl).symm
theorem fl_go (h:LkM w L f (nxF f)) (hJ:OrdJ f ga la H V gg Wg) (hk:k<f.s.n) (hs:f.s.st k=1∨f.s.st k=3) (hD:f.ps.D.length<4611686018427387904):Calls prog 43 #[.pointer (some ⟨L.lb,0,none⟩),.int .i64 (k:Nat),.int .i64 (k:Nat)] w (LmPost w L (f.mid L k k) (nxF (f.step L k k)) (f.did L k k).val):=by
 have hx:=hJ.cor.cx k hk
 rcases hs with s1|s3
 ·have hp:f.ph k=0∨f.ph k=1∨f.ph k=2∨f.ph k=3:=by cases hx<;>omega
  rcases hp with p|p|p|p
  ·by_cases l:(f.Lc (f.nd k)).s.st (f.own k)=0
   ·exact go_calls h hJ hk s1 p hD l
   ·exact go_queues h hJ hk s1 p hD l
  ·exact go_looks h hJ hk s1 p hD
  ·exact go_arrives h hJ hk s1 p hD
  ·exact go_leads h hJ hk s1 p hD
 ·have hp:f.ph k=0∨f.ph k=1∨f.ph k=2∨f.ph k=3∨f.ph k=4∨f.ph k=5:=by cases hx<;>omega
  rcases hp with p|p|p|p|p|p
  ·exact go_counts h hJ hk s3 p hD
  ·exact go_asks h hJ hk s3 p hD
  ·exact go_keeps h hJ hk s3 p hD
  ·exact go_ends h hJ hk s3 p hD
  ·exact go_yields h hJ hk s3 p hD
  ·exact go_leaves h hJ hk s3 p hD
end
open _root_.Go.Proofs.Tryz Go.Deep
def callsV:Value:= .func (.func 80) #[] #[]
def newCo (hN:Nat→Nat) (n:Nat) (G K B:Int) (base:Nat) (ps:PSta):FL:=
 ⟨newSeat n false false,B,hN,λt=>cntH hN (hN t) t,λ_=>0,λ_=>0,base+8,λc=>base+8+inZ G 8+lZ K (λc=>cntH hN c n) c,newInn G 8 ps,λc=>newInn K (cntH hN c n) ps,ps⟩
def NewCoPost (w:World) (q:Pl) (t:Int) (hs vs:List Int) (n:Nat) (hN:Nat→Nat) (G K B:Int) (e:Ending) (w':World):Prop:=
 ∃ (L:Lp) (q':Pl),e= .returned (.tuple #[.pointer (some ⟨L.lb,0,none⟩),.int .i64 0])∧(∀ ps,FlRaw w' L (.pointer none) (.pointer none) (λ_=> .pointer none) (newCo hN n G K B hs.length ps) (λ_=>callsV))∧
  w.heap.size≤L.lo∧L.a1=hs.length∧q'.p=q.p∧PlanAt w' q' t (hs++gH G++lH K (λc=>cntH hN c n) 8) (vs++List.replicate (8+inZ G 8+lZ K (λc=>cntH hN c n) 8) 0)∧Wr q.F w w'∧Came w q.F q'.F
theorem i_cx:(prog.info? 144).map (λi=>(i.zero,i.size,i.bytes))=some (some (.agg #[.int .i64 0,.int .i64 0,.nilFunc,.int .u32 0]),4,32):=by kernel_rfl
theorem made_cx (n:Nat):madeCells (Value.agg #[.int .i64 0,.int .i64 0,.nilFunc,.int .u32 0]).cells (n*4)=(cx0 n).toArray:=by
 apply Array.ext'
 show (madeCells (#[.int .i64 0,.int .i64 0,.nilFunc,.int .u32 0]:Array Value) (n*4)).toList=cx0 n
 apply List.ext_getElem?
 intro m
 by_cases hm:m<n*4
 ·have ha:m/4<n:=by omega
  have e:m=m/4*4+m%4:=by omega
  have h2:=cxs_at n (λ_=>0) (λ_=>0) (λ_=> .nilFunc) (λ_=>0) (k:=m/4) ha (j:=m%4) (Nat.mod_lt _ (by decide))
  rw [←e] at h2
  unfold cx0
  rw [h2]
  unfold madeCells
  rw [Array.toList_map,List.getElem?_map,Array.toList_range,List.getElem?_range hm]
  have:m%4=0∨m%4=1∨m%4=2∨m%4=3:=by omega
  rcases this with h|h|h|h<;>simp [h,cxC]
 ·rw [List.getElem?_eq_none (by simp [madeCells];omega),List.getElem?_eq_none (by unfold cx0 cxs;rw [flat_len (cxC_len _ _ _ _),List.length_range];omega)]
theorem co_start {w ws:World} {q:Pl} {t:Int} {hs vs:List Int} (h:PlanAt w q t hs vs) (k:Wr Nil w ws) {p sb n:Nat} {bud:Int} (hS:SeatAt ws p sb (newSeat n false false)) (hp:w.heap.size≤p) (hsb:w.heap.size≤sb) {A:Array Value} (hA:(cx0 n).toArray=A) {lb tb:Nat} (htb:tb=ws.heap.size) (hlb:lb=ws.heap.size+1)
  {W:World} (hW:W=(ws.alloc (.cells A 144)).alloc (.cells (objC p bud 0 .nilIface (λ_=> .nilIface) tb n) 68)):
  LaySt W q ⟨lb,p,sb,tb,n,bud⟩ W q t hs vs 0 .nilIface (λ_=> .nilIface) (cx0 n)∧Wr Nil w W:=by
 subst hA htb hlb hW
 have e1:(ws.alloc (.cells (cx0 n).toArray 144)).heap.size=ws.heap.size+1:=nblk_alloc _ _
 have k2:Wr Nil ws ((ws.alloc (.cells (cx0 n).toArray 144)).alloc (.cells (objC p bud 0 .nilIface (λ_=> .nilIface) ws.heap.size n) 68)):=((Wr.refl _ ws).alloc _).alloc _
 have l2:=blk_lt hS.obj
 have l3:=blk_lt hS.ctx
 have hne:=hS.ne
 refine ⟨⟨(h.after k).after k2,rfl,Came.refl _ _,Wr.refl _ _,?_,hS.after k2,?_,⟨?_,?_,?_,?_⟩,⟨by dsimp only;omega,by dsimp only;omega,by dsimp only;omega,by dsimp only;omega,by dsimp only;omega⟩⟩,k.nil k2⟩
 ·rw [←e1];exact blk_alloc_new _ _
 ·rw [blk_alloc_lt _ _ _ (by rw [e1];dsimp only;omega),blk_alloc_new]
 all_goals
  dsimp only
  rw [nblk_alloc,e1]
  omega
theorem co_end {w Wl W:World} {q q':Pl} {t:Int} {hs vs:List Int} {hN:Nat→Nat} {G K:Int} {vq:Nat→Value} {gi:Ip} {I:Nat→Ip} {lb p sb tb n:Nat} {bud:Int} (h:PlanAt w q t hs vs) (k:Wr Nil w Wl) (hl:LdSt Wl q ⟨lb,p,sb,tb,n,bud⟩ t hs vs hN G K vq gi 8 q' I W) (hlo:w.heap.size≤lb∧w.heap.size≤p∧w.heap.size≤sb∧w.heap.size≤tb)
  (hH:∀ t,t<n→hN t<8) (hb:0≤bud∧bud<4294967296) (hL:hs.length≤700000):
  NewCoPost w q t hs vs n hN G K bud (.returned (.tuple #[.pointer (some ⟨lb,0,none⟩),.int .i64 0])) W:=by
 obtain ⟨L,hLe⟩:∃ L:Lp,L=⟨lb,p,sb,tb,hs.length,(hs.length:Int)+1,noPl,[],w.heap.size,gi,I,λc=>decide (0<cntH hN c n)⟩:=⟨_,rfl⟩
 have hlv:∀ c,c<8→lvK I (λc=>cntH hN c n) 8 c=lvL L c:=λc hc=>by
  rw [hLe]
  unfold lvK lvL
  by_cases q:0<cntH hN c n
  ·rw [if_pos ⟨hc,q⟩];simp [q]
  ·rw [if_neg λe=>q e.2];simp [q]
 have hhas:∀ c,L.has c=true→0<cntH hN c n:=λc hc=>by rw [hLe] at hc;simpa using hc
 have hlt:=hl.lay.lt
 have hg:=hl.ga
 have hga:=(hl.glo ⟨[],[],[],[],[]⟩).rng.1
 refine ⟨L,q',by rw [hLe],λps=>⟨?_,?_,?_,?_,λc hc hh=> ?_,?_,?_,⟨λc hc hh=> ?_,λc d hc hd hhc hhd hne=> ?_⟩,λt ht=>⟨hH t ht,?_⟩,⟨?_,?_,λc hc hh=> ?_⟩,⟨λ_=>by show (0:Int)≤0∧(0:Int)<4294967296;decide,hb⟩⟩,by rw [hLe];exact Nat.le_refl _,by rw [hLe],hl.lay.pq,hl.lay.plan,?_,?_⟩
 ·rw [←hlv 0 (by decide),←hlv 1 (by decide),←hlv 2 (by decide),←hlv 3 (by decide),←hlv 4 (by decide),←hlv 5 (by decide),←hlv 6 (by decide),←hlv 7 (by decide),hLe]
  exact hl.lay.obj
 ·rw [hLe];exact hl.lay.seat
 ·rw [hLe];exact hl.lay.ctx
 ·rw [hLe];exact hl.glo ps
 ·rw [hLe];exact (hl.loc c hc (hhas c hh)).1 ps
 ·rw [hLe];exact hl.lay.ne
 ·rw [hLe]
  dsimp only at hlt ⊢
  exact ⟨⟨hlo.1,by omega⟩,⟨hlo.2.1,by omega⟩,⟨hlo.2.2.1,by omega⟩,hlo.2.2.2,by omega⟩
 ·rw [hLe];exact (hl.loc c hc (hhas c hh)).2.2
 ·rw [hLe]
  dsimp only
  rcases Nat.lt_or_ge c d with x|x
  ·exact .inl (hl.ord c d x hd (hhas c hhc) (hhas d hhd))
  ·exact .inr (hl.ord d c (by omega) hc (hhas d hhd) (hhas c hhc))
 ·rw [hLe]
  exact decide_eq_true ((cntH_pos hN _ n).2 ⟨t,ht,rfl⟩)
 ·rw [hLe];dsimp only;omega
 ·rw [hLe];exact hg.1
 ·rw [hLe];exact (hl.loc c hc (hhas c hh)).2.1
 ·refine (k.mono λ_ _ e=>e.elim).trans hl.lay.wr λj hj e=> ?_
  rcases e with e|e|e
  ·exact e
  ·dsimp only at e;omega
  ·dsimp only at e;omega
 ·exact λj hj=>by
   rcases hl.lay.came j hj with e|e
   ·exact .inl e
   ·have:=k.size;exact .inr (by omega)
theorem lay_off {w ws W:World} {q:Pl} {b:Nat} {B:Int} (hb:¬ q.F b) (hbl:b<w.heap.size) (s1:w.heap.size≤ws.heap.size) (s2:w.heap.size≤W.heap.size) (p sb n:Nat):¬ LyF q ⟨ws.heap.size+1,p,sb,ws.heap.size,n,B⟩ b∧b<W.heap.size:=by
 refine ⟨λe=> ?_,by omega⟩
 rcases e with e|e|e
 ·exact hb e
 ·dsimp only at e;omega
 ·dsimp only at e;omega
theorem fn_new {w:World} {q:Pl} {t:Int} {hs vs:List Int} (h:PlanAt w q t hs vs) {b o n cap:Nat} {zs:List Int} {hN:Nat→Nat} {G K B:Int} (hr:RowAt .i64 w (some ⟨b,o,none⟩) n zs) (ho:homesOK zs=true) (hH:∀ t,t<n→zs.getD t 0=(hN t:Nat)∧hN t<8) (n1:1≤n) (n2:n≤64) (hL:hs.length≤700000) (hb:¬ q.F b) (hbl:b<w.heap.size) (hc:rightB G K B=true):
  Calls prog 24 #[.pointer (some ⟨q.p,0,none⟩),.slice (some ⟨b,o,none⟩) n cap,.int .i64 G,.int .i64 K,.int .i64 B] w (NewCoPost w q t hs vs n hN G K B):=by
 obtain ⟨i0,hi,hz0,hz1,hz2⟩:=info_parts i_cx
 have hmk:∀ w:World,(Instr.makeSlice 66 (.int .i64 (n:Int)) (.int .i64 (n:Int))).run prog w= .ok (.slice (some ⟨w.heap.size,0,none⟩) n n) (w.alloc (.cells (cx0 n).toArray 144)):=by
  intro w
  have h:=Go.run_make (P:=prog) w 66 144 i0 _ underlying66 hi hz0 .i64 .i64 n n (by omega) (by omega) (by rw [hz2];omega) (by omega)
  rw [hz1] at h
  simp only [Int.toNat_natCast] at h
  rw [made_cx n] at h
  exact h
 generalize hA:(cx0 n).toArray=A at hmk
 have cS:=hm_seats (cap:=cap) hr ho false false n1 n2
 have cR:=fl_right G K B
 rw [hc] at cR
 have hc':=hc
 unfold rightB at hc'
 simp only [Bool.and_eq_true,decide_eq_true_eq,List.mem_cons,List.not_mem_nil,or_false] at hc'
 obtain ⟨⟨⟨g1,g2⟩,g3⟩,g4⟩:=hc'
 have hwB:IntKind.u32.wrap B=B:=by rw [IntKind.wrap_u32];omega
 have HX:=Lib.hid (And.intro h (And.intro hr (And.intro hA (And.intro hb (And.intro hbl (And.intro hH (And.intro (show G=1∨G=3∨G=4 by omega) (show K=1∨K=3∨K=4 by omega))))))))
 clear h hr ho hA hb hbl hc hH g1 g2
 go_enter func24,ntmps24
 go_wp2_with (first
  |(go_at_call 45;(with_reducible refine cS.mono ?_);intro e wq hq;unfold NewSeatPost at hq;obtain ⟨p,sb,rfl,hS,hp,hsb,hW⟩:=hq;have HS:=Lib.hid (And.intro hS (And.intro hp (And.intro hsb hW)));clear hS hp hsb hW cS)
  |(go_at_call 46;(with_reducible refine (cR _).mono ?_);rintro e ws ⟨rfl,hW⟩;have HW:=Lib.hid hW;clear hW cR)
  |(go_at_call 47;generalize hWe:(ws.alloc _).alloc _=W;have hc:=co_start (bud:=B) HX.out.1 (HS.out.2.2.2.nil HW.out) (HS.out.1.after HW.out) HS.out.2.1 HS.out.2.2.1 HX.out.2.2.1 rfl rfl hWe.symm;have hlt:=lay_off (B:=B) HX.out.2.2.2.1 HX.out.2.2.2.2.1 (HS.out.2.2.2.nil HW.out).size hc.2.size p sb n;(with_reducible refine (fl_lay (cap:=cap) hc.1 HX.out.2.2.2.2.2.2.1 HX.out.2.2.2.2.2.2.2 (HX.out.2.1.after hc.2) HX.out.2.2.2.2.2.1 n1 n2 hlt.1 hlt.2 hL).mono ?_);intro e w5 hq;unfold LayPost at hq;obtain ⟨rfl,vq,gi,q',I,hl⟩:=hq;have HZ:=Lib.hid (And.intro hc.2 hl);clear hc hlt hl hWe))
 go_ret2
 obtain ⟨h,hr,hA,hb,hbl,hH,hG,hK⟩:=HX.out
 obtain ⟨hS,hp,hsb,hW⟩:=HS.out
 have sz:=(hW.nil HW.out).size
 exact co_end h HZ.out.1 HZ.out.2 ⟨by omega,hp,hsb,by omega⟩ (λt ht=>(hH t ht).2) (by omega) hL
section
variable {w X Y:World} {B C:Nat} {L:Lp} {f g f0:FL} {nx nx' nx0:Nat→Value} {d:Dd}
theorem Fd.ends {s':SS} (h0:LkM w L f0 nx0) (h:Fd w B X L g nx C d) (hS:SeatAt Y L.p L.b s') (hn:s'.n=g.s.n) (k:Wr (One L.b) X Y):Fd w B Y L {g with s:=s'} nx C d:=
 h.call h0 (h.fr.lk.seats hS hn k) (lf_b h.fr.lk k)
theorem Fd.phs (h:Fd w B X L f nx C d) (ph:Nat→Int):Fd w B X L {f with ph:=ph} nx C d:=⟨⟨h.fr.lk.phs ph,h.fr.wr,h.fr.res,h.fr.new⟩,h.did,h.far,h.ne⟩
end
theorem hs_start {w:World} {L:Lp} {f:FL} {nx:Nat→Value} (h:LkM w L f nx) (cs:Array Value):
  Fd w (w.heap.size+1) (((w.alloc (.cells cs 113)).alloc (.cells #[.int .i64 0,.bool false,.bool false,.bool false] 71)).alloc (.cells #[.int .i64 0,.bool false,.bool false,.bool false] 71)) L f nx (w.heap.size+1+1) Dd.no∧
  (((w.alloc (.cells cs 113)).alloc (.cells #[.int .i64 0,.bool false,.bool false,.bool false] 71)).alloc (.cells #[.int .i64 0,.bool false,.bool false,.bool false] 71)).heap[w.heap.size]? =some (.cells cs 113 (0,0)):=by
 have e1:(w.alloc (.cells cs 113)).heap.size=w.heap.size+1:=nblk_alloc _ _
 have e2:((w.alloc (.cells cs 113)).alloc (.cells #[.int .i64 0,.bool false,.bool false,.bool false] 71)).heap.size=w.heap.size+1+1:=by rw [nblk_alloc,e1]
 have k:Wr Nil w (((w.alloc (.cells cs 113)).alloc (.cells #[.int .i64 0,.bool false,.bool false,.bool false] 71)).alloc (.cells #[.int .i64 0,.bool false,.bool false,.bool false] 71)):=(((Wr.refl _ w).alloc _).alloc _).alloc _
 refine ⟨⟨⟨h.after k,k.mono λ_ _ e=>e.elim,?_,Nat.le_succ _⟩,?_,by omega,by omega⟩,?_⟩
 ·rw [blk_alloc_lt _ _ _ (by rw [e2];omega),←e1,blk_alloc_new];rfl
 ·rw [←e2,blk_alloc_new];rfl
 ·rw [blk_alloc_lt _ _ _ (by rw [e2];omega),blk_alloc_lt _ _ _ (by rw [e1];omega),blk_alloc_new]
section
variable {w:World} {L:Lp} {f:FL} {ga:Nat} {la:Nat→Nat} {H:Nat→Option Nat} {V:Nat→List Nat} {gg:Option Nat} {Wg:List Nat}
theorem hs_busy (h:LkM w L f (nxF f)) (hJ:OrdJ f ga la H V gg Wg) {k:Nat} (hk:k<f.s.n) (hs:f.s.st k=1∨f.s.st k=3) (hD:f.ps.D.length<4611686018427387904):
  Calls prog 42 #[.pointer (some ⟨L.p,0,none⟩),.int .i64 (k:Nat),.int .i64 (k:Nat),.agg #[Value.func (.func 43) #[.pointer (some ⟨L.lb,0,none⟩)] #[],Value.func (.func 43) #[.pointer (some ⟨L.lb,0,none⟩)] #[],Value.nilFunc]] w (LmPost w L (f.step L k k) (nxF (f.step L k k)) (f.did L k k).val):=by
 obtain ⟨hF,hB⟩:=hs_start h #[Value.func (.func 43) #[.pointer (some ⟨L.lb,0,none⟩)] #[],Value.func (.func 43) #[.pointer (some ⟨L.lb,0,none⟩)] #[],Value.nilFunc]
 obtain ⟨Z,hZ⟩:∃ Z,Z=((w.alloc (.cells #[Value.func (.func 43) #[.pointer (some ⟨L.lb,0,none⟩)] #[],Value.func (.func 43) #[.pointer (some ⟨L.lb,0,none⟩)] #[],Value.nilFunc] 113)).alloc (.cells #[.int .i64 0,.bool false,.bool false,.bool false] 71)).alloc (.cells #[.int .i64 0,.bool false,.bool false,.bool false] 71):=⟨_,rfl⟩
 rw [←hZ] at hF hB
 have b0:Z.cell? ⟨w.heap.size,0,none⟩=some (Value.func (.func 43) #[.pointer (some ⟨L.lb,0,none⟩)] #[]):=(blk_cell hB 0).trans rfl
 have b1:Z.cell? ⟨w.heap.size,1,none⟩=some (Value.func (.func 43) #[.pointer (some ⟨L.lb,0,none⟩)] #[]):=(blk_cell hB 1).trans rfl
 have cS:=se_state hF.fr.lk.raw.seat (k:Int)
 obtain ⟨v0,v1,v2,v3⟩:=hF.fr.cell
 obtain ⟨x0,x1,x2,x3⟩:=hF.fr.frz
 obtain ⟨p0,p1,p2,p3⟩:=hF.cell
 have hn:=h.raw.seat.n2
 have ht:(0:Int)≤(k:Int)∧(k:Int)<f.s.n:=by omega
 have eS:f.s.stI (k:Int)=f.s.st k:=by unfold SS.stI;rw [if_pos ht,Int.toNat_natCast]
 rw [eS] at cS
 have es:=(f.mid_s L k k).1
 have cA:=fl_go hF.fr.lk hJ hk hs hD
 generalize nxF (f.step L k k)=nx' at*
 obtain ⟨P,hP⟩:∃ P,f.step L k k={f.mid L k k with s:=f.s.fin k (f.did L k k).ev,ph:=P}:=⟨_,rfl⟩
 rw [hP]
 clear hP
 generalize f.mid L k k=g at*
 generalize f.did L k k=d at*
 have HE:=Lib.hid (And.intro h (And.intro hF es))
 have HZ:=Lib.hid hZ
 clear h hF eS hB es hZ hJ ht
 rcases hs with hs|hs
 all_goals
  rw [hs] at cS
  clear hs
  generalize f.s.n=n at*
  go_enter func42,ntmps42
  go_wp2_with (first
   |(go_at_call 21;rw [←HZ.out];(with_reducible refine cS.mono ?_);rintro e w' ⟨rfl,rfl⟩)
   |(go_at_call 43;(with_reducible refine cA.mono ?_);intro e w2 hq;unfold LmPost at hq;obtain ⟨rfl,hA,hW⟩:=hq;dsimp only [Dd.val];have hA3:=HE.out.2.1.call HE.out.1 hA hW;obtain ⟨p0,p1,p2,p3⟩:=hA3.cell;obtain ⟨y0,y1,y2,y3⟩:=hA3.frz;have hK:=hA3.keep HE.out.1 d;have cE:=se_end hK.fr.lk.raw.seat (k:Int) d.ev;rw [HE.out.2.2] at cE;have HK:=Lib.hid hK;clear hA hA3 hK hW)
   |(go_at_call 62;(with_reducible refine cE.mono ?_);intro e w3 hq;unfold SeatPost at hq;obtain ⟨rfl,hS,hW⟩:=hq;have hY:=(HK.out.ends HE.out.1 hS (by rw [HE.out.2.2];exact f.s.fin_n _ _) hW).phs P;obtain ⟨e0,e1,e2,e3⟩:=hY.cell;obtain ⟨v0,v1,v2,v3⟩:=hY.fr.cell;obtain ⟨x0,x1,x2,x3⟩:=hY.fr.frz;have HT:=Lib.hid hY;clear hY hS hW))
  refine bodyPost_ret (v:=Dd.val d) (results_cell_row rfl _ _ (w.heap.size+1) 71 _ (0,0) _ rfl (set4 HT.out.fr.res rfl _ _ _ _) underlying71 rfl i_did) rfl (HT.out.fr.told HE.out.1 d)
theorem hs_idle (h:LkM w L f (nxF f)) (t u:Int) (h1:f.s.stI t≠1) (h3:f.s.stI t≠3) (h4:f.s.stI t≠4) (hf:f.s.fin t 0=f.s):
  Calls prog 42 #[.pointer (some ⟨L.p,0,none⟩),.int .i64 t,.int .i64 u,.agg #[Value.func (.func 43) #[.pointer (some ⟨L.lb,0,none⟩)] #[],Value.func (.func 43) #[.pointer (some ⟨L.lb,0,none⟩)] #[],Value.nilFunc]] w (LmPost w L f (nxF f) Dd.no.val):=by
 obtain ⟨hF,hB⟩:=hs_start h #[Value.func (.func 43) #[.pointer (some ⟨L.lb,0,none⟩)] #[],Value.func (.func 43) #[.pointer (some ⟨L.lb,0,none⟩)] #[],Value.nilFunc]
 obtain ⟨Z,hZ⟩:∃ Z,Z=((w.alloc (.cells #[Value.func (.func 43) #[.pointer (some ⟨L.lb,0,none⟩)] #[],Value.func (.func 43) #[.pointer (some ⟨L.lb,0,none⟩)] #[],Value.nilFunc] 113)).alloc (.cells #[.int .i64 0,.bool false,.bool false,.bool false] 71)).alloc (.cells #[.int .i64 0,.bool false,.bool false,.bool false] 71):=⟨_,rfl⟩
 rw [←hZ] at hF hB
 have cS:=se_state hF.fr.lk.raw.seat t
 obtain ⟨v0,v1,v2,v3⟩:=hF.fr.cell
 obtain ⟨x0,x1,x2,x3⟩:=hF.fr.frz
 obtain ⟨p0,p1,p2,p3⟩:=hF.cell
 have cE:=se_end hF.fr.lk.raw.seat t Dd.no.ev
 rw [show f.s.fin t Dd.no.ev=f.s from hf] at cE
 generalize nxF f=nx at*
 have HE:=Lib.hid (And.intro h hF)
 have HZ:=Lib.hid hZ
 generalize f.s.stI t=y at*
 clear h hF hB hZ hf
 go_enter func42,ntmps42
 go_wp2_with (first
  |(go_at_call 21;rw [←HZ.out];(with_reducible refine cS.mono ?_);rintro e w' ⟨rfl,rfl⟩)
  |(go_at_call 62;(with_reducible refine cE.mono ?_);intro e w3 hq;unfold SeatPost at hq;obtain ⟨rfl,hS,hW⟩:=hq;have hY:=HE.out.2.ends HE.out.1 hS rfl hW;obtain ⟨e0,e1,e2,e3⟩:=hY.cell;obtain ⟨v0,v1,v2,v3⟩:=hY.fr.cell;obtain ⟨x0,x1,x2,x3⟩:=hY.fr.frz;have HT:=Lib.hid hY;clear hY hS hW))
 refine bodyPost_ret (v:=Dd.val Dd.no) (results_cell_row rfl _ _ (w.heap.size+1) 71 _ (0,0) _ rfl (set4 HT.out.fr.res rfl _ _ _ _) underlying71 rfl i_did) rfl (HT.out.fr.told HE.out.1 Dd.no)
structure LkAt (w:World) (L:Lp) (f:FL):Prop where
 lk:LkM w L f (nxF f)
 inv:∃ H V gg Wg,OrdJ f f.ga f.la H V gg Wg
 a1:L.a1=0
theorem FL.step_ga (f:FL) (L:Lp) (t u:Int):(f.step L t u).ga=f.ga∧(f.step L t u).la=f.la:=by
 show (f.mid L t u).ga=_∧(f.mid L t u).la=_
 unfold FL.mid FL.acq FL.rel
 repeat' split
 all_goals exact ⟨rfl,rfl⟩
theorem LkAt.steps {w w':World} (h:LkAt w L f) (t:Int) (hm:LkM w' L (f.step L t t) (nxF (f.step L t t))):LkAt w' L (f.step L t t):=by
 obtain ⟨H,V,gg,Wg,hJ⟩:=h.inv
 obtain ⟨H',V',gg',Wg',hJ'⟩:=hJ.step h.a1 t
 refine ⟨hm,⟨H',V',gg',Wg',?_⟩,h.a1⟩
 rw [(f.step_ga L t t).1,(f.step_ga L t t).2]
 exact hJ'
theorem hs_step (h:LkAt w L f) (t:Int) (hD:f.ps.D.length<4611686018427387904):
  Calls prog 42 #[.pointer (some ⟨L.p,0,none⟩),.int .i64 t,.int .i64 t,.agg #[Value.func (.func 43) #[.pointer (some ⟨L.lb,0,none⟩)] #[],Value.func (.func 43) #[.pointer (some ⟨L.lb,0,none⟩)] #[],Value.nilFunc]] w (LmPost w L (f.step L t t) (nxF (f.step L t t)) (f.did L t t).val):=by
 obtain ⟨H,V,gg,Wg,hJ⟩:=h.inv
 by_cases ht:0≤t∧t<f.s.n
 ·obtain ⟨k,rfl⟩:=Int.eq_ofNat_of_zero_le ht.1
  have hk:k<f.s.n:=by omega
  have eS:f.s.stI (k:Int)=f.s.st k:=by unfold SS.stI;rw [if_pos ht,Int.toNat_natCast]
  by_cases s1:f.s.st k=1
  ·exact hs_busy h.lk hJ hk (.inl s1) hD
  by_cases s3:f.s.st k=3
  ·exact hs_busy h.lk hJ hk (.inr s3) hD
  have s4:f.s.st k≠4:=by have hx:=hJ.cor.cx k hk;cases hx<;>omega
  obtain ⟨e1,e2⟩:=OrdJ.at_idle (L:=L) (u:=(k:Int)) hk s1 s3 s4
  rw [e1,e2]
  refine hs_idle h.lk k k (by rw [eS];exact s1) (by rw [eS];exact s3) (by rw [eS];exact s4) (fin_none' ?_).1
  unfold behindI
  rw [if_neg (by omega),if_neg (by omega),if_neg (by omega),if_neg (by omega)]
 ·obtain ⟨e1,e2⟩:=OrdJ.at_none (L:=L) (u:=t) ht
  rw [e1,e2]
  have eS:f.s.stI t=0:=if_neg ht
  refine hs_idle h.lk t t (by rw [eS];decide) (by rw [eS];decide) (by rw [eS];decide) ?_
  unfold SS.fin endO
  rw [if_neg ht]
abbrev LkPost (w:World) (L:Lp) (f:FL) (v:Value) (e:Ending) (w':World):Prop:=e= .returned v∧LkAt w' L f∧Wr (LF L) w w'
theorem fl_step (h:LkAt w L f) (t x:Int) (hD:f.ps.D.length<4611686018427387904):
  Calls prog 20 #[.pointer (some ⟨L.lb,0,none⟩),.int .i64 t,.int .i64 t,.int .i64 x] w (LkPost w L (f.step L t t) (f.did L t t).val):=by
 have hst:=λw' hm=>h.steps (w':=w') t hm
 have hF:=Fr.start h.lk
 obtain ⟨Z,hZ⟩:∃ Z,Z=w.alloc (.cells #[.int .i64 0,.bool false,.bool false,.bool false] 71):=⟨_,rfl⟩
 rw [←hZ] at hF
 have cM:=hs_step ⟨hF.lk,h.inv,h.a1⟩ t hD
 have c0:=hF.lk.raw.cell0
 rw [hZ] at c0
 generalize nxF (f.step L t t)=nx' at*
 generalize f.step L t t=g at*
 generalize f.did L t t=d at*
 have HE:=Lib.hid (And.intro h.lk (And.intro hF hst))
 have HZ:=Lib.hid hZ
 clear h hF hZ hst
 go_enter func20,ntmps20
 go_wp2_with (first
  |(go_at_call 42;rw [←HZ.out];(with_reducible refine cM.mono ?_);intro e w2 hq;unfold LmPost at hq;obtain ⟨rfl,hA,hW⟩:=hq;dsimp only [Dd.val];have hA3:=Fr.call HE.out.1 HE.out.2.1 hA hW;obtain ⟨v0,v1,v2,v3⟩:=hA3.cell;obtain ⟨x0,x1,x2,x3⟩:=hA3.frz;have HT:=Lib.hid hA3;clear hA hA3 hW))
 refine bodyPost_ret (v:=Dd.val d) (results_cell_row rfl _ _ w.heap.size 71 _ (0,0) _ rfl (set4 HT.out.res rfl _ _ _ _) underlying71 rfl i_did) rfl ?_
 have hT:=HT.out.told HE.out.1 d
 exact ⟨hT.1,HE.out.2.2 _ hT.2.1,hT.2.2⟩
end
def UF (L:Lp) (k:Nat):Prop:=k=L.lb∨Rng L.gi.lo L.gi.hi k∨∃ c,c<8∧L.has c=true∧Rng (L.li c).lo (L.li c).hi k
structure UseSt (w:World) (L:Lp) (a:Addr) (pl:Nat→Value) (f:FL) (nx:Nat→Value) (m:Nat) (wr:World):Prop where
 raw:FlRaw wr L (.pointer (some a)) (.pointer (some a)) (λc=>if c<m then .pointer (some a) else pl c) f nx
 wr:Wr (UF L) w wr
namespace UseSt
variable {w wr w':World} {L:Lp} {a:Addr} {pl:Nat→Value} {f:FL} {nx:Nat→Value} {m:Nat}
theorem skip (h:UseSt w L a pl f nx m wr) (hm:L.has m=false):UseSt w L a pl f nx (m+1) wr:=by
 obtain ⟨r,k⟩:=h
 refine ⟨⟨r.obj,r.seat,r.tick,r.glo,λc hc hh=> ?_,r.ne,r.low,r.sep,r.nod,r.adr,r.rng⟩,k⟩
 have hne:c≠m:=λe=>by subst e;rw [hm] at hh;cases hh
 have i:=r.loc c hc hh
 by_cases q:c<m
 ·rw [if_pos q] at i;rw [if_pos (by omega)];exact i
 ·rw [if_neg q] at i;rw [if_neg (by omega)];exact i
theorem used (h:UseSt w L a pl f nx m wr) (hm:m<8) (hh:L.has m=true) (hI:InAt w' (L.li m) (.pointer (some a)) (f.Lc m)) (k:Wr (Rng (L.li m).lo (L.li m).hi) wr w'):UseSt w L a pl f nx (m+1) w':=by
 have hr:=h.raw.locl hm hh hI k λb _ e=> .inl e
 refine ⟨⟨hr.obj,hr.seat,hr.tick,hr.glo,λc hc hcc=> ?_,hr.ne,hr.low,hr.sep,hr.nod,hr.adr,hr.rng⟩,h.wr.trans k λb _ e=> .inr (.inr ⟨m,hm,hh,e⟩)⟩
 have i:=hr.loc c hc hcc
 have e:upd f.Lc m (f.Lc m) c=f.Lc c:=by unfold upd;split<;>simp_all
 have i:InAt w' (L.li c) (upd (λc=>if c<m then (.pointer (some a):Value) else pl c) m (.pointer (some a)) c) (upd f.Lc m (f.Lc m) c):=i
 rw [e] at i
 by_cases q:c=m
 ·subst q;rw [upd_same] at i;rw [if_pos (by omega)];exact i
 ·rw [upd_other _ _ q] at i
  by_cases q2:c<m
  ·rw [if_pos q2] at i;rw [if_pos (by omega)];exact i
  ·rw [if_neg q2] at i;rw [if_neg (by omega)];exact i
end UseSt
theorem FlRaw.useO {w:World} {L:Lp} {pv pg:Value} {pl:Nat→Value} {f:FL} {nx:Nat→Value} (h:FlRaw w L pv pg pl f nx) (v:Value):FlRaw (w.setCell ⟨L.lb,1,none⟩ v) L v pg pl f nx∧Wr (One L.lb) w (w.setCell ⟨L.lb,1,none⟩ v):=by
 have hW:Wr (One L.lb) w (w.setCell ⟨L.lb,1,none⟩ v):=(Wr.refl _ w).setCell _ _ λ_=>rfl
 obtain ⟨k1,k2⟩:=h.keep hW λb e=>by unfold One at e;have:=h.low;omega
 refine ⟨⟨?_,h.seat.wrote hW (λe=>h.ne.2.2.2.2 e.symm) (λe=>h.ne.1 e.symm),(hW.block _ (blk_lt h.tick) (λe=>h.ne.2.1 e.symm)).trans h.tick,k1,k2,h.ne,h.low,h.sep,h.nod,h.adr,h.rng⟩,hW⟩
 rw [blk_setCell h.obj]
 rfl
theorem lvL_or (L:Lp) (c:Nat):(L.has c=false∧lvL L c= .nilIface)∨(L.has c=true∧lvL L c= .iface (L.li c).ty (.pointer (some ⟨(L.li c).lb,0,none⟩))):=by
 unfold lvL Ip.val
 cases h:L.has c
 ·exact .inl ⟨rfl,by simp⟩
 ·exact .inr ⟨rfl,by simp⟩
theorem ix8_0 (v0 v1 v2 v3 v4 v5 v6 v7:Value) (w:World):(Instr.index 65 (.agg #[v0,v1,v2,v3,v4,v5,v6,v7]) (.int .i64 ((0:Nat):Int))).run prog w= .ok v0 w:=by kernel_rfl
theorem ix8_1 (v0 v1 v2 v3 v4 v5 v6 v7:Value) (w:World):(Instr.index 65 (.agg #[v0,v1,v2,v3,v4,v5,v6,v7]) (.int .i64 ((1:Nat):Int))).run prog w= .ok v1 w:=by kernel_rfl
theorem ix8_2 (v0 v1 v2 v3 v4 v5 v6 v7:Value) (w:World):(Instr.index 65 (.agg #[v0,v1,v2,v3,v4,v5,v6,v7]) (.int .i64 ((2:Nat):Int))).run prog w= .ok v2 w:=by kernel_rfl
theorem ix8_3 (v0 v1 v2 v3 v4 v5 v6 v7:Value) (w:World):(Instr.index 65 (.agg #[v0,v1,v2,v3,v4,v5,v6,v7]) (.int .i64 ((3:Nat):Int))).run prog w= .ok v3 w:=by kernel_rfl
theorem ix8_4 (v0 v1 v2 v3 v4 v5 v6 v7:Value) (w:World):(Instr.index 65 (.agg #[v0,v1,v2,v3,v4,v5,v6,v7]) (.int .i64 ((4:Nat):Int))).run prog w= .ok v4 w:=by kernel_rfl
theorem ix8_5 (v0 v1 v2 v3 v4 v5 v6 v7:Value) (w:World):(Instr.index 65 (.agg #[v0,v1,v2,v3,v4,v5,v6,v7]) (.int .i64 ((5:Nat):Int))).run prog w= .ok v5 w:=by kernel_rfl
theorem ix8_6 (v0 v1 v2 v3 v4 v5 v6 v7:Value) (w:World):(Instr.index 65 (.agg #[v0,v1,v2,v3,v4,v5,v6,v7]) (.int .i64 ((6:Nat):Int))).run prog w= .ok v6 w:=by kernel_rfl
theorem ix8_7 (v0 v1 v2 v3 v4 v5 v6 v7:Value) (w:World):(Instr.index 65 (.agg #[v0,v1,v2,v3,v4,v5,v6,v7]) (.int .i64 ((7:Nat):Int))).run prog w= .ok v7 w:=by kernel_rfl
theorem ix8 (v0 v1 v2 v3 v4 v5 v6 v7:Value) {m:Nat} (hm:m<8) (w:World):(Instr.index 65 (.agg #[v0,v1,v2,v3,v4,v5,v6,v7]) (.int .i64 (m:Nat))).run prog w= .ok (#[v0,v1,v2,v3,v4,v5,v6,v7].getD m undef) w:=by
 have:m=0∨m=1∨m=2∨m=3∨m=4∨m=5∨m=6∨m=7:=by omega
 rcases this with rfl|rfl|rfl|rfl|rfl|rfl|rfl|rfl
 ·exact ix8_0 _ _ _ _ _ _ _ _ w
 ·exact ix8_1 _ _ _ _ _ _ _ _ w
 ·exact ix8_2 _ _ _ _ _ _ _ _ w
 ·exact ix8_3 _ _ _ _ _ _ _ _ w
 ·exact ix8_4 _ _ _ _ _ _ _ _ w
 ·exact ix8_5 _ _ _ _ _ _ _ _ w
 ·exact ix8_6 _ _ _ _ _ _ _ _ w
 ·exact ix8_7 _ _ _ _ _ _ _ _ w
theorem pick8 {g:Nat→Value} {v0 v1 v2 v3 v4 v5 v6 v7:Value} (h:v0=g 0∧v1=g 1∧v2=g 2∧v3=g 3∧v4=g 4∧v5=g 5∧v6=g 6∧v7=g 7) {m:Nat} (hm:m<8): #[v0,v1,v2,v3,v4,v5,v6,v7].getD m undef=g m:=by
 obtain ⟨rfl,rfl,rfl,rfl,rfl,rfl,rfl,rfl⟩:=h
 have:m=0∨m=1∨m=2∨m=3∨m=4∨m=5∨m=6∨m=7:=by omega
 rcases this with rfl|rfl|rfl|rfl|rfl|rfl|rfl|rfl<;>rfl
theorem fl_use {w:World} {L:Lp} {pv pg:Value} {pl:Nat→Value} {f:FL} {nx:Nat→Value} (h:FlRaw w L pv pg pl f nx) (a:Addr):
  Calls prog 31 #[.pointer (some ⟨L.lb,0,none⟩),.pointer (some a)] w λe w'=>e= .returned (.tuple #[])∧FlRaw w' L (.pointer (some a)) (.pointer (some a)) (λ_=> .pointer (some a)) f nx∧Wr (UF L) w w':=by
 have c1:=h.cell1
 have f1:=h.frozen 1
 obtain ⟨h1,hW1⟩:=h.useO (.pointer (some a))
 have c4:=h1.cell4
 unfold Ip.val at c4
 have vU:=h1.glo.via_use
 have cU:=in_use h1.glo a
 have hF:=f.G.use_enter
 generalize f.G.useF=F at*
 have HE:=Lib.hid (And.intro h1 (hW1.mono (T:=UF L) λb _ e=> .inl e))
 clear h h1 hW1
 go_enter func31,ntmps31
 go_wp2_with ((with_reducible refine cU.mono ?_);intro e w2 hq;unfold InPost at hq;obtain ⟨rfl,hI,hW⟩:=hq;have hG:=HE.out.1.glob hI hW λb _ e=> .inl e;have hL:=λ(c:Nat) (hc:c<8)=>hG.cellL hc;have l0:=hL 0 (by decide);have l1:=hL 1 (by decide);have l2:=hL 2 (by decide);have l3:=hL 3 (by decide);have l4:=hL 4 (by decide);have l5:=hL 5 (by decide);have l6:=hL 6 (by decide);have l7:=hL 7 (by decide);have HG:=Lib.hid (And.intro hG (HE.out.2.trans hW λb _ e=> .inr (.inl e)));clear hG hI hW hL)
 clear cU vU hF c4 c1 f1 l0 l1 l2 l3 l4 l5 l6 l7
 have hv:=λc=>lvL_or L c
 obtain ⟨v0,e0⟩:∃ v,v=lvL L 0:=⟨_,rfl⟩
 obtain ⟨v1,e1⟩:∃ v,v=lvL L 1:=⟨_,rfl⟩
 obtain ⟨v2,e2⟩:∃ v,v=lvL L 2:=⟨_,rfl⟩
 obtain ⟨v3,e3⟩:∃ v,v=lvL L 3:=⟨_,rfl⟩
 obtain ⟨v4,e4⟩:∃ v,v=lvL L 4:=⟨_,rfl⟩
 obtain ⟨v5,e5⟩:∃ v,v=lvL L 5:=⟨_,rfl⟩
 obtain ⟨v6,e6⟩:∃ v,v=lvL L 6:=⟨_,rfl⟩
 obtain ⟨v7,e7⟩:∃ v,v=lvL L 7:=⟨_,rfl⟩
 rw [←e0,←e1,←e2,←e3,←e4,←e5,←e6,←e7]
 have E:=Lib.hid (And.intro e0 (And.intro e1 (And.intro e2 (And.intro e3 (And.intro e4 (And.intro e5 (And.intro e6 e7)))))))
 have HV:=Lib.hid hv
 clear e0 e1 e2 e3 e4 e5 e6 e7 hv
 go_loopw [5,20] (λ_ i wr=>∃ m:Nat,m≤8∧i= .int .i64 m∧UseSt w L a pl f nx m wr) (λ_ i _=>8-(intOf i).toNat)
 case atStart=>exact ⟨0,by decide,rfl,⟨by simpa using HG.out.1,HG.out.2⟩⟩
 case round=>
  clear HG HE
  obtain ⟨m,hm,rfl,hl⟩:=hrel
  by_cases hlt:m<8
  ·have hI:(m:Int)<8:=by omega
   have hx:=ix8 v0 v1 v2 v3 v4 v5 v6 v7 hlt
   rw [pick8 E.out hlt] at hx
   rcases HV.out m with ⟨hh,e⟩|⟨hh,e⟩
   ·rw [e] at hx
    have HL:=Lib.hid (hl.skip hh)
    clear hl hh e
    go_wp2
    go_roundw
    case rel=>exact ⟨m+1,by omega,by go_num,HL.out⟩
    case measure=>simp [intOf];omega
   ·rw [e] at hx
    have hi:=hl.raw.loc m hlt hh
    have vU:=hi.via_use
    have cU:=in_use hi a
    have hF:=(f.Lc m).use_enter
    generalize (f.Lc m).useF=F at*
    have HL:=Lib.hid (And.intro hl hh)
    clear hl hh e hi
    go_wp2_with ((with_reducible refine cU.mono ?_);intro e w3 hq;unfold InPost at hq;obtain ⟨rfl,hI2,hW⟩:=hq;have HS:=Lib.hid (HL.out.1.used hlt HL.out.2 hI2 hW);clear hI2 hW)
    go_roundw
    case rel=>exact ⟨m+1,by omega,by go_num,HS.out⟩
    case measure=>simp [intOf];omega
  ·obtain rfl:m=8:=by omega
   have HL:=Lib.hid hl
   clear hl
   go_wp2
   go_end0
   obtain ⟨hr,hW⟩:=HL.out
   refine ⟨rfl,⟨hr.obj,hr.seat,hr.tick,hr.glo,λc hc hh=> ?_,hr.ne,hr.low,hr.sep,hr.nod,hr.adr,hr.rng⟩,hW⟩
   have i:=hr.loc c hc hh
   rw [if_pos hc] at i
   exact i
section
variable {f:FL} {ga:Nat} {la:Nat→Nat} {H:Nat→Option Nat} {V:Nat→List Nat} {gg:Option Nat} {Wg:List Nat}
theorem nx_seats {s':SS} (h:OrdJ f ga la H V gg Wg) {k:Nat} {y:Int} (hk:k<f.s.n) (hs:s'.st=upd f.s.st k y) (hy:(f.s.st k=0∧y=1)∨(f.s.st k=2∧y=3)):∀ t,t<f.s.n→nxF f t=nxF {f with s:=s'} t:=λt ht=>by
 unfold nxF
 dsimp only
 rw [hs]
 by_cases e:t=k
 ·subst e
  rw [upd_same]
  have hx:=h.cor.cx t hk
  rcases hy with ⟨a,rfl⟩|⟨a,rfl⟩
  ·cases hx with
   |idle hx hp hl=>rw [a,hp,hl];rfl
   |_=>omega
  ·cases hx with
   |has hx hp hl he q1 q2=>rw [a,hp];rfl
   |_=>omega
 ·rw [upd_other _ _ e]
theorem nx_lock (h:OrdJ f ga la H V gg Wg) (t d:Int):∀ j,j<f.s.n→nxF f j=nxF (f.lock t d) j:=by
 unfold FL.lock SS.lock
 split
 ·rename_i e
  unfold lockE at e
  split at e
  ·rename_i ht
   obtain ⟨k,rfl⟩:=Int.eq_ofNat_of_zero_le ht.1.1
   split at e
   ·rename_i s0
    rw [Int.toNat_natCast] at s0 ⊢
    exact nx_seats (k:=k) (y:=1) h (by omega) rfl (.inl ⟨s0,rfl⟩)
   ·omega
  ·omega
 ·intro j _;rfl
theorem nx_unlock (h:OrdJ f ga la H V gg Wg) (t:Int):∀ j,j<f.s.n→nxF f j=nxF (f.turn t 3) j:=by
 unfold FL.turn SS.turn
 split
 ·rename_i e
  unfold turnE at e
  split at e
  ·rename_i ht
   obtain ⟨k,rfl⟩:=Int.eq_ofNat_of_zero_le ht.1
   rw [Int.toNat_natCast] at e ⊢
   split at e
   ·omega
   ·split at e
    ·rename_i s2
     exact nx_seats (k:=k) (y:=3) h (by omega) rfl (.inr ⟨s2,rfl⟩)
    ·omega
  ·omega
 ·intro j _;rfl
theorem nx_probe (h:OrdJ f ga la H V gg Wg) (t:Int):f.probe t=f:=by
 unfold FL.probe SS.probe
 rw [h.np]
 rfl
end
namespace LkAt
variable {w w':World} {L:Lp} {f:FL}
theorem wrote {S:Nat→Prop} (h:LkAt w L f) (k:Wr S w w') (h5:∀ b,b<L.q.k3→¬ S b):LkAt w' L f:=⟨h.lk.wrote k h5,h.inv,h.a1⟩
theorem after (h:LkAt w L f) (k:Wr Nil w w'):LkAt w' L f:=⟨h.lk.after k,h.inv,h.a1⟩
end LkAt
def Low (L:Lp) (k:Nat):Prop:=k<L.q.k3
theorem lk_low {w w':World} {L:Lp} (k:Wr (LF L) w w'):Wr (Low L) w w':=k.mono λb _ e=>e.2
structure LkS (w0 w:World) (L:Lp) (f:FL):Prop where
 lk:LkAt w L f
 low:w0.heap.size≤L.lo
 wr:Wr Nil w0 w
namespace LkS
variable {w0 w w':World} {L:Lp} {f f':FL}
theorem after (h:LkS w0 w L f) (k:Wr Nil w w'):LkS w0 w' L f:=⟨h.lk.after k,h.low,h.wr.nil k⟩
theorem k0 (h:LkS w0 w L f):L.lo<L.q.k3∧L.q.k3≤w.heap.size:=by have:=h.lk.lk.k0;exact ⟨by omega,h.lk.lk.top⟩
theorem apart {S:Nat→Prop} (h:LkS w0 w L f) (k:Wr S w w') (hS:∀ b,S b→L.q.k3≤b):LkS w0 w' L f:=by
 have h1:=h.k0
 have h3:=h.low
 exact ⟨h.lk.wrote k λb hb e=>by have:=hS b e;omega,h.low,h.wr.trans k λb hb e=>by have:=hS b e;unfold Nil;omega⟩
theorem lnew (h:LkS w0 w L f) {k:Nat} (hk:LF L k):w0.heap.size≤k:=Nat.le_trans h.low hk.1
theorem call (h:LkS w0 w L f) (hl:LkAt w' L f') (k:Wr (LF L) w w'):LkS w0 w' L f':=⟨hl,h.low,h.wr.trans k λb hb e=>by have:=h.lnew e;unfold Nil;omega⟩
theorem cell0 (h:LkS w0 w L f):w.cell? ⟨L.lb,0,none⟩=some (.pointer (some ⟨L.p,0,none⟩)):=h.lk.lk.raw.cell0
end LkS
def LsPost (w0 w:World) (L:Lp) (f:FL) (v:Value) (e:Ending) (w':World):Prop:=e= .returned v∧LkS w0 w' L f∧Wr (Low L) w w'
section
variable {w0 w:World} {L:Lp} {f:FL}
theorem ls_lock (h:LkS w0 w L f) (t d:Int):Calls prog 18 #[.pointer (some ⟨L.p,0,none⟩),.int .i64 t,.int .i64 d] w (LsPost w0 w L (f.lock t d) (.int .i64 (lockE f.s t d))):=
 (se_lock h.lk.lk.raw.seat t d).mono λe w' ⟨he,hS,hW⟩=>by
   obtain ⟨H,V,gg,Wg,hJ⟩:=h.lk.inv
   have hl:LkAt w' L (f.lock t d):=⟨(h.lk.lk.seats hS (SS.lock_n _ _ _) hW).same λj hj=>nx_lock hJ t d j (by have:j<(f.s.lock t d).n:=hj;rw [SS.lock_n] at this;exact this),⟨H,V,gg,Wg,hJ.lock t d⟩,h.lk.a1⟩
   exact ⟨he,h.call hl (lf_b h.lk.lk hW),lk_low (lf_b h.lk.lk hW)⟩
theorem ls_unlock (h:LkS w0 w L f) (t:Int):Calls prog 19 #[.pointer (some ⟨L.p,0,none⟩),.int .i64 t] w (LsPost w0 w L (f.turn t 3) (.int .i64 (turnE f.s t))):=
 (se_unlock h.lk.lk.raw.seat t).mono λe w' ⟨he,hS,hW⟩=>by
   obtain ⟨H,V,gg,Wg,hJ⟩:=h.lk.inv
   have hl:LkAt w' L (f.turn t 3):=⟨(h.lk.lk.seats hS (SS.turn_n _ _ _) hW).same λj hj=>nx_unlock hJ t j (by have:j<(f.s.turn t 3).n:=hj;rw [SS.turn_n] at this;exact this),⟨H,V,gg,Wg,hJ.unlock t⟩,h.lk.a1⟩
   exact ⟨he,h.call hl (lf_b h.lk.lk hW),lk_low (lf_b h.lk.lk hW)⟩
theorem ls_probe (h:LkS w0 w L f) (t:Int):Calls prog 123 #[.pointer (some ⟨L.p,0,none⟩),.int .i64 t] w (LsPost w0 w L (f.probe t) (.int .i64 (probeE f.s t))):=
 (se_probe h.lk.lk.raw.seat t).mono λe w' ⟨he,hS,hW⟩=>by
   obtain ⟨H,V,gg,Wg,hJ⟩:=h.lk.inv
   have e2:f.s.probe t=f.s:=by unfold SS.probe;rw [hJ.np];rfl
   rw [e2] at hS
   rw [nx_probe hJ]
   have hl:LkAt w' L f:=⟨h.lk.lk.seats hS rfl hW,⟨H,V,gg,Wg,hJ⟩,h.lk.a1⟩
   exact ⟨he,h.call hl (lf_b h.lk.lk hW),lk_low (lf_b h.lk.lk hW)⟩
theorem ls_step (h:LkS w0 w L f) (t u x:Int) (hD:f.ps.D.length<4611686018427387904) (e:t=u:=by rfl):Calls prog 20 #[.pointer (some ⟨L.lb,0,none⟩),.int .i64 t,.int .i64 u,.int .i64 x] w (LsPost w0 w L (f.step L t u) (f.did L t u).val):=by
 subst e
 exact (fl_step h.lk t x hD).mono λe w' ⟨he,hl,hW⟩=>⟨he,h.call hl hW,lk_low hW⟩
theorem ls_state (h:LkS w0 w L f) (t:Int):Calls prog 21 #[.pointer (some ⟨L.p,0,none⟩),.int .i64 t] w λe w'=>e= .returned (.int .i64 (f.s.stI t))∧w=w':=se_state h.lk.lk.raw.seat t
theorem ls_len (h:LkS w0 w L f):Calls prog 27 #[.pointer (some ⟨L.p,0,none⟩)] w λe w'=>e= .returned (.int .i64 f.s.n)∧w=w':=se_len h.lk.lk.raw.seat
end
theorem uf_lf {w w':World} {L:Lp} {f:FL} {pv pg:Value} {pl:Nat→Value} {nx:Nat→Value} (hr:FlRaw w L pv pg pl f nx) (hf:L.gi.hi≤L.q.k0∧∀ c,c<8→L.has c=true→(L.li c).hi≤L.q.k0) (hk:L.q.k0≤L.q.k3) (k:Wr (UF L) w w'):Wr (LF L) w w':=k.mono λj _ e=>by
 have:=hr.low
 have:=hr.glr
 unfold LF Rng
 rcases e with e|e|⟨c,hc,hh,e⟩
 ·omega
 ·unfold Rng at e;omega
 ·have:=hf.2 c hc hh
  have:=hr.sep.1 c hc hh
  unfold Rng at e;omega
theorem use_port {w w':World} {L:Lp} {f:FL} {pv pg:Value} {pl:Nat→Value} {nx:Nat→Value} (hr:FlRaw w L pv pg pl f nx) (hf:L.gi.hi≤L.q.k0∧∀ c,c<8→L.has c=true→(L.li c).hi≤L.q.k0) (hP:PortAt w L.q L.hs f.ps) (k:Wr (UF L) w w'):PortAt w' L.q L.hs f.ps:=by
 have:=hr.low
 have:=hr.glr
 refine hP.wrote k λb b1 _ e=> ?_
 rcases e with e|e|⟨c,hc,hh,e⟩
 ·omega
 ·unfold Rng at e;omega
 ·have:=hf.2 c hc hh
  unfold Rng at e;omega
theorem ls_use {w0 w:World} {L:Lp} {f:FL} (h:LkS w0 w L f):
  Calls prog 31 #[.pointer (some ⟨L.lb,0,none⟩),.pointer (some ⟨L.q.p,0,none⟩)] w λe w'=>e= .returned (.tuple #[])∧LkS w0 w' L f∧Wr (Low L) w w':=by
 refine (fl_use h.lk.lk.raw ⟨L.q.p,0,none⟩).mono ?_
 rintro e w' ⟨rfl,hr,hW⟩
 have hlf:=uf_lf h.lk.lk.raw h.lk.lk.far h.lk.lk.k0.2 hW
 exact ⟨rfl,h.call ⟨⟨hr,use_port h.lk.lk.raw h.lk.lk.far h.lk.lk.port hW,h.lk.lk.far,Nat.le_trans h.lk.lk.top hW.size⟩,h.lk.inv,h.lk.a1⟩ hlf,lk_low hlf⟩
structure LkP (w0 w:World) (L:Lp) (f:FL):Prop where
 raw:FlRaw w L (.pointer none) (.pointer none) (λ_=> .pointer none) f (nxF f)
 port:PortAt w L.q L.hs f.ps
 far:L.gi.hi≤L.q.k0∧∀ c,c<8→L.has c=true→(L.li c).hi≤L.q.k0
 top:L.q.k3≤w.heap.size
 low:w0.heap.size≤L.lo
 wr:Wr Nil w0 w
 inv:∃ H V gg Wg,OrdJ f f.ga f.la H V gg Wg
 a1:L.a1=0
theorem lp_use {w0 w:World} {L:Lp} {f:FL} (h:LkP w0 w L f):
  Calls prog 31 #[.pointer (some ⟨L.lb,0,none⟩),.pointer (some ⟨L.q.p,0,none⟩)] w λe w'=>e= .returned (.tuple #[])∧LkS w0 w' L f∧Wr (Low L) w w':=by
 refine (fl_use h.raw ⟨L.q.p,0,none⟩).mono ?_
 rintro e w' ⟨rfl,hr,hW⟩
 have hk:=h.port.place.le
 have hlf:=uf_lf h.raw h.far (by omega) hW
 exact ⟨rfl,⟨⟨⟨hr,use_port h.raw h.far h.port hW,h.far,Nat.le_trans h.top hW.size⟩,h.inv,h.a1⟩,h.low,h.wr.trans hlf λb hb e=>by have:=h.low;unfold LF Rng at e;unfold Nil;omega⟩,lk_low hlf⟩
def fineB (n:Nat) (hs:List Int) (m:Nat):Bool:=decide (1≤n)&&decide (n≤8)&&homesOK hs&&decide (m≤150)
theorem fineB_no {n:Nat} {hs:List Int} {m:Nat} (h:fineB n hs m=true):1≤n∧n≤8∧homesOK hs=true∧m≤150:=by
 unfold fineB at h
 simpa [and_assoc] using h
theorem fine_any {w:World} {sa:Option Addr} {n cap:Nat} {hs:List Int} (h:RowAt .i64 w sa n hs) (hn:n≤9223372036854775807) (sb:Option Addr) (m cb:Nat) (hm:m≤9223372036854775807):
  Calls prog 8 #[.slice sa n cap,.slice sb m cb] w λe w'=>e= .returned (.bool (fineB n hs m))∧w=w':=by
 have c:=homes_any (cap:=cap) h hn
 clear h
 by_cases h1:1≤n
 ·by_cases h8:n≤8
  ·have k1:(1:Int)≤n:=by omega
   have k8:(n:Int)≤8:=by omega
   cases ho:homesOK hs
   ·have e:fineB n hs m=false:=by unfold fineB;rw [ho,Bool.and_false,Bool.false_and]
    rw [ho] at c
    rw [e]
    clear ho e
    go_enter func8,ntmps8
    go_wp2_with (go_at_call 25;with_reducible refine c.mono ?_;rintro e w' ⟨rfl,rfl⟩)
    go_ret
    exact ⟨rfl,rfl⟩
   ·have e:fineB n hs m=decide (m≤150):=by unfold fineB;rw [ho,decide_eq_true h1,decide_eq_true h8];rfl
    have e2:decide ((m:Int)≤150)=decide (m≤150):=by
     by_cases hq:m≤150
     ·rw [decide_eq_true hq,decide_eq_true (show (m:Int)≤150 by omega)]
     ·rw [decide_eq_false hq,decide_eq_false (show ¬ (m:Int)≤150 by omega)]
    rw [ho] at c
    rw [e]
    clear ho e
    go_enter func8,ntmps8
    go_wp2_with (go_at_call 25;with_reducible refine c.mono ?_;rintro e w' ⟨rfl,rfl⟩)
    go_ret
    exact ⟨by first|rfl|rw [e2],rfl⟩
  ·have e:fineB n hs m=false:=by unfold fineB;rw [decide_eq_false h8,Bool.and_false,Bool.false_and,Bool.false_and]
   rw [e]
   have k1:(1:Int)≤n:=by omega
   have k8:¬ ((n:Int)≤8):=by omega
   clear c e
   go_enter func8,ntmps8
   go_wp2
   go_ret
   exact ⟨rfl,rfl⟩
 ·have e:fineB n hs m=false:=by unfold fineB;rw [decide_eq_false h1,Bool.false_and,Bool.false_and,Bool.false_and]
  rw [e]
  have k1:¬ ((1:Int)≤n):=by omega
  clear c e
  go_enter func8,ntmps8
  go_wp2
  go_ret
  exact ⟨rfl,rfl⟩
def AwakePost (w:World) (e:Ending) (w':World):Prop:=e= .returned (.bool true)∧Wr Nil w w'
def hNo (zs:List Int) (t:Nat):Nat:=(zs.getD t 0).toNat
def cntC (zs:List Int) (n c:Nat):Nat:=cntH (hNo zs) c n
def wordsC (zs:List Int) (n:Nat) (G K:Int):List Int:=List.replicate (8+inZ G 8+lZ K (cntC zs n) 8) 0
def homesC (zs:List Int) (n:Nat) (G K:Int):List Int:=gH G++lH K (cntC zs n) 8
def newC (zs:List Int) (n:Nat) (G K B:Int) (t:Nat):FL:=newCo (hNo zs) n G K B 0 (newS t (wordsC zs n G K))
theorem hNo_of {zs:List Int} {n:Nat} (hl:zs.length=n) (h:homesOK zs=true):∀ t,t<n→zs.getD t 0=(hNo zs t:Nat)∧hNo zs t<8:=λt ht=>by
 unfold homesOK at h
 rw [List.all_eq_true] at h
 have hg:zs.getD t 0∈zs:=by
  rw [List.getD_eq_getElem?_getD,List.getElem?_eq_getElem (show t<zs.length by omega)]
  exact List.getElem_mem _
 have:=h _ hg
 unfold okH at this
 have:=of_decide_eq_true this
 unfold hNo
 omega
theorem cntC_le (zs:List Int) (n c:Nat):cntC zs n c≤n:=cntH_le _ _ _
theorem ok_append {a b:List Int} (ha:homesOK a=true) (hb:homesOK b=true):homesOK (a++b)=true:=by
 unfold homesOK at*
 rw [List.all_append,ha,hb]
 rfl
theorem ok_head {zs:List Int} (h:homesOK zs=true):homesOK [zs.getD 0 0]=true:=by
 cases zs with
 |nil=>decide
 |cons z r=>
  unfold homesOK at*
  simp only [List.all_cons,Bool.and_eq_true] at h
  simp [h.1]
theorem ok_dbl {zs:List Int} (h:homesOK zs=true):homesOK (Km.dbl zs)=true:=by
 unfold homesOK Km.dbl at*
 rw [List.all_eq_true] at*
 intro x hx
 obtain ⟨z,hz,hx⟩:=List.mem_flatMap.1 hx
 have:x=z:=by simpa using hx
 rw [this]
 exact h z hz
theorem ok_inH {K:Int} {zs:List Int} (h:homesOK zs=true):homesOK (inH K zs)=true:=by
 unfold inH
 split
 ·exact ok_append (ok_head h) (ok_head h)
 split
 ·exact ok_append (ok_append (ok_head h) (ok_head h)) h
 ·exact ok_append (ok_head h) (ok_dbl h)
theorem ok_lH (K:Int) (cnt:Nat→Nat):∀ m,m≤8→homesOK (lH K cnt m)=true
 |0,_=>rfl
 |m+1,hm=>by
  unfold lH
  refine ok_append (ok_lH K cnt m (by omega)) ?_
  split
  ·exact ok_inH (ok_rep _ _ (by omega))
  ·rfl
theorem ok_homesC (zs:List Int) (n:Nat) (G K:Int):homesOK (homesC zs n G K)=true:=ok_append (ok_append ok_nodes (ok_inH ok_nodes)) (ok_lH K _ 8 (Nat.le_refl _))
theorem homesC_len (zs:List Int) (n:Nat) (G K:Int):(homesC zs n G K).length=8+inZ G 8+lZ K (cntC zs n) 8:=by unfold homesC;rw [List.length_append,gH_len,lH_len]
theorem sizeC_le {zs:List Int} {n:Nat} (G K:Int) (hn:n≤64):8+inZ G 8+lZ K (cntC zs n) 8≤1200:=by
 have:=inZ_le G 8
 have:=lZ_le K (cntC zs n) 8 λc=>Nat.le_trans (cntC_le zs n c) hn
 omega
theorem wordsC_rng (zs:List Int) (n:Nat) (G K:Int) (j:Nat):0≤(wordsC zs n G K).getD j 0∧(wordsC zs n G K).getD j 0<4294967296:=by
 unfold wordsC
 rw [List.getD_eq_getElem?_getD,List.getElem?_replicate]
 split<;>decide
theorem ord_new (zs:List Int) (n:Nat) {G K B:Int} (hl:zs.length=n) (n8:n≤8) (ho:homesOK zs=true) (hB:1≤B∧B≤1000):OrdJ (newC zs n G K B n) (newC zs n G K B n).ga (newC zs n G K B n).la (λ_=>none) (λ_=>[]) none []:=by
 have hH:=hNo_of hl ho
 have hz:∀ x∈(newS n (wordsC zs n G K)).ws,x=0:=λx hx=>List.eq_of_mem_replicate hx
 have hw:(newS n (wordsC zs n G K)).ws.length=8+inZ G 8+lZ K (cntC zs n) 8:=List.length_replicate
 have pos:∀ t,t<n→0<cntC zs n (hNo zs t):=λt ht=>(cntH_pos _ _ _).2 ⟨t,ht,rfl⟩
 have lm:∀ t,t<n→lZ K (cntC zs n) (hNo zs t)+inZ K (cntC zs n (hNo zs t))≤lZ K (cntC zs n) 8:=λt ht=>lZ_mono K _ (hH t ht).2 (pos t ht)
 refine OrdJ.start n8 hB (by show (List.replicate n 0).length=n;exact List.length_replicate) hz (λt ht=>(hH t ht).2) (λt ht=> ?_) (λt u ht hu e1 e2=>cntH_inj _ e1 e2) (λt ht=> ?_) (λc j=> ?_) ?_ ?_ (λc=> ?_) (by omega) (λt ht=> ?_) (λt u ht hu hne=> ?_)
 ·show cntH (hNo zs) (hNo zs t) t<(newInn K (cntH (hNo zs) (hNo zs t) n) _).s.n
  rw [newInn_s]
  exact cntH_lt _ ht
 ·rw [newInn_on]
  refine newInn_at (Nat.le_trans (cntH_le _ _ _) n8) ?_ hz
  have:=lm t ht
  unfold cntC at this
  rw [hw]
  unfold cntC
  omega
 ·rw [newInn_s];rfl
 ·rw [newInn_on]
  refine newInn_at (by decide) ?_ hz
  rw [hw]
  omega
 ·rw [newInn_s];rfl
 ·rw [newInn_s];rfl
 ·rw [newInn_size]
  omega
 ·rw [newInn_size,newInn_size]
  have h1:=pos t ht
  have h2:=pos u hu
  unfold cntC at h1 h2
  rcases Nat.lt_or_ge (hNo zs t) (hNo zs u) with q|q
  ·left
   have:=lZ_mono K (λc=>cntH (hNo zs) c n) q h1
   omega
  ·right
   have:=lZ_mono K (λc=>cntH (hNo zs) c n) (show hNo zs u<hNo zs t by omega) h2
   omega
def MdPost (w:World) (n:Nat) (zs:List Int) (G K B:Int) (e:Ending) (w':World):Prop:=∃ L:Lp,e= .returned (.tuple #[.pointer (some ⟨L.lb,0,none⟩),.pointer (some ⟨L.q.p,0,none⟩)])∧LkS w w' L (newC zs n G K B n)∧L.a1=0∧L.hs=homesC zs n G K
def PtPost (w0:World) (n:Nat) (zs:List Int) (G K B:Int) (lb:Nat) (e:Ending) (w':World):Prop:=∃ L:Lp,e= .returned (.tuple #[.pointer (some ⟨L.q.p,0,none⟩),.int .i64 0])∧(L.a1=0∧LkP w0 w' L (newC zs n G K B n))∧L.lb=lb∧L.hs=homesC zs n G K
theorem nxF_new (zs:List Int) (n:Nat) (G K B:Int) (t:Nat):nxF (newC zs n G K B n) t=callsV:=by
 unfold nxF
 rfl
theorem fl_port {w0 w w1:World} {q q':Pl} {n:Nat} {zs:List Int} {G K B:Int} {L0:Lp} (h0:Wr Nil w0 w) (hq:∀ k,q.F k→w0.heap.size≤k) (n1:1≤n) (n2:n≤8) (ho:homesOK zs=true) (hn:zs.length=n) (hB:1≤B∧B≤1000)
  (hR:∀ ps,FlRaw w1 L0 (.pointer none) (.pointer none) (λ_=> .pointer none) (newCo (hNo zs) n G K B 0 ps) (λ_=>callsV)) (hl:w.heap.size≤L0.lo) (h1:L0.a1=0) (hqq:q'.p=q.p) (hP:PlanAt w1 q' n (homesC zs n G K) (wordsC zs n G K)) (hW:Wr q.F w w1):
  Calls prog 30 #[.pointer (some ⟨q.p,0,none⟩)] w1 (PtPost w0 n zs G K B L0.lb):=by
 have c:=plport_good hP (λj=>wordsC_rng zs n G K j) n1 (by omega) (by rw [homesC_len];have:=sizeC_le (zs:=zs) G K (show n≤64 by omega);omega) (ok_homesC zs n G K)
 rw [hqq] at c
 refine c.mono ?_
 rintro e w' ⟨qq,rfl,hA,hk0,hk3,hW2⟩
 have s0:=h0.size
 have hr0:=hR (newS n (wordsC zs n G K))
 have hr:=(hr0.wrote hW2 λ_ _ _=>id).place qq (homesC zs n G K)
 refine ⟨{L0 with q:=qq,hs:=homesC zs n G K},rfl,⟨h1,⟨hr.same λt _=>(nxF_new zs n G K B t).symm,hA,⟨?_,λc hc hh=> ?_⟩,hk3,by dsimp only;omega,(h0.trans hW λk hk e=>by have:=hq k e;unfold Nil;omega).nil hW2,?_,h1⟩⟩,rfl,rfl⟩
 ·have:=hr0.glo.le
  dsimp only
  omega
 ·have:=(hr0.loc c hc hh).le
  dsimp only
  omega
 ·exact ⟨_,_,_,_,ord_new zs n hn n2 ho hB⟩
theorem fl_made {w:World} {b o n cap:Nat} {zs:List Int} {G K B:Int} (hr:RowAt .i64 w (some ⟨b,o,none⟩) n zs) (hb:b<w.heap.size) (ho:homesOK zs=true) (n1:1≤n) (n2:n≤8) (hc:rightB G K B=true):
  Calls prog 11 #[.slice (some ⟨b,o,none⟩) n cap,.agg #[.int .i64 G,.int .i64 K,.int .i64 B]] w (MdPost w n zs G K B):=by
 have hB:1≤B∧B≤1000:=by
  have hc':=hc
  unfold rightB at hc'
  simp only [Bool.and_eq_true,decide_eq_true_eq] at hc'
  exact ⟨hc'.1.2,hc'.2⟩
 obtain ⟨X,hX⟩:∃ X,X=w.alloc (.cells #[.int .i64 G,.int .i64 K,.int .i64 B] 24):=⟨_,rfl⟩
 have hWX:Wr Nil w X:=by rw [hX];exact (Wr.refl _ w).alloc _
 have hblk:X.heap[w.heap.size]? =some (.cells #[.int .i64 G,.int .i64 K,.int .i64 B] 24 (0,0)):=by rw [hX];exact blk_alloc_new _ _
 have HH:=Lib.hid (And.intro (hr.after hWX) (And.intro (show b<X.heap.size from Nat.lt_of_lt_of_le hb hWX.size) (And.intro ho (And.intro hblk hWX))))
 have HL:=Lib.hid (And.intro hr.len hB)
 have HX:=Lib.hid hX
 have cP:=λW=>plnew_any (n:Int) W
 clear hr hb ho hWX hblk hX
 go_enter func11,ntmps11
 go_wp2_with (first
  |(go_at_call 22;rw [←HX.out];(with_reducible refine (cP _).mono ?_);rintro e w1 ⟨q,rfl,hP,hnew,hW1⟩;have hbk:=(hW1.block _ (blk_lt HH.out.2.2.2.1) id).trans HH.out.2.2.2.1;have k0:w1.cell? ⟨w.heap.size,0,none⟩=some (.int .i64 G):=(blk_cell hbk 0).trans rfl;have k1:w1.cell? ⟨w.heap.size,1,none⟩=some (.int .i64 K):=(blk_cell hbk 1).trans rfl;have k2:w1.cell? ⟨w.heap.size,2,none⟩=some (.int .i64 B):=(blk_cell hbk 2).trans rfl;have H1:=Lib.hid (And.intro hP (And.intro hnew hW1));clear hP hnew hW1 hbk)
  |(go_at_call 24;(with_reducible refine (fn_new H1.out.1 (HH.out.1.after H1.out.2.2) HH.out.2.2.1 (hNo_of HL.out.1 HH.out.2.2.1) n1 (by omega) (Nat.zero_le _) (λe=>by have:=H1.out.2.1 _ e;have:=HH.out.2.1;omega) (Nat.lt_of_lt_of_le HH.out.2.1 H1.out.2.2.size) hc).mono ?_);intro e w2 hq;unfold NewCoPost at hq;obtain ⟨L0,q2,he,hR,hl,ha1,hqq,hP2,hW2,hC2⟩:=hq;obtain ⟨lb,hlb0⟩:∃ lb,lb=L0.lb:=⟨_,rfl⟩;rw [←hlb0] at he;subst he;have cQ:=fl_port (w0:=X) (zs:=zs) (B:=B) H1.out.2.2 H1.out.2.1 n1 n2 HH.out.2.2.1 HL.out.1 HL.out.2 hR hl ha1 hqq hP2 hW2;rw [←hlb0] at cQ;clear hR hl ha1 hqq hP2 hW2 hC2 hlb0)
  |(go_at_call 30;(with_reducible refine cQ.mono ?_);clear cQ;intro e w3 hq;unfold PtPost at hq;obtain ⟨L,rfl,⟨ha1,hL⟩,hlb,hhs⟩:=hq;subst hlb;have HA:=Lib.hid (And.intro ha1 hhs);have H2:=Lib.hid hL;clear ha1 hL hhs)
  |(go_at_call 31;((with_reducible refine (lp_use H2.out).mono ?_);rintro e w4 ⟨rfl,hL,_⟩;have H3:=Lib.hid hL;clear hL)))
 go_ret2
 exact ⟨L,rfl,⟨H3.out.lk,by have:=H3.out.low;have:=HH.out.2.2.2.2.size;omega,HH.out.2.2.2.2.nil H3.out.wr⟩,HA.out⟩
def exG (L:Lp):Nat→FL
 |0=>(newC [3] 1 1 1 1 1).lock 0 (-1)
 |i+1=>(exG L i).step L 0 0
structure ExAll (L:Lp):Prop where
 l1:lockE (newC [3] 1 1 1 1 1).s 0 (-1)=0
 dd:∀ i:Nat,i<5→(exG L i).did L 0 0=⟨0,(i:Int)==0,(i:Int)==3,false⟩
 d5:(exG L 5).did L 0 0=⟨1,false,false,true⟩
 dG:∀ i:Nat,i<6→(exG L i).ps.D.length<4611686018427387904
theorem dd_of {a b:Dd} (h:(a.ev==b.ev&&a.enq==b.enq&&a.arr==b.arr&&a.lead==b.lead)=true):a=b:=by
 cases a;cases b
 simpa [and_assoc] using h
theorem ex_all (L:Lp) (h1:L.a1=0):ExAll L:=by
 obtain ⟨a,b,c,d,x,y,q,hs,lo,gi,li,hh⟩:=L
 obtain rfl:x=0:=h1
 refine ⟨by decide,λi hi=> ?_,by kernel_rfl,λi hi=> ?_⟩
 ·have:i=0∨i=1∨i=2∨i=3∨i=4:=by omega
  rcases this with rfl|rfl|rfl|rfl|rfl<;>exact dd_of (by kernel_rfl)
 ·have:i=0∨i=1∨i=2∨i=3∨i=4∨i=5:=by omega
  rcases this with rfl|rfl|rfl|rfl|rfl|rfl<;>exact of_decide_eq_true (by kernel_rfl)
theorem rowO (w:World) (x:Int):RowAt .i64 (w.alloc (.cells #[.int .i64 x] 3)) (some ⟨w.heap.size,0,none⟩) 1 [x]:=by
 refine ⟨rfl,λe=>(by cases e),λb hb j hj=> ?_⟩
 have e:j=0:=by omega
 subst e
 cases hb
 exact (blk_cell (blk_alloc_new w (.cells #[.int .i64 x] 3)) 0).trans rfl
theorem fl_awake (w:World):Calls prog 10 #[] w (AwakePost w):=by
 obtain ⟨W0,hW0⟩:∃ W0,W0=w.alloc (.cells #[.int .i64 3] 3):=⟨_,rfl⟩
 have cM:Calls prog 11 #[.slice (some ⟨w.heap.size,0,none⟩) 1 1,.agg #[.int .i64 1,.int .i64 1,.int .i64 1]] W0 (MdPost W0 1 [3] 1 1 1):=fl_made (w:=W0) (cap:=1) (by rw [hW0];exact rowO w 3) (by rw [hW0,nblk_alloc];omega) (zs:=[3]) (by decide) (by decide) (by decide) (by decide)
 have hWz:Wr Nil w W0:=by rw [hW0];exact (Wr.refl _ w).alloc _
 have HW:=Lib.hid hWz
 rw [hW0] at cM
 have H00:=Lib.hid hW0
 clear hWz hW0
 go_enter func10,ntmps10
 go_wp2_with (first
  |(go_at_call 11;(with_reducible refine cM.mono ?_);intro e w1 hq;unfold MdPost at hq;obtain ⟨L,rfl,hL,h1,_⟩:=hq;rw [←H00.out] at hL;have c0:=hL.cell0;have HA:=Lib.hid (ex_all L h1);have H1:=Lib.hid hL;clear hL h1)
  |(go_at_call 18;(with_reducible refine (ls_lock H1.out 0 (-1)).mono ?_);intro e w2 hq;unfold LsPost at hq;obtain ⟨rfl,hL,_⟩:=hq;rw [HA.out.l1];have H2:=Lib.hid (show LkS W0 w2 L (exG L 0) from hL);clear hL))
 clear H1
 go_loopw [3,21] (λ_ i wr=>∃ k:Nat,k≤5∧i= .int .i64 k∧LkS W0 wr L (exG L k)) (λ_ i _=>5-(intOf i).toNat)
 case atStart=>exact ⟨0,Nat.zero_le _,rfl,H2.out⟩
 case round=>
  clear H2
  obtain ⟨k,hk,rfl,hL⟩:=hrel
  by_cases hlt:k<5
  ·have jk:(k:Int)<5:=by omega
   have HL:=Lib.hid hL
   have HK:=Lib.hid (And.intro (HA.out.dG k (by omega)) (HA.out.dd k hlt))
   clear hL
   go_wp2_with (go_at_call 20;(with_reducible refine (ls_step HL.out 0 0 0 HK.out.1).mono ?_);intro e w3 hq;unfold LsPost at hq;obtain ⟨rfl,hL,_⟩:=hq;rw [HK.out.2];dsimp only [Dd.val];have H3:=Lib.hid (show LkS W0 w3 L (exG L (k+1)) from hL);clear hL)
   go_roundw
   case rel=>exact ⟨k+1,by omega,by go_num,H3.out⟩
   case measure=>simp [intOf];omega
  ·obtain rfl:k=5:=by omega
   have HL:=Lib.hid hL
   have HK:=Lib.hid (HA.out.dG 5 (by omega))
   clear hL
   go_wp2_with (go_at_call 20;(with_reducible refine (ls_step HL.out 0 0 0 HK.out).mono ?_);intro e w3 hq;unfold LsPost at hq;obtain ⟨rfl,hL,_⟩:=hq;rw [HA.out.d5];dsimp only [Dd.val];have H3:=Lib.hid hL;clear hL)
   go_ret
   exact ⟨rfl,HW.out.nil H3.out.wr⟩
end Go.Proofs.YtkmikkjjnbikdaaGreat

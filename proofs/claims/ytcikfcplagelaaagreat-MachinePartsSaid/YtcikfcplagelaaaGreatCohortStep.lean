
import Derived.Test.YtcikfcplagelaaaGreatCohLeaves
namespace Go.Proofs.YtcikfcplagelaaaGreat
set_option maxHeartbeats 8000000
open _root_.Go.Proofs.Tryz
open Go.RowKit Go.BigFrame
set_option linter.unusedVariables false
set_option maxRecDepth 100000
def nxN (x p l:Int):Nat:=
 if x=1 then (if p=0 then (if l=0 then 123 else 138) else if p=1 then 143 else if p=2 then 149 else 155)
 else if x=3 then (if p=0 then 148 else if p=1 then 154 else if p=2 then 160 else if p=3 then 153 else if p=4 then 159 else 164)
 else if x=2 then 148 else 123
def nxF (f:FL) (t:Nat):Value:= .func (.func (nxN (f.s.st t) (f.ph t) ((f.Lc (f.nd t)).s.st (f.own t)))) #[] #[]
theorem fin_off (s:SS) {k j:Nat} (ev:Int) (h:j≠k):(s.fin (k:Nat) ev).st j=s.st j:=by
 unfold SS.fin
 split
 ·unfold SS.set;exact upd_other _ _ (by simpa using h)
 ·rfl
theorem lock_off (s:SS) {k j:Nat} (d:Int) (h:j≠k):(s.lock (k:Nat) d).st j=s.st j:=by
 unfold SS.lock
 split
 ·unfold SS.set;exact upd_other _ _ (by simpa using h)
 ·rfl
theorem turn_off (s:SS) {k j:Nat} (x:Int) (h:j≠k):(s.turn (k:Nat) x).st j=s.st j:=by
 unfold SS.turn
 split
 ·unfold SS.set;exact upd_other _ _ (by simpa using h)
 ·rfl
theorem lk_s (f:FL) (c:Nat):(f.lk c).s=(f.Lc c).s:=Inn.on_s _
theorem ask_off (f:FL) (k:Nat) {j:Nat} (h:j≠f.own k):(f.ask k).s.st j=(f.Lc (f.nd k)).s.st j:=by
 unfold FL.ask
 split
 ·rw [Inn.lock_s,lk_s];exact lock_off _ _ h
 ·rw [lk_s]
theorem upd_loc {g:Nat→Inn} {c c' j:Nat} {y:Inn} (h:c'=c→y.s.st j=(g c).s.st j):((upd g c y) c').s.st j=(g c').s.st j:=by
 by_cases e:c'=c
 ·subst e;rw [upd_same];exact h rfl
 ·rw [upd_other _ _ e]
theorem mid_loc (f:FL) (L:Lp) (k:Nat) (u:Int) {c j:Nat} (h:c≠f.nd k∨j≠f.own k):((f.mid L k u).Lc c).s.st j=(f.Lc c).s.st j:=by
 have hj:c=f.nd k→j≠f.own k:=λe=>h.resolve_left λq=>q e
 unfold FL.mid FL.acq FL.rel
 simp only [Int.toNat_natCast]
 repeat' split
 all_goals first
  |rfl
  |exact upd_loc λe=>by rw [Inn.step_s,fin_off _ _ (hj e)];first|exact ask_off f k (hj e)|rw [lk_s]
  |exact upd_loc λe=>by rw [Inn.turn_s,turn_off _ _ (hj e)]
theorem mid_ph (f:FL) (L:Lp) (k:Nat) (u:Int) {t:Nat} (h:t≠k):(f.mid L k u).ph t=f.ph t:=by
 unfold FL.mid FL.acq FL.rel
 simp only [Int.toNat_natCast]
 repeat' split
 all_goals first|rfl|exact upd_other _ _ h
theorem step_far {f:FL} {L:Lp} {ga:Nat} {la:Nat→Nat} {H:Nat→Option Nat} {V:Nat→List Nat} {gg:Option Nat} {Wg:List Nat} (hJ:OrdJ f ga la H V gg Wg) {k t:Nat} (hk:k<f.s.n) (ht:t<f.s.n) (h:t≠k) (u:Int):nxF (f.step L k u) t=nxF f t:=by
 obtain ⟨e1,e2,e3,e4⟩:=f.mid_s L k u
 have a1:(f.step L k u).s.st t=f.s.st t:=fin_off _ _ h
 have a2:(f.step L k u).ph t=f.ph t:=by
  show (if endB f.s k (f.did L k u).ev=true then upd (f.mid L k u).ph (k:Int).toNat 0 else (f.mid L k u).ph) t=_
  split
  ·rw [upd_other _ _ (by simpa using h)];exact mid_ph f L k u h
  ·exact mid_ph f L k u h
 have a3:(f.step L k u).nd=f.nd:=e2
 have a4:(f.step L k u).own=f.own:=e3
 have a5:((f.step L k u).Lc (f.nd t)).s.st (f.own t)=(f.Lc (f.nd t)).s.st (f.own t):=by
  refine mid_loc f L k u ?_
  by_cases q:f.nd t=f.nd k
  ·exact .inr λe=>h (hJ.cor.inj t k ht hk q e)
  ·exact .inl q
 unfold nxF
 rw [a1,a2,a3,a4,a5]
section
variable {w:World} {L:Lp} {f:FL} {ga:Nat} {la:Nat→Nat} {H:Nat→Option Nat} {V:Nat→List Nat} {gg:Option Nat} {Wg:List Nat}
theorem go_fin {f1:FL} {nx1:Nat→Value} {v:Value} {k:Nat} {e:Ending} {w':World} (hJ:OrdJ f ga la H V gg Wg) (hk:k<f.s.n) (hp:LmPost w L f1 nx1 v e w') (hv:v=(f.did L k k).val) (hm:∃ p,f.mid L k k={f1 with ph:=p})
  (hn:∀ t,t≠k→nx1 t=nxF f t) (hn1:nx1 k=nxF (f.step L k k) k):LmPost w L (f.mid L k k) (nxF (f.step L k k)) (f.did L k k).val e w':=by
 obtain ⟨rfl,h1,h2⟩:=hp
 obtain ⟨p,hm⟩:=hm
 have hs:f1.s=f.s:=by have:=(f.mid_s L k k).1;rw [hm] at this;exact this
 refine ⟨by rw [hv],?_,h2⟩
 rw [hm]
 refine (h1.same λt ht=> ?_).phs p
 rw [hs] at ht
 by_cases q:t=k
 ·subst q;exact hn1
 ·rw [hn t q,step_far hJ hk ht q]
theorem go_any {F:Nat} {f':FL} {nx nx':Nat→Value} {d:Dd} (hF:∀ (args:Array Value) (w:World),(callFunc F args).run prog w= .ok (.enter F args) w) (h:LkM w L f nx) {k:Nat} (hk:k<f.s.n) (u:Int) (hn:nx k= .func (.func F) #[] #[])
  (cF:∀ W,LkM W L f nx→Calls prog F #[.pointer (some ⟨L.lb,0,none⟩),.pointer (some ⟨L.tb,k*4,none⟩),.int .i64 u] W (LmPost W L f' nx' d.val)):
  Calls prog 272 #[.pointer (some ⟨L.lb,0,none⟩),.int .i64 (k:Nat),.int .i64 u] w (LmPost w L f' nx' d.val):=by
 have hFr:=Fr.start h
 obtain ⟨Z,hZ⟩:∃ Z,Z=w.alloc (.cells #[.int .i64 0,.bool false,.bool false,.bool false] 228):=⟨_,rfl⟩
 rw [←hZ] at hFr
 have c13:=hFr.lk.raw.cell13
 have cN:=hFr.lk.raw.cx2 hk
 rw [hn] at cN
 rw [hZ] at c13
 have cF:=cF _ hFr.lk
 have hkI:(k:Int)<f.s.n:=by omega
 have hn64:=h.raw.seat.n2
 have HE:=Lib.hid (And.intro h (And.intro hk hFr))
 have HZ:=Lib.hid hZ
 rw [hZ] at cN
 clear h hFr hn hZ
 go_enter func272,ntmps272
 go_wp2_with ((rw [←HZ.out];with_reducible refine cF.mono ?_);intro e w2 hq;unfold LmPost at hq;obtain ⟨rfl,hA,hW⟩:=hq;dsimp only [Dd.val];have h3:=Fr.call HE.out.1 HE.out.2.2 hA hW;obtain ⟨v0,v1,v2,v3⟩:=h3.cell;obtain ⟨x0,x1,x2,x3⟩:=h3.frz;have HU:=Lib.hid h3;clear h3 hA hW)
 refine bodyPost_ret (v:=Dd.val d) (results_cell_row rfl _ _ w.heap.size 228 _ (0,0) _ rfl (set4 HU.out.res rfl _ _ _ _) underlying228 rfl i_did) rfl (HU.out.told HE.out.1 d)
theorem en_calls (args:Array Value) (w:World):(callFunc 123 args).run prog w= .ok (.enter 123 args) w:=by kernel_rfl
theorem en_queues (args:Array Value) (w:World):(callFunc 138 args).run prog w= .ok (.enter 138 args) w:=by kernel_rfl
theorem en_looks (args:Array Value) (w:World):(callFunc 143 args).run prog w= .ok (.enter 143 args) w:=by kernel_rfl
theorem en_arrives (args:Array Value) (w:World):(callFunc 149 args).run prog w= .ok (.enter 149 args) w:=by kernel_rfl
theorem en_leads (args:Array Value) (w:World):(callFunc 155 args).run prog w= .ok (.enter 155 args) w:=by kernel_rfl
theorem en_counts (args:Array Value) (w:World):(callFunc 148 args).run prog w= .ok (.enter 148 args) w:=by kernel_rfl
theorem en_asks (args:Array Value) (w:World):(callFunc 154 args).run prog w= .ok (.enter 154 args) w:=by kernel_rfl
theorem en_keeps (args:Array Value) (w:World):(callFunc 160 args).run prog w= .ok (.enter 160 args) w:=by kernel_rfl
theorem en_ends (args:Array Value) (w:World):(callFunc 153 args).run prog w= .ok (.enter 153 args) w:=by kernel_rfl
theorem en_yields (args:Array Value) (w:World):(callFunc 159 args).run prog w= .ok (.enter 159 args) w:=by kernel_rfl
theorem en_leaves (args:Array Value) (w:World):(callFunc 164 args).run prog w= .ok (.enter 164 args) w:=by kernel_rfl
end
section
variable {w:World} {L:Lp} {f:FL} {ga:Nat} {la:Nat→Nat} {H:Nat→Option Nat} {V:Nat→List Nat} {gg:Option Nat} {Wg:List Nat} {k:Nat}
theorem nx_is {f:FL} {k:Nat} {x p l:Int} (hx:f.s.st k=x) (hp:f.ph k=p) (hl:(f.Lc (f.nd k)).s.st (f.own k)=l) {F:Nat} (e:nxN x p l=F):nxF f k= .func (.func F) #[] #[]:=by
 unfold nxF
 rw [hx,hp,hl,e]
theorem up2 {nx:Nat→Value} {a b:Value}:∀ t,t≠k→upd (upd nx k a) k b t=nx t:=λt ht=>by rw [upd_other _ _ ht,upd_other _ _ ht]
theorem up1 {nx:Nat→Value} {a:Value}:∀ t,t≠k→upd nx k a t=nx t:=λt ht=>upd_other _ _ ht
theorem ask_is (hJ:OrdJ f ga la H V gg Wg) (hk:k<f.s.n) (s1:f.s.st k=1) (p0:f.ph k=0):((f.Lc (f.nd k)).s.st (f.own k)=0∨(f.Lc (f.nd k)).s.st (f.own k)=1)∧(f.ask k).s.st (f.own k)=1∧(((f.ask k).did (f.la (f.nd k):Nat) (f.own k:Nat) (k:Nat)).ev=0∨((f.ask k).did (f.la (f.nd k):Nat) (f.own k:Nat) (k:Nat)).ev=1):=by
 have ho:=hJ.own k hk
 have hl:(f.Lc (f.nd k)).s.st (f.own k)=0∨(f.Lc (f.nd k)).s.st (f.own k)=1:=by
  have hx:=hJ.cor.cx k hk
  cases hx with
  |loc hx hp hl=>exact hl
  |_=>omega
 have ya:(f.ask k).s.st (f.own k)=1∧(f.ask k).s.n=(f.Lc (f.nd k)).s.n:=by
  unfold FL.ask
  rcases hl with e|e
  ·rw [if_pos e,Inn.lock_s,lk_s,lock_st ho e,upd_same]
   exact ⟨rfl,SS.lock_n _ _ _⟩
  ·rw [if_neg (by omega),lk_s]
   exact ⟨e,rfl⟩
 exact ⟨hl,ya.1,((Inn.did_at (x:=f.ask k) (k:=f.own k) (u:=k) (f.la (f.nd k):Nat) (by rw [ya.2];exact ho)).1 ya.1).1⟩
theorem p0_step (hJ:OrdJ f ga la H V gg Wg) (hk:k<f.s.n) (s1:f.s.st k=1) (p0:f.ph k=0):nxF (f.step L k k) k=(if ((f.ask k).did (f.la (f.nd k):Nat) (f.own k:Nat) (k:Nat)).ev=1 then (.func (.func 143) #[] #[]) else (.func (.func 138) #[] #[]):Value):=by
 obtain ⟨hl,ya,hd⟩:=ask_is hJ hk s1 p0
 obtain ⟨ed,em⟩:=OrdJ.at_one (L:=L) (u:=(k:Int)) hk s1
 have ed2:(f.did L k k).ev=0:=by rw [ed];unfold FL.acqD;rw [if_pos p0]
 have em2:f.mid L k k={f with Lc:=upd f.Lc (f.nd k) ((f.ask k).step (f.la (f.nd k):Nat) (f.own k:Nat) (k:Nat)),ph:=upd f.ph k ((f.ask k).did (f.la (f.nd k):Nat) (f.own k:Nat) (k:Nat)).ev,ps:=((f.ask k).step (f.la (f.nd k):Nat) (f.own k:Nat) (k:Nat)).ps}:=by rw [em];unfold FL.acq;rw [if_pos p0]
 have es:=OrdJ.on_step (L:=L) (u:=(k:Int)) (k:=k) ed2 em2 (by rw [s1];rfl)
 rw [es]
 rcases hd with e|e
 ·rw [if_neg (by omega)]
  refine nx_is (x:=1) (p:=0) (l:=1) (by exact s1) ?_ ?_ rfl
  ·show upd f.ph k _ k=0
   rw [upd_same,e]
  ·show (upd f.Lc (f.nd k) _ (f.nd k)).s.st (f.own k)=1
   rw [upd_same,Inn.step_s,e,(fin_none' (by rw [ya];rfl)).1]
   exact ya
 ·rw [if_pos e]
  refine nx_is (x:=1) (p:=1) (by exact s1) ?_ rfl rfl
  show upd f.ph k _ k=1
  rw [upd_same,e]
theorem go_calls (h:LkM w L f (nxF f)) (hJ:OrdJ f ga la H V gg Wg) (hk:k<f.s.n) (s1:f.s.st k=1) (p0:f.ph k=0) (hD:f.ps.D.length<4611686018427387904) (l0:(f.Lc (f.nd k)).s.st (f.own k)=0):Calls prog 272 #[.pointer (some ⟨L.lb,0,none⟩),.int .i64 (k:Nat),.int .i64 (k:Nat)] w (LmPost w L (f.mid L k k) (nxF (f.step L k k)) (f.did L k k).val):=by
 obtain ⟨hl,ya,hd⟩:=ask_is hJ hk s1 p0
 obtain ⟨ed,em⟩:=OrdJ.at_one (L:=L) (u:=(k:Int)) hk s1
 have hst:=p0_step (L:=L) hJ hk s1 p0
 obtain ⟨f1,hf1⟩:∃ f1,f1=({f with Lc:=upd f.Lc (f.nd k) ((f.Lc (f.nd k)).lock (f.own k:Nat) (-1))}:FL):=⟨_,rfl⟩
 have ea:f1.lk (f1.nd k)=f.ask k:=by
  rw [hf1]
  unfold FL.ask FL.lk
  rw [if_pos l0]
  show (upd f.Lc (f.nd k) _ (f.nd k)).on f.ps=_
  rw [upd_same,Inn.lock_on]
 have e1:f1.la (f1.nd k)=f.la (f.nd k)∧f1.own k=f.own k:=by rw [hf1];exact ⟨rfl,rfl⟩
 refine (go_any en_calls h hk k (nx_is s1 p0 l0 rfl) λW q=>fl_calls q hk k hD hf1).mono λe w' hp=>go_fin hJ hk hp ?_ ?_ ?_ ?_
 ·rw [ea,e1.1,e1.2,ed]
  unfold FL.acqD
  rw [if_pos p0]
 ·refine ⟨upd f.ph k ((f.ask k).did (f.la (f.nd k):Nat) (f.own k:Nat) (k:Nat)).ev,?_⟩
  rw [ea,e1.1,e1.2,em]
  unfold FL.acq
  rw [if_pos p0,hf1]
  show _=({f with Lc:=upd (upd f.Lc (f.nd k) _) (f.nd k) _,ph:=_,ps:=_}:FL)
  rw [upd_upd]
 ·intro t ht
  split
  ·exact up2 t ht
  ·exact up1 t ht
 ·rw [hst,ea,e1.1,e1.2]
  split
  ·rw [upd_same]
  ·rw [upd_same]
theorem go_queues (h:LkM w L f (nxF f)) (hJ:OrdJ f ga la H V gg Wg) (hk:k<f.s.n) (s1:f.s.st k=1) (p0:f.ph k=0) (hD:f.ps.D.length<4611686018427387904) (l1:(f.Lc (f.nd k)).s.st (f.own k)≠0):Calls prog 272 #[.pointer (some ⟨L.lb,0,none⟩),.int .i64 (k:Nat),.int .i64 (k:Nat)] w (LmPost w L (f.mid L k k) (nxF (f.step L k k)) (f.did L k k).val):=by
 obtain ⟨hl,ya,hd⟩:=ask_is hJ hk s1 p0
 obtain ⟨ed,em⟩:=OrdJ.at_one (L:=L) (u:=(k:Int)) hk s1
 have hst:=p0_step (L:=L) hJ hk s1 p0
 have ea:f.lk (f.nd k)=f.ask k:=by unfold FL.ask;rw [if_neg l1]
 have l2:(f.Lc (f.nd k)).s.st (f.own k)=1:=by omega
 have h0:nxF f k=(.func (.func 138) #[] #[]):=nx_is s1 p0 l2 rfl
 refine (go_any en_queues h hk k h0 λW q=>fl_queues q hk k hD).mono λe w' hp=>go_fin hJ hk hp ?_ ?_ ?_ ?_
 ·rw [ea,ed]
  unfold FL.acqD
  rw [if_pos p0]
 ·refine ⟨upd f.ph k ((f.ask k).did (f.la (f.nd k):Nat) (f.own k:Nat) (k:Nat)).ev,?_⟩
  rw [ea,em]
  unfold FL.acq
  rw [if_pos p0]
 ·intro t ht
  split
  ·exact up1 t ht
  ·rfl
 ·rw [hst,ea]
  split
  ·rw [upd_same]
  ·exact h0
theorem go_looks (h:LkM w L f (nxF f)) (hJ:OrdJ f ga la H V gg Wg) (hk:k<f.s.n) (s1:f.s.st k=1) (p1:f.ph k=1) (hD:f.ps.D.length<4611686018427387904):Calls prog 272 #[.pointer (some ⟨L.lb,0,none⟩),.int .i64 (k:Nat),.int .i64 (k:Nat)] w (LmPost w L (f.mid L k k) (nxF (f.step L k k)) (f.did L k k).val):=by
 obtain ⟨ed,em⟩:=OrdJ.at_one (L:=L) (u:=(k:Int)) hk s1
 unfold FL.acqD at ed
 unfold FL.acq at em
 rw [if_neg (by omega),if_pos p1] at ed em
 have h0:nxF f k=(.func (.func 143) #[] #[]):=nx_is s1 p1 rfl rfl
 refine (go_any en_looks h hk k h0 λW q=>fl_looks q hk k hD).mono λe w' hp=>go_fin hJ hk hp ?_ ?_ ?_ ?_
 ·rw [ed]
 ·rw [em]
  split
  ·exact ⟨_,rfl⟩
  ·exact ⟨f.ph,rfl⟩
 ·intro t ht
  split<;>exact up1 t ht
 ·by_cases hv:(tellS f.ps (k:Nat) 1 (L.pA (f.nd k)))=0
  ·rw [if_pos hv,upd_same]
   rw [if_pos hv] at ed em
   have es:=OrdJ.on_step (L:=L) (u:=(k:Int)) (k:=k) (by rw [ed]) em (by rw [s1];rfl)
   rw [es]
   exact (nx_is (x:=1) (p:=2) (by exact s1) (upd_same _ _ _) rfl rfl).symm
  ·rw [if_neg hv,upd_same]
   rw [if_neg hv] at ed em
   have es:=OrdJ.end_step (L:=L) (u:=(k:Int)) (k:=k) (y:=2) hk (by rw [ed]) em (by rw [s1];rfl)
   rw [es]
   exact (nx_is (x:=2) (p:=0) (upd_same _ _ _) (upd_same _ _ _) rfl rfl).symm
theorem go_arrives (h:LkM w L f (nxF f)) (hJ:OrdJ f ga la H V gg Wg) (hk:k<f.s.n) (s1:f.s.st k=1) (p2:f.ph k=2) (hD:f.ps.D.length<4611686018427387904):Calls prog 272 #[.pointer (some ⟨L.lb,0,none⟩),.int .i64 (k:Nat),.int .i64 (k:Nat)] w (LmPost w L (f.mid L k k) (nxF (f.step L k k)) (f.did L k k).val):=by
 obtain ⟨ed,em⟩:=OrdJ.at_one (L:=L) (u:=(k:Int)) hk s1
 unfold FL.acqD at ed
 unfold FL.acq at em
 rw [if_neg (by omega),if_neg (by omega),if_pos p2] at ed em
 have h0:nxF f k=(.func (.func 149) #[] #[]):=nx_is s1 p2 rfl rfl
 have hc:=hJ.cor.ndl k hk
 have hg:f.G.s.st (f.nd k)=1:=by
  have hx:=hJ.cor.cx k hk
  cases hx with
  |glo hx hp hl hq he=>exact he
  |_=>omega
 have hd:=((Inn.did_at (x:=f.gl) (k:=f.nd k) (u:=k) (f.ga:Nat) (by unfold FL.gl;rw [Inn.on_s,hJ.gn];exact hc)).1 (by unfold FL.gl;rw [Inn.on_s];exact hg)).1
 have es:=OrdJ.on_step (L:=L) (u:=(k:Int)) (k:=k) (by rw [ed]) em (by rw [s1];rfl)
 refine (go_any en_arrives h hk k h0 λW q=>fl_arrives q hk k hD).mono λe w' hp=>go_fin hJ hk hp ?_ ?_ ?_ ?_
 ·rw [ed]
 ·rw [em];exact ⟨_,rfl⟩
 ·intro t ht
  split
  ·exact up1 t ht
  ·rfl
 ·rw [es]
  rcases hd with e|e
  ·rw [if_neg (by omega)]
   exact h0.trans (nx_is (x:=1) (p:=2) (by exact s1) ((upd_same _ _ _).trans (by rw [e];rfl)) rfl rfl).symm
  ·rw [if_pos e,upd_same]
   exact (nx_is (x:=1) (p:=3) (by exact s1) ((upd_same _ _ _).trans (by rw [e];rfl)) rfl rfl).symm
theorem go_leads (h:LkM w L f (nxF f)) (hJ:OrdJ f ga la H V gg Wg) (hk:k<f.s.n) (s1:f.s.st k=1) (p3:f.ph k=3) (hD:f.ps.D.length<4611686018427387904):Calls prog 272 #[.pointer (some ⟨L.lb,0,none⟩),.int .i64 (k:Nat),.int .i64 (k:Nat)] w (LmPost w L (f.mid L k k) (nxF (f.step L k k)) (f.did L k k).val):=by
 obtain ⟨ed,em⟩:=OrdJ.at_one (L:=L) (u:=(k:Int)) hk s1
 unfold FL.acqD at ed
 unfold FL.acq at em
 rw [if_neg (by omega),if_neg (by omega),if_neg (by omega)] at ed em
 have h0:nxF f k=(.func (.func 155) #[] #[]):=nx_is s1 p3 rfl rfl
 have es:=OrdJ.end_step (L:=L) (u:=(k:Int)) (k:=k) (y:=2) hk (by rw [ed]) em (by rw [s1];rfl)
 refine (go_any en_leads h hk k h0 λW q=>fl_leads q hk k hD).mono λe w' hp=>go_fin hJ hk hp ?_ ?_ up1 ?_
 ·rw [ed]
 ·rw [em];exact ⟨f.ph,rfl⟩
 ·rw [es,upd_same]
  exact (nx_is (x:=2) (p:=0) (upd_same _ _ _) (upd_same _ _ _) rfl rfl).symm
theorem go_counts (h:LkM w L f (nxF f)) (hJ:OrdJ f ga la H V gg Wg) (hk:k<f.s.n) (s3:f.s.st k=3) (p0:f.ph k=0) (hD:f.ps.D.length<4611686018427387904):Calls prog 272 #[.pointer (some ⟨L.lb,0,none⟩),.int .i64 (k:Nat),.int .i64 (k:Nat)] w (LmPost w L (f.mid L k k) (nxF (f.step L k k)) (f.did L k k).val):=by
 obtain ⟨ed,em⟩:=OrdJ.at_three (L:=L) (u:=(k:Int)) hk s3
 unfold FL.relD at ed
 unfold FL.rel at em
 rw [if_pos p0] at ed em
 have h0:nxF f k=(.func (.func 148) #[] #[]):=nx_is s3 p0 rfl rfl
 have es:=λm em=>OrdJ.on_step (L:=L) (u:=(k:Int)) (k:=k) (m:=m) (by rw [ed]) em (by rw [s3];rfl)
 refine (go_any en_counts h hk k h0 λW q=>fl_counts q hk k hD).mono λe w' hp=>go_fin hJ hk hp ?_ ?_ ?_ ?_
 ·rw [ed]
 ·rw [em]
  split
  ·exact ⟨_,rfl⟩
  ·exact ⟨_,rfl⟩
 ·intro t ht
  split<;>exact up1 t ht
 ·by_cases hv:(tellS f.ps (k:Nat) 1 (L.pA (f.nd k)))<f.bud
  ·rw [if_pos hv,upd_same]
   rw [if_pos hv] at em
   rw [es _ em]
   exact (nx_is (x:=3) (p:=1) (by exact s3) (upd_same _ _ _) rfl rfl).symm
  ·rw [if_neg hv,upd_same]
   rw [if_neg hv] at em
   rw [es _ em]
   exact (nx_is (x:=3) (p:=3) (by exact s3) (upd_same _ _ _) rfl rfl).symm
theorem go_asks (h:LkM w L f (nxF f)) (hJ:OrdJ f ga la H V gg Wg) (hk:k<f.s.n) (s3:f.s.st k=3) (p1:f.ph k=1) (hD:f.ps.D.length<4611686018427387904):Calls prog 272 #[.pointer (some ⟨L.lb,0,none⟩),.int .i64 (k:Nat),.int .i64 (k:Nat)] w (LmPost w L (f.mid L k k) (nxF (f.step L k k)) (f.did L k k).val):=by
 obtain ⟨ed,em⟩:=OrdJ.at_three (L:=L) (u:=(k:Int)) hk s3
 unfold FL.relD at ed
 unfold FL.rel at em
 rw [if_neg (by omega),if_pos p1] at ed em
 have h0:nxF f k=(.func (.func 154) #[] #[]):=nx_is s3 p1 rfl rfl
 have hg:(f.Lc (f.nd k)).s.st (f.own k)=4:=by
  have hx:=hJ.cor.cx k hk
  cases hx with
  |u1 hx hp hl he q1 q2 hg=>exact hl
  |_=>omega
 have hd:=((Inn.did_at (x:=f.lk (f.nd k)) (k:=f.own k) (u:=k) (f.la (f.nd k):Nat) (by rw [lk_s];exact hJ.own k hk)).2.2.1 (by rw [lk_s];exact hg)).1
 have es:=OrdJ.on_step (L:=L) (u:=(k:Int)) (k:=k) (by rw [ed]) em (by rw [s3];rfl)
 refine (go_any en_asks h hk k h0 λW q=>fl_asks q hk k hD).mono λe w' hp=>go_fin hJ hk hp ?_ ?_ ?_ ?_
 ·rw [ed]
 ·rw [em];exact ⟨_,rfl⟩
 ·intro t ht
  split<;>exact up1 t ht
 ·rw [es]
  rcases hd with e|e
  ·rw [if_pos e,upd_same]
   exact (nx_is (x:=3) (p:=3) (by exact s3) ((upd_same _ _ _).trans (if_neg (by omega))) rfl rfl).symm
  ·rw [if_neg (by omega),upd_same]
   exact (nx_is (x:=3) (p:=2) (by exact s3) ((upd_same _ _ _).trans (if_pos e)) rfl rfl).symm
theorem go_keeps (h:LkM w L f (nxF f)) (hJ:OrdJ f ga la H V gg Wg) (hk:k<f.s.n) (s3:f.s.st k=3) (p2:f.ph k=2) (hD:f.ps.D.length<4611686018427387904):Calls prog 272 #[.pointer (some ⟨L.lb,0,none⟩),.int .i64 (k:Nat),.int .i64 (k:Nat)] w (LmPost w L (f.mid L k k) (nxF (f.step L k k)) (f.did L k k).val):=by
 obtain ⟨ed,em⟩:=OrdJ.at_three (L:=L) (u:=(k:Int)) hk s3
 unfold FL.relD at ed
 unfold FL.rel at em
 rw [if_neg (by omega),if_neg (by omega),if_pos p2] at ed em
 have h0:nxF f k=(.func (.func 160) #[] #[]):=nx_is s3 p2 rfl rfl
 have hg:0≤f.got k∧f.got k≤1000000:=by
  have hx:=hJ.cor.cx k hk
  have hb:=hJ.bud
  cases hx with
  |u2 hx hp hl he q1 q2 hg hv=>omega
  |_=>omega
 have es:=OrdJ.on_step (L:=L) (u:=(k:Int)) (k:=k) (by rw [ed]) em (by rw [s3];rfl)
 refine (go_any en_keeps h hk k h0 λW q=>fl_keeps q hk k hD hg).mono λe w' hp=>go_fin hJ hk hp ?_ ?_ up1 ?_
 ·rw [ed]
 ·rw [em];exact ⟨_,rfl⟩
 ·rw [es,upd_same]
  exact (nx_is (x:=3) (p:=5) (by exact s3) (upd_same _ _ _) rfl rfl).symm
theorem go_ends (h:LkM w L f (nxF f)) (hJ:OrdJ f ga la H V gg Wg) (hk:k<f.s.n) (s3:f.s.st k=3) (p3:f.ph k=3) (hD:f.ps.D.length<4611686018427387904):Calls prog 272 #[.pointer (some ⟨L.lb,0,none⟩),.int .i64 (k:Nat),.int .i64 (k:Nat)] w (LmPost w L (f.mid L k k) (nxF (f.step L k k)) (f.did L k k).val):=by
 obtain ⟨ed,em⟩:=OrdJ.at_three (L:=L) (u:=(k:Int)) hk s3
 unfold FL.relD at ed
 unfold FL.rel at em
 rw [if_neg (by omega),if_neg (by omega),if_neg (by omega),if_pos p3] at ed em
 have h0:nxF f k=(.func (.func 153) #[] #[]):=nx_is s3 p3 rfl rfl
 have es:=OrdJ.on_step (L:=L) (u:=(k:Int)) (k:=k) (by rw [ed]) em (by rw [s3];rfl)
 refine (go_any en_ends h hk k h0 λW q=>fl_ends q hk k hD).mono λe w' hp=>go_fin hJ hk hp ?_ ?_ up1 ?_
 ·rw [ed]
 ·rw [em];exact ⟨_,rfl⟩
 ·rw [es,upd_same]
  exact (nx_is (x:=3) (p:=4) (by exact s3) (upd_same _ _ _) rfl rfl).symm
theorem go_yields (h:LkM w L f (nxF f)) (hJ:OrdJ f ga la H V gg Wg) (hk:k<f.s.n) (s3:f.s.st k=3) (p4:f.ph k=4) (hD:f.ps.D.length<4611686018427387904):Calls prog 272 #[.pointer (some ⟨L.lb,0,none⟩),.int .i64 (k:Nat),.int .i64 (k:Nat)] w (LmPost w L (f.mid L k k) (nxF (f.step L k k)) (f.did L k k).val):=by
 obtain ⟨ed,em⟩:=OrdJ.at_three (L:=L) (u:=(k:Int)) hk s3
 unfold FL.relD at ed
 unfold FL.rel at em
 rw [if_neg (by omega),if_neg (by omega),if_neg (by omega),if_neg (by omega),if_pos p4] at ed em
 have h0:nxF f k=(.func (.func 159) #[] #[]):=nx_is s3 p4 rfl rfl
 have es:=λm em=>OrdJ.on_step (L:=L) (u:=(k:Int)) (k:=k) (m:=m) (by rw [ed]) em (by rw [s3];rfl)
 refine (go_any en_yields h hk k h0 λW q=>fl_yields q hk k hD).mono λe w' hp=>go_fin hJ hk hp ?_ ?_ ?_ ?_
 ·rw [ed]
 ·rw [em]
  split
  ·exact ⟨_,rfl⟩
  ·exact ⟨f.ph,rfl⟩
 ·intro t ht
  split
  ·exact up1 t ht
  ·rfl
 ·by_cases hv:(f.gl.did (f.ga:Nat) (f.nd k:Nat) (k:Nat)).ev=3
  ·rw [if_pos hv,upd_same]
   rw [if_pos hv] at em
   rw [es _ em]
   exact (nx_is (x:=3) (p:=5) (by exact s3) (upd_same _ _ _) rfl rfl).symm
  ·rw [if_neg hv]
   rw [if_neg hv] at em
   rw [es _ em]
   exact h0.trans (nx_is (x:=3) (p:=4) (by exact s3) (by exact p4) rfl rfl).symm
theorem go_leaves (h:LkM w L f (nxF f)) (hJ:OrdJ f ga la H V gg Wg) (hk:k<f.s.n) (s3:f.s.st k=3) (p5:f.ph k=5) (hD:f.ps.D.length<4611686018427387904):Calls prog 272 #[.pointer (some ⟨L.lb,0,none⟩),.int .i64 (k:Nat),.int .i64 (k:Nat)] w (LmPost w L (f.mid L k k) (nxF (f.step L k k)) (f.did L k k).val):=by
 obtain ⟨ed,em⟩:=OrdJ.at_three (L:=L) (u:=(k:Int)) hk s3
 unfold FL.relD at ed
 unfold FL.rel at em
 rw [if_neg (by omega),if_neg (by omega),if_neg (by omega),if_neg (by omega),if_neg (by omega)] at ed em
 have h0:nxF f k=(.func (.func 164) #[] #[]):=nx_is s3 p5 rfl rfl
 have hg:(f.Lc (f.nd k)).s.st (f.own k)=3:=by
  have hx:=hJ.cor.cx k hk
  cases hx with
  |u5 hx hp hl h=>exact hl
  |_=>omega
 have hd:=((Inn.did_at (x:=f.lk (f.nd k)) (k:=f.own k) (u:=k) (f.la (f.nd k):Nat) (by rw [lk_s];exact hJ.own k hk)).2.1 (by rw [lk_s];exact hg)).1
 refine (go_any en_leaves h hk k h0 λW q=>fl_leaves q hk k hD).mono λe w' hp=>go_fin hJ hk hp ?_ ?_ ?_ ?_
 ·rw [ed]
  rcases hd with e|e
  ·rw [if_neg (by omega),e];rfl
  ·rw [if_pos e,e]
 ·rw [em];exact ⟨f.ph,rfl⟩
 ·intro t ht
  split
  ·exact up1 t ht
  ·rfl
 ·rcases hd with e|e
  ·rw [if_neg (by omega)]
   have es:=OrdJ.on_step (L:=L) (u:=(k:Int)) (k:=k) (by rw [ed,e]) em (by rw [s3];rfl)
   rw [es]
   exact h0.trans (nx_is (x:=3) (p:=5) (by exact s3) (by exact p5) rfl rfl).symm
  ·rw [if_pos e,upd_same]
   have es:=OrdJ.end_step (L:=L) (u:=(k:Int)) (k:=k) (y:=0) hk (by rw [ed,e]) em (by rw [s3];rfl)
   rw [es]
   exact (nx_is (x:=0) (p:=0) (upd_same _ _ _) (upd_same _ _ _) rfl rfl).symm
theorem fl_go (h:LkM w L f (nxF f)) (hJ:OrdJ f ga la H V gg Wg) (hk:k<f.s.n) (hs:f.s.st k=1∨f.s.st k=3) (hD:f.ps.D.length<4611686018427387904):Calls prog 272 #[.pointer (some ⟨L.lb,0,none⟩),.int .i64 (k:Nat),.int .i64 (k:Nat)] w (LmPost w L (f.mid L k k) (nxF (f.step L k k)) (f.did L k k).val):=by
 have hx:=hJ.cor.cx k hk
 rcases hs with s1|s3
 ·have hp:f.ph k=0∨f.ph k=1∨f.ph k=2∨f.ph k=3:=by cases hx<;>omega
  rcases hp with p|p|p|p
  ·by_cases l:(f.Lc (f.nd k)).s.st (f.own k)=0
   ·exact go_calls h hJ hk s1 p hD l
   ·exact go_queues h hJ hk s1 p hD l
  ·exact go_looks h hJ hk s1 p hD
  ·exact go_arrives h hJ hk s1 p hD
  ·exact go_leads h hJ hk s1 p hD
 ·have hp:f.ph k=0∨f.ph k=1∨f.ph k=2∨f.ph k=3∨f.ph k=4∨f.ph k=5:=by cases hx<;>omega
  rcases hp with p|p|p|p|p|p
  ·exact go_counts h hJ hk s3 p hD
  ·exact go_asks h hJ hk s3 p hD
  ·exact go_keeps h hJ hk s3 p hD
  ·exact go_ends h hJ hk s3 p hD
  ·exact go_yields h hJ hk s3 p hD
  ·exact go_leaves h hJ hk s3 p hD
end
open _root_.Go.Proofs.Tryz Go.Deep
section
variable {w X Y:World} {B C:Nat} {L:Lp} {f g f0:FL} {nx nx' nx0:Nat→Value} {d:Dd}
theorem Fd.ends {s':SS} (h0:LkM w L f0 nx0) (h:Fd w B X L g nx C d) (hS:SeatAt Y L.p L.b s') (hn:s'.n=g.s.n) (k:Wr (One L.b) X Y):Fd w B Y L {g with s:=s'} nx C d:=
 h.call h0 (h.fr.lk.seats hS hn k) (lf_b h.fr.lk k)
theorem Fd.phs (h:Fd w B X L f nx C d) (ph:Nat→Int):Fd w B X L {f with ph:=ph} nx C d:=⟨⟨h.fr.lk.phs ph,h.fr.wr,h.fr.res,h.fr.new⟩,h.did,h.far,h.ne⟩
end
theorem hs_start {w:World} {L:Lp} {f:FL} {nx:Nat→Value} (h:LkM w L f nx) (cs:Array Value):
  Fd w (w.heap.size+1) (((w.alloc (.cells cs 314)).alloc (.cells #[.int .i64 0,.bool false,.bool false,.bool false] 228)).alloc (.cells #[.int .i64 0,.bool false,.bool false,.bool false] 228)) L f nx (w.heap.size+1+1) Dd.no∧
  (((w.alloc (.cells cs 314)).alloc (.cells #[.int .i64 0,.bool false,.bool false,.bool false] 228)).alloc (.cells #[.int .i64 0,.bool false,.bool false,.bool false] 228)).heap[w.heap.size]? =some (.cells cs 314 (0,0)):=by
 have e1:(w.alloc (.cells cs 314)).heap.size=w.heap.size+1:=nblk_alloc _ _
 have e2:((w.alloc (.cells cs 314)).alloc (.cells #[.int .i64 0,.bool false,.bool false,.bool false] 228)).heap.size=w.heap.size+1+1:=by rw [nblk_alloc,e1]
 have k:Wr Nil w (((w.alloc (.cells cs 314)).alloc (.cells #[.int .i64 0,.bool false,.bool false,.bool false] 228)).alloc (.cells #[.int .i64 0,.bool false,.bool false,.bool false] 228)):=(((Wr.refl _ w).alloc _).alloc _).alloc _
 refine ⟨⟨⟨h.after k,k.mono λ_ _ e=>e.elim,?_,Nat.le_succ _⟩,?_,by omega,by omega⟩,?_⟩
 ·rw [blk_alloc_lt _ _ _ (by rw [e2];omega),←e1,blk_alloc_new];rfl
 ·rw [←e2,blk_alloc_new];rfl
 ·rw [blk_alloc_lt _ _ _ (by rw [e2];omega),blk_alloc_lt _ _ _ (by rw [e1];omega),blk_alloc_new]
section
variable {w:World} {L:Lp} {f:FL} {ga:Nat} {la:Nat→Nat} {H:Nat→Option Nat} {V:Nat→List Nat} {gg:Option Nat} {Wg:List Nat}
theorem hs_busy (h:LkM w L f (nxF f)) (hJ:OrdJ f ga la H V gg Wg) {k:Nat} (hk:k<f.s.n) (hs:f.s.st k=1∨f.s.st k=3) (hD:f.ps.D.length<4611686018427387904):
  Calls prog 198 #[.pointer (some ⟨L.p,0,none⟩),.int .i64 (k:Nat),.int .i64 (k:Nat),.agg #[Value.func (.func 272) #[.pointer (some ⟨L.lb,0,none⟩)] #[],Value.func (.func 272) #[.pointer (some ⟨L.lb,0,none⟩)] #[],Value.nilFunc]] w (LmPost w L (f.step L k k) (nxF (f.step L k k)) (f.did L k k).val):=by
 obtain ⟨hF,hB⟩:=hs_start h #[Value.func (.func 272) #[.pointer (some ⟨L.lb,0,none⟩)] #[],Value.func (.func 272) #[.pointer (some ⟨L.lb,0,none⟩)] #[],Value.nilFunc]
 obtain ⟨Z,hZ⟩:∃ Z,Z=((w.alloc (.cells #[Value.func (.func 272) #[.pointer (some ⟨L.lb,0,none⟩)] #[],Value.func (.func 272) #[.pointer (some ⟨L.lb,0,none⟩)] #[],Value.nilFunc] 314)).alloc (.cells #[.int .i64 0,.bool false,.bool false,.bool false] 228)).alloc (.cells #[.int .i64 0,.bool false,.bool false,.bool false] 228):=⟨_,rfl⟩
 rw [←hZ] at hF hB
 have b0:Z.cell? ⟨w.heap.size,0,none⟩=some (Value.func (.func 272) #[.pointer (some ⟨L.lb,0,none⟩)] #[]):=(blk_cell hB 0).trans rfl
 have b1:Z.cell? ⟨w.heap.size,1,none⟩=some (Value.func (.func 272) #[.pointer (some ⟨L.lb,0,none⟩)] #[]):=(blk_cell hB 1).trans rfl
 have cS:=se_state hF.fr.lk.raw.seat (k:Int)
 obtain ⟨v0,v1,v2,v3⟩:=hF.fr.cell
 obtain ⟨x0,x1,x2,x3⟩:=hF.fr.frz
 obtain ⟨p0,p1,p2,p3⟩:=hF.cell
 have hn:=h.raw.seat.n2
 have ht:(0:Int)≤(k:Int)∧(k:Int)<f.s.n:=by omega
 have eS:f.s.stI (k:Int)=f.s.st k:=by unfold SS.stI;rw [if_pos ht,Int.toNat_natCast]
 rw [eS] at cS
 have es:=(f.mid_s L k k).1
 have cA:=fl_go hF.fr.lk hJ hk hs hD
 generalize nxF (f.step L k k)=nx' at*
 obtain ⟨P,hP⟩:∃ P,f.step L k k={f.mid L k k with s:=f.s.fin k (f.did L k k).ev,ph:=P}:=⟨_,rfl⟩
 rw [hP]
 clear hP
 generalize f.mid L k k=g at*
 generalize f.did L k k=d at*
 have HE:=Lib.hid (And.intro h (And.intro hF es))
 have HZ:=Lib.hid hZ
 clear h hF eS hB es hZ hJ ht
 rcases hs with hs|hs
 all_goals
  rw [hs] at cS
  clear hs
  generalize f.s.n=n at*
  go_enter func198,ntmps198
  go_wp2_with (first
   |(go_at_call 191;rw [←HZ.out];(with_reducible refine cS.mono ?_);rintro e w' ⟨rfl,rfl⟩)
   |(go_at_call 272;(with_reducible refine cA.mono ?_);intro e w2 hq;unfold LmPost at hq;obtain ⟨rfl,hA,hW⟩:=hq;dsimp only [Dd.val];have hA3:=HE.out.2.1.call HE.out.1 hA hW;obtain ⟨p0,p1,p2,p3⟩:=hA3.cell;obtain ⟨y0,y1,y2,y3⟩:=hA3.frz;have hK:=hA3.keep HE.out.1 d;have cE:=se_end hK.fr.lk.raw.seat (k:Int) d.ev;rw [HE.out.2.2] at cE;have HK:=Lib.hid hK;clear hA hA3 hK hW)
   |(go_at_call 202;(with_reducible refine cE.mono ?_);intro e w3 hq;unfold SeatPost at hq;obtain ⟨rfl,hS,hW⟩:=hq;have hY:=(HK.out.ends HE.out.1 hS (by rw [HE.out.2.2];exact f.s.fin_n _ _) hW).phs P;obtain ⟨e0,e1,e2,e3⟩:=hY.cell;obtain ⟨v0,v1,v2,v3⟩:=hY.fr.cell;obtain ⟨x0,x1,x2,x3⟩:=hY.fr.frz;have HT:=Lib.hid hY;clear hY hS hW))
  refine bodyPost_ret (v:=Dd.val d) (results_cell_row rfl _ _ (w.heap.size+1) 228 _ (0,0) _ rfl (set4 HT.out.fr.res rfl _ _ _ _) underlying228 rfl i_did) rfl (HT.out.fr.told HE.out.1 d)
theorem hs_idle (h:LkM w L f (nxF f)) (t u:Int) (h1:f.s.stI t≠1) (h3:f.s.stI t≠3) (h4:f.s.stI t≠4) (hf:f.s.fin t 0=f.s):
  Calls prog 198 #[.pointer (some ⟨L.p,0,none⟩),.int .i64 t,.int .i64 u,.agg #[Value.func (.func 272) #[.pointer (some ⟨L.lb,0,none⟩)] #[],Value.func (.func 272) #[.pointer (some ⟨L.lb,0,none⟩)] #[],Value.nilFunc]] w (LmPost w L f (nxF f) Dd.no.val):=by
 obtain ⟨hF,hB⟩:=hs_start h #[Value.func (.func 272) #[.pointer (some ⟨L.lb,0,none⟩)] #[],Value.func (.func 272) #[.pointer (some ⟨L.lb,0,none⟩)] #[],Value.nilFunc]
 obtain ⟨Z,hZ⟩:∃ Z,Z=((w.alloc (.cells #[Value.func (.func 272) #[.pointer (some ⟨L.lb,0,none⟩)] #[],Value.func (.func 272) #[.pointer (some ⟨L.lb,0,none⟩)] #[],Value.nilFunc] 314)).alloc (.cells #[.int .i64 0,.bool false,.bool false,.bool false] 228)).alloc (.cells #[.int .i64 0,.bool false,.bool false,.bool false] 228):=⟨_,rfl⟩
 rw [←hZ] at hF hB
 have cS:=se_state hF.fr.lk.raw.seat t
 obtain ⟨v0,v1,v2,v3⟩:=hF.fr.cell
 obtain ⟨x0,x1,x2,x3⟩:=hF.fr.frz
 obtain ⟨p0,p1,p2,p3⟩:=hF.cell
 have cE:=se_end hF.fr.lk.raw.seat t Dd.no.ev
 rw [show f.s.fin t Dd.no.ev=f.s from hf] at cE
 generalize nxF f=nx at*
 have HE:=Lib.hid (And.intro h hF)
 have HZ:=Lib.hid hZ
 generalize f.s.stI t=y at*
 clear h hF hB hZ hf
 go_enter func198,ntmps198
 go_wp2_with (first
  |(go_at_call 191;rw [←HZ.out];(with_reducible refine cS.mono ?_);rintro e w' ⟨rfl,rfl⟩)
  |(go_at_call 202;(with_reducible refine cE.mono ?_);intro e w3 hq;unfold SeatPost at hq;obtain ⟨rfl,hS,hW⟩:=hq;have hY:=HE.out.2.ends HE.out.1 hS rfl hW;obtain ⟨e0,e1,e2,e3⟩:=hY.cell;obtain ⟨v0,v1,v2,v3⟩:=hY.fr.cell;obtain ⟨x0,x1,x2,x3⟩:=hY.fr.frz;have HT:=Lib.hid hY;clear hY hS hW))
 refine bodyPost_ret (v:=Dd.val Dd.no) (results_cell_row rfl _ _ (w.heap.size+1) 228 _ (0,0) _ rfl (set4 HT.out.fr.res rfl _ _ _ _) underlying228 rfl i_did) rfl (HT.out.fr.told HE.out.1 Dd.no)
structure LkAt (w:World) (L:Lp) (f:FL):Prop where
 lk:LkM w L f (nxF f)
 inv:∃ H V gg Wg,OrdJ f f.ga f.la H V gg Wg
 a1:L.a1=0
theorem FL.step_ga (f:FL) (L:Lp) (t u:Int):(f.step L t u).ga=f.ga∧(f.step L t u).la=f.la:=by
 show (f.mid L t u).ga=_∧(f.mid L t u).la=_
 unfold FL.mid FL.acq FL.rel
 repeat' split
 all_goals exact ⟨rfl,rfl⟩
theorem LkAt.steps {w w':World} (h:LkAt w L f) (t:Int) (hm:LkM w' L (f.step L t t) (nxF (f.step L t t))):LkAt w' L (f.step L t t):=by
 obtain ⟨H,V,gg,Wg,hJ⟩:=h.inv
 obtain ⟨H',V',gg',Wg',hJ'⟩:=hJ.step h.a1 t
 refine ⟨hm,⟨H',V',gg',Wg',?_⟩,h.a1⟩
 rw [(f.step_ga L t t).1,(f.step_ga L t t).2]
 exact hJ'
theorem hs_step (h:LkAt w L f) (t:Int) (hD:f.ps.D.length<4611686018427387904):
  Calls prog 198 #[.pointer (some ⟨L.p,0,none⟩),.int .i64 t,.int .i64 t,.agg #[Value.func (.func 272) #[.pointer (some ⟨L.lb,0,none⟩)] #[],Value.func (.func 272) #[.pointer (some ⟨L.lb,0,none⟩)] #[],Value.nilFunc]] w (LmPost w L (f.step L t t) (nxF (f.step L t t)) (f.did L t t).val):=by
 obtain ⟨H,V,gg,Wg,hJ⟩:=h.inv
 by_cases ht:0≤t∧t<f.s.n
 ·obtain ⟨k,rfl⟩:=Int.eq_ofNat_of_zero_le ht.1
  have hk:k<f.s.n:=by omega
  have eS:f.s.stI (k:Int)=f.s.st k:=by unfold SS.stI;rw [if_pos ht,Int.toNat_natCast]
  by_cases s1:f.s.st k=1
  ·exact hs_busy h.lk hJ hk (.inl s1) hD
  by_cases s3:f.s.st k=3
  ·exact hs_busy h.lk hJ hk (.inr s3) hD
  have s4:f.s.st k≠4:=by have hx:=hJ.cor.cx k hk;cases hx<;>omega
  obtain ⟨e1,e2⟩:=OrdJ.at_idle (L:=L) (u:=(k:Int)) hk s1 s3 s4
  rw [e1,e2]
  refine hs_idle h.lk k k (by rw [eS];exact s1) (by rw [eS];exact s3) (by rw [eS];exact s4) (fin_none' ?_).1
  unfold behindI
  rw [if_neg (by omega),if_neg (by omega),if_neg (by omega),if_neg (by omega)]
 ·obtain ⟨e1,e2⟩:=OrdJ.at_none (L:=L) (u:=t) ht
  rw [e1,e2]
  have eS:f.s.stI t=0:=if_neg ht
  refine hs_idle h.lk t t (by rw [eS];decide) (by rw [eS];decide) (by rw [eS];decide) ?_
  unfold SS.fin endO
  rw [if_neg ht]
abbrev LkPost (w:World) (L:Lp) (f:FL) (v:Value) (e:Ending) (w':World):Prop:=e= .returned v∧LkAt w' L f∧Wr (LF L) w w'
theorem fl_step (h:LkAt w L f) (t x:Int) (hD:f.ps.D.length<4611686018427387904):
  Calls prog 270 #[.pointer (some ⟨L.lb,0,none⟩),.int .i64 t,.int .i64 t,.int .i64 x] w (LkPost w L (f.step L t t) (f.did L t t).val):=by
 have hst:=λw' hm=>h.steps (w':=w') t hm
 have hF:=Fr.start h.lk
 obtain ⟨Z,hZ⟩:∃ Z,Z=w.alloc (.cells #[.int .i64 0,.bool false,.bool false,.bool false] 228):=⟨_,rfl⟩
 rw [←hZ] at hF
 have cM:=hs_step ⟨hF.lk,h.inv,h.a1⟩ t hD
 have c0:=hF.lk.raw.cell0
 rw [hZ] at c0
 generalize nxF (f.step L t t)=nx' at*
 generalize f.step L t t=g at*
 generalize f.did L t t=d at*
 have HE:=Lib.hid (And.intro h.lk (And.intro hF hst))
 have HZ:=Lib.hid hZ
 clear h hF hZ hst
 go_enter func270,ntmps270
 go_wp2_with (first
  |(go_at_call 198;rw [←HZ.out];(with_reducible refine cM.mono ?_);intro e w2 hq;unfold LmPost at hq;obtain ⟨rfl,hA,hW⟩:=hq;dsimp only [Dd.val];have hA3:=Fr.call HE.out.1 HE.out.2.1 hA hW;obtain ⟨v0,v1,v2,v3⟩:=hA3.cell;obtain ⟨x0,x1,x2,x3⟩:=hA3.frz;have HT:=Lib.hid hA3;clear hA hA3 hW))
 refine bodyPost_ret (v:=Dd.val d) (results_cell_row rfl _ _ w.heap.size 228 _ (0,0) _ rfl (set4 HT.out.res rfl _ _ _ _) underlying228 rfl i_did) rfl ?_
 have hT:=HT.out.told HE.out.1 d
 exact ⟨hT.1,HE.out.2.2 _ hT.2.1,hT.2.2⟩
end
end Go.Proofs.YtcikfcplagelaaaGreat

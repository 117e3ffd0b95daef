import Derived.Test.YtkmikkjjnbikdaaGreatCohRnw
namespace Go.Proofs.YtkmikkjjnbikdaaGreat
set_option maxHeartbeats 8000000
open _root_.Go.Proofs.Tryz Go.Deep
open Go.RowKit Go.BigFrame
set_option linter.unusedVariables false
set_option maxRecDepth 100000
def Inn.rng:Inn→Prop
 | .tk _=>True
 | .cl f=>∀ k,(0≤f.node k∧f.node k<4294967296)∧0≤f.ahd k∧f.ahd k<4294967296
 | .mc f=>∀ k,0≤f.oth k∧f.oth k<4294967296
theorem Inn.rng_lock {x:Inn} (h:x.rng) (t d:Int):(x.lock t d).rng:=by cases x<;>exact h
theorem Inn.rng_on {x:Inn} (h:x.rng) (q:PSta):(x.on q).rng:=by cases x<;>exact h
theorem InAt.rng' {w:World} {I:Ip} {pv:Value} {x:Inn} (h:InAt w I pv x):x.rng:=by
 cases x with
 |tk f=>trivial
 |cl f=>exact λk=>(Kc.FlRaw.rng h.raw k).2
 |mc f=>exact λk=>(Km.FlRaw.rng h.raw k).2
theorem ref_tell {w:World} {base r bk:Nat} {so:Option Addr} {cap:Nat} {dv:Value} {s:PSta} (h:RefAt w base r bk so cap dv s) (u K a:Int):0≤tellS s u K a∧tellS s u K a<4294967296:=by
 have hl:0≤loadI s.ws a∧loadI s.ws a<4294967296:=by
  unfold loadI
  split
  ·rw [List.getD_eq_getElem?_getD]
   cases e:s.ws[a.toNat]? with
   |none=>exact ⟨Int.le_refl 0,by decide⟩
   |some z=>exact h.rngW z (List.mem_of_getElem? e)
  ·exact ⟨Int.le_refl 0,by decide⟩
 unfold tellS tellI
 repeat' split
 all_goals first|exact hl|exact ⟨Int.le_refl 0,by decide⟩
namespace Rp
def sr:Rp→Nat
 |tk M=>M.sr
 |cl M=>M.sr
 |mc M=>M.sr
def hv:Rp→Value
 |tk M=>M.hv
 |cl M=>M.hv
 |mc M=>M.hv
def dv:Rp→Value
 |tk M=>M.dv
 |cl M=>M.dv
 |mc M=>M.dv
def pr:Rp→Nat
 |tk M=>M.pr
 |cl M=>M.pr
 |mc M=>M.pr
def base:Rp→Nat
 |tk M=>M.base
 |cl M=>M.base
 |mc M=>M.base
def over (p b:Nat):Rp→Rp
 |tk M=>tk {M with pr:=p,base:=b}
 |cl M=>cl {M with pr:=p,base:=b}
 |mc M=>mc {M with pr:=p,base:=b}
variable {w w':World} {R:Rp} {x:Inn}
theorem over_eq (R:Rp) (p b:Nat):(R.over p b).cells=R.cells∧(R.over p b).r=R.r∧(R.over p b).F=R.F∧(R.over p b).a=R.a∧(R.over p b).pr=p∧(R.over p b).base=b:=by cases R<;>exact ⟨rfl,rfl,rfl,rfl,rfl,rfl⟩
theorem At.over (h:R.At w x) {p b:Nat} (hr:R.r<b) (hF:∀ k,R.F k→k<b):(R.over p b).At w x:=by
 cases R<;>cases x
 case tk.tk M f=>obtain ⟨mi,a,c⟩:=h;exact ⟨mi,⟨a.obj,a.seat,a.pcs,a.min,a.ne,a.off,hr,hF _ (.inl rfl),hF _ (.inr (.inl rfl)),λk hk=>hF k (.inr (.inr hk))⟩,c⟩
 case cl.cl M f=>obtain ⟨mi,a,c⟩:=h;exact ⟨mi,⟨a.obj,a.seat,a.pcs,a.nds,a.ahs,a.ne,a.off,hr,hF _ (.inl rfl),hF _ (.inr (.inl rfl)),hF _ (.inr (.inr (.inl rfl))),λk hk=>hF k (.inr (.inr (.inr hk)))⟩,c⟩
 case mc.mc M f=>obtain ⟨mi,a,c⟩:=h;exact ⟨mi,⟨a.obj,a.seat,a.pcs,a.ots,a.ne,a.off,hr,hF _ (.inl rfl),hF _ (.inr (.inl rfl)),λk hk=>hF k (.inr (.inr hk))⟩,c⟩
 all_goals exact h.elim
theorem At.on (h:R.At w x) (q:PSta):R.At w (x.on q):=by
 cases R<;>cases x
 case tk.tk M f=>exact ⟨h.raw⟩
 case cl.cl M f=>exact ⟨h.raw⟩
 case mc.mc M f=>exact ⟨h.raw⟩
 all_goals exact h.elim
theorem At.seat (h:R.At w x):RsAt w R.sr R.hv R.dv x.s:=by
 cases R<;>cases x
 case tk.tk M f=>obtain ⟨mi,a,c⟩:=h;exact a.seat
 case cl.cl M f=>obtain ⟨mi,a,c⟩:=h;exact a.seat
 case mc.mc M f=>obtain ⟨mi,a,c⟩:=h;exact a.seat
 all_goals exact h.elim
theorem sf_F {k:Nat} (h:SF R.sr R.hv R.dv k):R.F k:=by
 cases R
 ·exact .inr (.inr h)
 ·exact .inr (.inr (.inr h))
 ·exact .inr (.inr h)
theorem At.lock (h:R.At w x) {t d:Int} (hS:RsAt w' R.sr R.hv R.dv (x.s.lock t d)) (k:Wr (SF R.sr R.hv R.dv) w w'):R.At w' (x.lock t d):=by
 cases R<;>cases x
 case tk.tk M f=>exact Kf.MlAt.seats h hS (SS.lock_n _ _ _) k
 case cl.cl M f=>exact Kc.MlAt.seats h hS (SS.lock_n _ _ _) k
 case mc.mc M f=>exact Km.MlAt.seats h hS (SS.lock_n _ _ _) k
 all_goals exact h.elim
theorem At.turn (h:R.At w x) {t d:Int} (hS:RsAt w' R.sr R.hv R.dv (x.s.turn t d)) (k:Wr (SF R.sr R.hv R.dv) w w'):R.At w' (x.turn t d):=by
 cases R<;>cases x
 case tk.tk M f=>exact Kf.MlAt.seats h hS (SS.turn_n _ _ _) k
 case cl.cl M f=>exact Kc.MlAt.seats h hS (SS.turn_n _ _ _) k
 case mc.mc M f=>exact Km.MlAt.seats h hS (SS.turn_n _ _ _) k
 all_goals exact h.elim
end Rp
theorem i_did10:(prog.info? 136).map (·.size)=some 4:=by kernel_rfl
theorem ri_seats {w:World} {R:Rp} {x:Inn} (h:R.At w x):Calls prog 129 #[.agg R.cells] w λe w'=>e= .returned (.pointer (some ⟨R.sr,0,none⟩))∧Wr Nil w w':=by
 have hW:Wr Nil w (w.alloc (.cells R.cells 46)):=(Wr.refl _ w).alloc _
 have hb:=blk_alloc_new w (.cells R.cells 46)
 have h2:=h.after hW
 generalize hX:w.alloc (.cells R.cells 46)=X at*
 cases R<;>cases x
 case tk.tk M f=>
  have c0:X.cell? ⟨M.r,0,none⟩=some (.pointer (some ⟨M.sr,0,none⟩)):=by obtain ⟨mi,a,_⟩:=h2;exact a.cell0
  have b0:=blk_cell hb 0
  have b1:=blk_cell hb 1
  have HX:=Lib.hid (And.intro hX hW)
  clear h h2 hX hW hb
  unfold Rp.cells at*
  go_enter func129,ntmps129
  go_upto_region 1 with fail
  rw [HX.out.1]
  go_wp2
  go_ret
  exact ⟨rfl,HX.out.2⟩
 case cl.cl M f=>
  have c0:X.cell? ⟨M.r,0,none⟩=some (.pointer (some ⟨M.sr,0,none⟩)):=by obtain ⟨mi,a,_⟩:=h2;exact a.cell0
  have b0:=blk_cell hb 0
  have b2:=blk_cell hb 2
  have HX:=Lib.hid (And.intro hX hW)
  clear h h2 hX hW hb
  unfold Rp.cells at*
  go_enter func129,ntmps129
  go_upto_region 1 with fail
  rw [HX.out.1]
  go_wp2
  go_ret
  exact ⟨rfl,HX.out.2⟩
 case mc.mc M f=>
  have c0:X.cell? ⟨M.r,0,none⟩=some (.pointer (some ⟨M.sr,0,none⟩)):=by obtain ⟨mi,a,_⟩:=h2;exact a.cell0
  have b0:=blk_cell hb 0
  have b3:=blk_cell hb 3
  have HX:=Lib.hid (And.intro hX hW)
  clear h h2 hX hW hb
  unfold Rp.cells at*
  go_enter func129,ntmps129
  go_upto_region 1 with fail
  rw [HX.out.1]
  go_wp2
  go_ret
  exact ⟨rfl,HX.out.2⟩
 all_goals exact h.elim
structure RiIn (w:World) (R:Rp) (bk:Nat) (so:Option Addr) (cap:Nat) (dv:Value) (x:Inn) (o:Nat):Prop where
 ml:R.At w x
 ref:RefAt w R.base R.pr bk so cap dv x.ps
 inn:∃ g W,x.At o g W
 rng:x.rng
 n1:1≤x.s.n
 hD:x.ps.D.length<1000000
 hws:x.ps.ws.length≤4096
 hac:x.ps.ac.length≤64
 hb:R.base≤w.heap.size
 ha:R.a=(o:Nat)
theorem RiIn.after {w w':World} {R:Rp} {bk:Nat} {so:Option Addr} {cap:Nat} {dv:Value} {x:Inn} {o:Nat} (h:RiIn w R bk so cap dv x o) (k:Wr Nil w w'):RiIn w' R bk so cap dv x o:=
 ⟨h.ml.after k,h.ref.after k λ_ _=>id,h.inn,h.rng,h.n1,h.hD,h.hws,h.hac,Nat.le_trans h.hb k.size,h.ha⟩
def RiF (R:Rp) (bk:Nat) (dv:Value) (k:Nat):Prop:=R.F k∨Foot R.pr bk dv k
def RiPost (w:World) (R:Rp) (bk:Nat) (dv:Value) (x:Inn) (d:Dd) (e:Ending) (w':World):Prop:=e= .returned d.rval∧R.At w' x∧RefSt w' R.base R.pr x.ps∧Wr (RiF R bk dv) w w'
theorem ri_tk {w:World} {M:Kf.Mp} {bk:Nat} {so:Option Addr} {cap:Nat} {dv:Value} {f:Kf.FL} {o:Nat} (h:RiIn w (.tk M) bk so cap dv (.tk f) o):Kf.MmIn w M bk so cap dv f (Kf.lp o):=by
 obtain ⟨ml,ref,⟨g,W,hin⟩,rng,n1,hD,hws,hac,hb,ha⟩:=h
 obtain ⟨hl,nx,ow,ho⟩:=hin
 have h8:=ho.n8
 have hl:o+2≤f.ps.ws.length:=hl
 have hws:f.ps.ws.length≤4096:=hws
 have ha:M.a=(o:Nat):=ha
 exact ⟨ml,ref,n1,(by have:f.s.n≤8:=h8;omega),hD,hws,hac,hb,by rw [ha];omega,ha.symm,by rw [ha];rfl,λk hk hs=>(ho.dr k hk).2 (List.mem_append_left _ (by rw [ho.held hk (.inr hs)];simp)),λu=>ref_tell ref u 5 M.a⟩
theorem ri_cl {w:World} {M:Kc.Mp} {bk:Nat} {so:Option Addr} {cap:Nat} {dv:Value} {f:Kc.FL} {o:Nat} (h:RiIn w (.cl M) bk so cap dv (.cl f) o):Kc.MmIn w M bk so cap dv f (Kc.lp o):=by
 obtain ⟨ml,ref,⟨g,W,hin⟩,rng,n1,hD,hws,hac,hb,ha⟩:=h
 obtain ⟨hl,e0,ho⟩:=hin
 have h8:=ho.n8
 have hl:o+(f.s.n+2)≤f.ps.ws.length:=hl
 have hws:f.ps.ws.length≤4096:=hws
 have ha:M.a=(o:Nat):=ha
 refine ⟨ml,ref,n1,(by have:f.s.n≤8:=h8;omega),hD,hws,hac,hb,by rw [ha];omega,ha.symm,by rw [ha];rfl,ho.prg,λk hk=> ?_,λk hk hs=>(ho.pc2 k hk).2 (List.mem_append_left _ (by rw [ho.held hk (.inr hs)];simp)),λk=>(rng k).1,λk=>(rng k).2,λu K a=>ref_tell ref u K a⟩
 show 0≤(f.vw o (f.s.n+2) f.s.n).s.st k∧(f.vw o (f.s.n+2) f.s.n).s.st k≤4
 by_cases hm:k∈g.toList++W
 ·rcases List.mem_append.1 hm with hm|hm
  ·have:=ho.stg k (by simpa using hm);omega
  ·have:=ho.stw k hm;omega
 ·have:=ho.sto k hk hm;omega
theorem ri_mc {w:World} {M:Km.Mp} {bk:Nat} {so:Option Addr} {cap:Nat} {dv:Value} {f:Km.FL} {o:Nat} (h:RiIn w (.mc M) bk so cap dv (.mc f) o):Km.MmIn w M bk so cap dv f (Km.lp o):=by
 obtain ⟨ml,ref,⟨g,W,hin⟩,rng,n1,hD,hws,hac,hb,ha⟩:=h
 obtain ⟨hl,ho⟩:=hin
 have h8:=ho.n8
 have hl:o+(2*f.s.n+1)≤f.ps.ws.length:=hl
 have hws:f.ps.ws.length≤4096:=hws
 have ha:M.a=(o:Nat):=ha
 refine ⟨ml,ref,n1,(by have:f.s.n≤8:=h8;omega),hD,hws,hac,hb,by rw [ha];omega,ha.symm,by rw [ha];rfl,ho.cor.prg,λk hk=> ?_,ho.cor.pcI,ho.cor.pc3,rng,λu K a=>ref_tell ref u K a⟩
 show 0≤(f.vw o (2*f.s.n+1) f.s.n).s.st k∧(f.vw o (2*f.s.n+1) f.s.n).s.st k≤4
 by_cases hm:k∈g.toList++W
 ·rcases List.mem_append.1 hm with hm|hm
  ·have:=ho.cor.stg k (by simpa using hm);omega
  ·have:=ho.cor.stw k hm;omega
 ·have:=ho.cor.sto k hk hm;omega
theorem ri_step_tk {w:World} {M:Kf.Mp} {bk:Nat} {so:Option Addr} {cap:Nat} {dv:Value} {f:Kf.FL} {o:Nat} (h:RiIn w (.tk M) bk so cap dv (.tk f) o) (t u:Int):
  Calls prog 130 #[.agg #[.int .i64 1,.pointer (some ⟨M.r,0,none⟩),.pointer none,.pointer none],.pointer (some ⟨M.pr,0,none⟩),.int .i64 t,.int .i64 u] w (RiPost w (.tk M) bk dv (.tk (f.step (Kf.lp o) t u)) (f.did (Kf.lp o) t u)):=by
 obtain ⟨X,hX⟩:∃ X,X=(w.alloc (.cells #[.int .i64 1,.pointer (some ⟨M.r,0,none⟩),.pointer none,.pointer none] 46)).alloc (.cells #[.int .i64 0,.int .i64 0,.int .i64 0,.int .i64 0] 136):=⟨_,rfl⟩
 have hW:Wr Nil w X:=by rw [hX];exact ((Wr.refl Nil w).alloc _).alloc _
 have e1:(w.alloc (.cells #[.int .i64 1,.pointer (some ⟨M.r,0,none⟩),.pointer none,.pointer none] 46)).heap.size=w.heap.size+1:=nblk_alloc _ _
 have hI:X.heap[w.heap.size]? =some (.cells #[.int .i64 1,.pointer (some ⟨M.r,0,none⟩),.pointer none,.pointer none] 46 (0,0)):=by rw [hX,blk_alloc_lt _ _ _ (by rw [e1];omega),blk_alloc_new]
 have hR:X.heap[w.heap.size+1]? =some (.cells #[.int .i64 0,.int .i64 0,.int .i64 0,.int .i64 0] 136 (0,0)):=by rw [hX,←e1,blk_alloc_new]
 have b0:=blk_cell hI 0
 have b1:=blk_cell hI 1
 have cM:=Kf.mm_step (ri_tk (h.after hW)) t u 0
 have hold:∀ b,Kf.MG M bk dv b→b<w.heap.size:=λb hb=>by
  rcases hb with hb|hb
  ·exact (Rp.At.lt h.ml).2 b hb
  ·exact (Kf.foot_lt h.ref hb).2
 have hrl:=(Rp.At.lt h.ml).1
 have HX:=Lib.hid (And.intro hX (And.intro hW (And.intro hR (And.intro hold (And.intro hrl h.hb)))))
 clear hX hW e1 hI hR hold hrl h
 go_enter func130,ntmps130
 go_upto_region 1 with fail
 rw [←HX.out.1]
 go_wp2_with (go_at_call 133;(with_reducible refine cM.mono ?_);intro e w2 hq;unfold Kf.MmPost at hq;obtain ⟨rfl,hml,href,hw2⟩:=hq;dsimp only [Dd.rval];have hR2:=(hw2.block _ (blk_lt HX.out.2.2.1) (λe=>by have:=HX.out.2.2.2.1 _ e;omega)).trans HX.out.2.2.1;have v0:=blk_cell hR2 0;have v1:=blk_cell hR2 1;have v2:=blk_cell hR2 2;have v3:=blk_cell hR2 3;have z0:=blk_frozen hR2 0;have z1:=blk_frozen hR2 1;have z2:=blk_frozen hR2 2;have z3:=blk_frozen hR2 3;have HM:=Lib.hid (And.intro hml (And.intro href (And.intro hw2 hR2)));clear hml href hw2 hR2)
 generalize hd:f.did (Kf.lp o) t u=d at*
 refine bodyPost_ret (v:=Dd.rval d) (results_cell_row rfl _ _ (w.heap.size+1) 136 _ (0,0) _ rfl (set4 HM.out.2.2.2 rfl _ _ _ _) underlying136 rfl i_did10) rfl ?_
 obtain ⟨hX,hW,hR,hold,hrl,hb⟩:=HX.out
 obtain ⟨hml,href,hw2,hR2⟩:=HM.out
 have k:=wrote4 w2 (w.heap.size+1) (.int .i64 d.ev) (.int .i64 (b2i d.enq)) (.int .i64 (b2i d.arr)) (.int .i64 (b2i d.lead))
 have hb:M.base≤w.heap.size:=hb
 refine ⟨rfl,Kf.MlAt.apart hml k (λe=>by have hrl:M.r<w.heap.size:=hrl;unfold One at e;omega) (λj hj e=>by have:=hold j (.inl hj);unfold One at e;omega),Kf.ref_off (d:=Dd.no) href k hR2,?_⟩
 have kk:Wr (RiF (.tk M) bk dv) w w2:=(hW.mono (T:=RiF (.tk M) bk dv) λ_ _ e=>e.elim).trans hw2 λb _ e=>e
 exact kk.trans k λb hb e=>by unfold One at e;omega
theorem ri_step_cl {w:World} {M:Kc.Mp} {bk:Nat} {so:Option Addr} {cap:Nat} {dv:Value} {f:Kc.FL} {o:Nat} (h:RiIn w (.cl M) bk so cap dv (.cl f) o) (t u:Int):
  Calls prog 130 #[.agg #[.int .i64 3,.pointer none,.pointer (some ⟨M.r,0,none⟩),.pointer none],.pointer (some ⟨M.pr,0,none⟩),.int .i64 t,.int .i64 u] w (RiPost w (.cl M) bk dv (.cl (f.step (Kc.lp o) t u)) (f.did (Kc.lp o) t u)):=by
 obtain ⟨X,hX⟩:∃ X,X=(w.alloc (.cells #[.int .i64 3,.pointer none,.pointer (some ⟨M.r,0,none⟩),.pointer none] 46)).alloc (.cells #[.int .i64 0,.int .i64 0,.int .i64 0,.int .i64 0] 136):=⟨_,rfl⟩
 have hW:Wr Nil w X:=by rw [hX];exact ((Wr.refl Nil w).alloc _).alloc _
 have e1:(w.alloc (.cells #[.int .i64 3,.pointer none,.pointer (some ⟨M.r,0,none⟩),.pointer none] 46)).heap.size=w.heap.size+1:=nblk_alloc _ _
 have hI:X.heap[w.heap.size]? =some (.cells #[.int .i64 3,.pointer none,.pointer (some ⟨M.r,0,none⟩),.pointer none] 46 (0,0)):=by rw [hX,blk_alloc_lt _ _ _ (by rw [e1];omega),blk_alloc_new]
 have hR:X.heap[w.heap.size+1]? =some (.cells #[.int .i64 0,.int .i64 0,.int .i64 0,.int .i64 0] 136 (0,0)):=by rw [hX,←e1,blk_alloc_new]
 have b0:=blk_cell hI 0
 have b1:=blk_cell hI 2
 have cM:=Kc.mm_step (ri_cl (h.after hW)) t u 0
 have hold:∀ b,Kc.MG M bk dv b→b<w.heap.size:=λb hb=>by
  rcases hb with hb|hb
  ·exact (Rp.At.lt h.ml).2 b hb
  ·exact (Kc.foot_lt h.ref hb).2
 have hrl:=(Rp.At.lt h.ml).1
 have HX:=Lib.hid (And.intro hX (And.intro hW (And.intro hR (And.intro hold (And.intro hrl h.hb)))))
 clear hX hW e1 hI hR hold hrl h
 go_enter func130,ntmps130
 go_upto_region 1 with fail
 rw [←HX.out.1]
 go_wp2_with (go_at_call 134;(with_reducible refine cM.mono ?_);intro e w2 hq;unfold Kc.MmPost at hq;obtain ⟨rfl,hml,href,hw2⟩:=hq;dsimp only [Dd.rval];have hR2:=(hw2.block _ (blk_lt HX.out.2.2.1) (λe=>by have:=HX.out.2.2.2.1 _ e;omega)).trans HX.out.2.2.1;have v0:=blk_cell hR2 0;have v1:=blk_cell hR2 1;have v2:=blk_cell hR2 2;have v3:=blk_cell hR2 3;have z0:=blk_frozen hR2 0;have z1:=blk_frozen hR2 1;have z2:=blk_frozen hR2 2;have z3:=blk_frozen hR2 3;have HM:=Lib.hid (And.intro hml (And.intro href (And.intro hw2 hR2)));clear hml href hw2 hR2)
 generalize hd:f.did (Kc.lp o) t u=d at*
 refine bodyPost_ret (v:=Dd.rval d) (results_cell_row rfl _ _ (w.heap.size+1) 136 _ (0,0) _ rfl (set4 HM.out.2.2.2 rfl _ _ _ _) underlying136 rfl i_did10) rfl ?_
 obtain ⟨hX,hW,hR,hold,hrl,hb⟩:=HX.out
 obtain ⟨hml,href,hw2,hR2⟩:=HM.out
 have k:=wrote4 w2 (w.heap.size+1) (.int .i64 d.ev) (.int .i64 (b2i d.enq)) (.int .i64 (b2i d.arr)) (.int .i64 (b2i d.lead))
 have hb:M.base≤w.heap.size:=hb
 refine ⟨rfl,Kc.MlAt.apart hml k (λe=>by have hrl:M.r<w.heap.size:=hrl;unfold One at e;omega) (λj hj e=>by have:=hold j (.inl hj);unfold One at e;omega),Kc.ref_off (d:=Dd.no) href k hR2,?_⟩
 have kk:Wr (RiF (.cl M) bk dv) w w2:=(hW.mono (T:=RiF (.cl M) bk dv) λ_ _ e=>e.elim).trans hw2 λb _ e=>e
 exact kk.trans k λb hb e=>by unfold One at e;omega
theorem ri_step_mc {w:World} {M:Km.Mp} {bk:Nat} {so:Option Addr} {cap:Nat} {dv:Value} {f:Km.FL} {o:Nat} (h:RiIn w (.mc M) bk so cap dv (.mc f) o) (t u:Int):
  Calls prog 130 #[.agg #[.int .i64 4,.pointer none,.pointer none,.pointer (some ⟨M.r,0,none⟩)],.pointer (some ⟨M.pr,0,none⟩),.int .i64 t,.int .i64 u] w (RiPost w (.mc M) bk dv (.mc (f.step (Km.lp o) t u)) (f.did (Km.lp o) t u)):=by
 obtain ⟨X,hX⟩:∃ X,X=(w.alloc (.cells #[.int .i64 4,.pointer none,.pointer none,.pointer (some ⟨M.r,0,none⟩)] 46)).alloc (.cells #[.int .i64 0,.int .i64 0,.int .i64 0,.int .i64 0] 136):=⟨_,rfl⟩
 have hW:Wr Nil w X:=by rw [hX];exact ((Wr.refl Nil w).alloc _).alloc _
 have e1:(w.alloc (.cells #[.int .i64 4,.pointer none,.pointer none,.pointer (some ⟨M.r,0,none⟩)] 46)).heap.size=w.heap.size+1:=nblk_alloc _ _
 have hI:X.heap[w.heap.size]? =some (.cells #[.int .i64 4,.pointer none,.pointer none,.pointer (some ⟨M.r,0,none⟩)] 46 (0,0)):=by rw [hX,blk_alloc_lt _ _ _ (by rw [e1];omega),blk_alloc_new]
 have hR:X.heap[w.heap.size+1]? =some (.cells #[.int .i64 0,.int .i64 0,.int .i64 0,.int .i64 0] 136 (0,0)):=by rw [hX,←e1,blk_alloc_new]
 have b0:=blk_cell hI 0
 have b1:=blk_cell hI 3
 have cM:=Km.mm_step (ri_mc (h.after hW)) t u 0
 have hold:∀ b,Km.MG M bk dv b→b<w.heap.size:=λb hb=>by
  rcases hb with hb|hb
  ·exact (Rp.At.lt h.ml).2 b hb
  ·exact (Km.foot_lt h.ref hb).2
 have hrl:=(Rp.At.lt h.ml).1
 have HX:=Lib.hid (And.intro hX (And.intro hW (And.intro hR (And.intro hold (And.intro hrl h.hb)))))
 clear hX hW e1 hI hR hold hrl h
 go_enter func130,ntmps130
 go_upto_region 1 with fail
 rw [←HX.out.1]
 go_wp2_with (go_at_call 135;(with_reducible refine cM.mono ?_);intro e w2 hq;unfold Km.MmPost at hq;obtain ⟨rfl,hml,href,hw2⟩:=hq;dsimp only [Dd.rval];have hR2:=(hw2.block _ (blk_lt HX.out.2.2.1) (λe=>by have:=HX.out.2.2.2.1 _ e;omega)).trans HX.out.2.2.1;have v0:=blk_cell hR2 0;have v1:=blk_cell hR2 1;have v2:=blk_cell hR2 2;have v3:=blk_cell hR2 3;have z0:=blk_frozen hR2 0;have z1:=blk_frozen hR2 1;have z2:=blk_frozen hR2 2;have z3:=blk_frozen hR2 3;have HM:=Lib.hid (And.intro hml (And.intro href (And.intro hw2 hR2)));clear hml href hw2 hR2)
 generalize hd:f.did (Km.lp o) t u=d at*
 refine bodyPost_ret (v:=Dd.rval d) (results_cell_row rfl _ _ (w.heap.size+1) 136 _ (0,0) _ rfl (set4 HM.out.2.2.2 rfl _ _ _ _) underlying136 rfl i_did10) rfl ?_
 obtain ⟨hX,hW,hR,hold,hrl,hb⟩:=HX.out
 obtain ⟨hml,href,hw2,hR2⟩:=HM.out
 have k:=wrote4 w2 (w.heap.size+1) (.int .i64 d.ev) (.int .i64 (b2i d.enq)) (.int .i64 (b2i d.arr)) (.int .i64 (b2i d.lead))
 have hb:M.base≤w.heap.size:=hb
 refine ⟨rfl,Km.MlAt.apart hml k (λe=>by have hrl:M.r<w.heap.size:=hrl;unfold One at e;omega) (λj hj e=>by have:=hold j (.inl hj);unfold One at e;omega),Km.ref_off (d:=Dd.no) href k hR2,?_⟩
 have kk:Wr (RiF (.mc M) bk dv) w w2:=(hW.mono (T:=RiF (.mc M) bk dv) λ_ _ e=>e.elim).trans hw2 λb _ e=>e
 exact kk.trans k λb hb e=>by unfold One at e;omega
theorem ri_step {w:World} {R:Rp} {bk:Nat} {so:Option Addr} {cap:Nat} {dv:Value} {x:Inn} {o:Nat} (h:RiIn w R bk so cap dv x o) (t u:Int):
  Calls prog 130 #[.agg R.cells,.pointer (some ⟨R.pr,0,none⟩),.int .i64 t,.int .i64 u] w (RiPost w R bk dv (x.step (o:Nat) t u) (x.did (o:Nat) t u)):=by
 cases R<;>cases x
 case tk.tk M f=>exact ri_step_tk h t u
 case cl.cl M f=>exact ri_step_cl h t u
 case mc.mc M f=>exact ri_step_mc h t u
 all_goals exact h.ml.elim
end Go.Proofs.YtkmikkjjnbikdaaGreat

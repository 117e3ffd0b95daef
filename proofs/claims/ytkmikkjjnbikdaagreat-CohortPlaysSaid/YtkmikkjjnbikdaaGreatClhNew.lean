
import Derived.Test.YtkmikkjjnbikdaaGreatHomed
import Derived.Deep.RegionHeld3
namespace Go.Proofs.YtkmikkjjnbikdaaGreat.Kc
set_option maxHeartbeats 8000000
open _root_.Go.Proofs.Tryz
open Go.RowKit Go.BigFrame
set_option linter.unusedVariables false
set_option maxRecDepth 100000
theorem fl_use {w:World} {L:Lp} {pv:Value} {s:SS} {pc node ahd:Nat→Int} (h:FlRaw w L pv s pc node ahd) (a:Addr):
  Calls prog 157 #[.pointer (some ⟨L.lb,0,none⟩),.pointer (some a)] w λe w'=>e= .returned (.tuple #[])∧w'=w.setCell ⟨L.lb,1,none⟩ (.pointer (some a)):=by
 have c1:=h.cell1
 have f1:=h.frozen 1
 clear h
 go_enter func157,ntmps157
 go_wp2
 go_end0
 exact ⟨rfl,rfl⟩
theorem LkAt.bd {w:World} {L:Lp} {f:FL} (h:LkAt w L f) (k:Nat):(0≤f.node k∧f.node k<4294967296)∧(0≤f.ahd k∧f.ahd k<4294967296)∧0≤L.a2∧L.a2≤2000000:=by
 have:=h.raw.rng k
 have:=h.raw.adr
 omega
theorem wrap_flag {a x:Int} (h0:0≤a) (h1:a≤2000000) (h2:0≤x) (h3:x<4294967296):IntKind.i64.wrap (a+x)=a+x∧IntKind.i64.wrap x=x:=by rw [IntKind.wrap_i64,IntKind.wrap_i64];omega
theorem fl_flag {w:World} {L:Lp} {f:FL} (h:LkAt w L f) (x:Int) (hx:0≤x∧x<4294967296):
  Calls prog 161 #[.pointer (some ⟨L.lb,0,none⟩),.int .u32 x] w λe w'=>e= .returned (.int .i64 (L.a2+x))∧w=w':=by
 have c3:=h.raw.cell3
 obtain ⟨_,_,a0,a1⟩:=h.bd 0
 obtain ⟨w1,w2⟩:=wrap_flag a0 a1 hx.1 hx.2
 clear h
 go_enter func161,ntmps161
 go_wp2
 go_ret
 exact ⟨rfl,rfl⟩
theorem fl_acq0 {w:World} {L:Lp} {f:FL} (h:LkAt w L f) (k:Nat) (hk:k<f.s.n) (u:Int) (hd:f.pc k=0) (hD:f.ps.D.length<4611686018427387904):
  Calls prog 158 #[.pointer (some ⟨L.lb,0,none⟩),.int .i64 (k:Int),.int .i64 u] w (LkPost w L (f.acq L k u) (f.acqD L k u).val):=by
 have e1:f.acq L k u={f with pc:=upd f.pc k 1,ps:=doS f.ps u 2 (L.a2+f.node k) 0 1}:=by unfold FL.acq;rw [if_pos hd]
 have e2:f.acqD L k u=Dd.no:=by unfold FL.acqD;rw [if_pos hd]
 rw [e1,e2]
 clear e1 e2
 obtain ⟨bn,ba,a0,a1⟩:=h.bd k
 have hF:=Fr.start h
 obtain ⟨Z,hZ⟩:∃ Z,Z=w.alloc (.cells #[.int .i64 0,.bool false,.bool false,.bool false] 71):=⟨_,rfl⟩
 rw [←hZ] at hF
 have c1:=hF.lk.raw.cell1
 have c4:=hF.lk.raw.cell4
 have t0:=hF.lk.raw.tk0 hk
 have t1:=hF.lk.raw.tk1 hk
 rw [hd] at t0
 have cG:=fl_flag hF.drew.lk (f.node k) bn
 have cA:=pstore_any hF.drew.lk.port u (L.a2+f.node k) 1 (by omega) (by omega) hD
 have HE:=Lib.hid (And.intro h (And.intro hk hF))
 have hkI:(k:Int)<f.s.n:=by omega
 have hn64:=h.raw.seat.n2
 clear h hF bn ba a0 a1
 rw [hZ] at t0 c4
 go_enter func158,ntmps158
 go_wp2
 rw [←hZ]
 clear hZ t0 c4
 go_region_held3 (λw'=>w'.cell? ⟨L.lb,1,none⟩=some (.pointer (some ⟨L.q.p,0,none⟩))∧w'.cell? ⟨L.tb,k*3+1,none⟩=some (.int .u32 (f.node k))) (first|exact ⟨c1,t1⟩|exact ⟨d1,y1⟩) (first|(go_at_call 161;(with_reducible refine cG.mono ?_);rintro e w' ⟨rfl,rfl⟩)|(go_at_call 100;(with_reducible refine cA.mono ?_);intro e w2 hq;unfold AccPost at hq;obtain ⟨rfl,hP,hW⟩:=hq;have hA:=HE.out.2.2.drew.lk.ports hP hW;have d1:=hA.raw.cell1;have d2:=hA.raw.cell2;have d4:=hA.raw.cell4;have y0:=hA.raw.tk0 HE.out.2.1;have y1:=hA.raw.tk1 HE.out.2.1;have y2:=hA.raw.tk2 HE.out.2.1;have z0:=hA.raw.tkz (k*3);have z1:=hA.raw.tkz (k*3+1);have z2:=hA.raw.tkz (k*3+2);have hA3:=Fr.call HE.out.1 HE.out.2.2.drew hA (lf_q hW);have hT:=hA.tick0 k 1 (.inr (.inl rfl));have hA4:=Fr.call HE.out.1 hA3 hT.1 (lf_t hT.2);obtain ⟨v0,v1,v2,v3⟩:=hA4.cell;obtain ⟨x0,x1,x2,x3⟩:=hA4.frz;have HT:=Lib.hid hA4;clear hA hA3 hA4 hP hW))
 go_wp2
 refine bodyPost_ret (v:=Dd.val ⟨0,false,false,false⟩) (results_cell_row rfl _ _ w.heap.size 71 _ (0,0) _ rfl (set4 HT.out.res rfl _ _ _ _) underlying71 rfl i_did) rfl (HT.out.told HE.out.1 ⟨0,false,false,false⟩)
theorem fl_acq1 {w:World} {L:Lp} {f:FL} (h:LkAt w L f) (k:Nat) (hk:k<f.s.n) (u:Int) (hd:f.pc k=1) (hD:f.ps.D.length<4611686018427387904):
  Calls prog 158 #[.pointer (some ⟨L.lb,0,none⟩),.int .i64 (k:Int),.int .i64 u] w (LkPost w L (f.acq L k u) (f.acqD L k u).val):=by
 have e1:f.acq L k u={f with pc:=upd f.pc k 2,ahd:=upd f.ahd k (tellS f.ps u 3 L.a1),ps:=doS f.ps u 3 L.a1 0 (f.node k)}:=by unfold FL.acq;rw [if_neg (by omega),if_pos hd]
 have e2:f.acqD L k u=⟨0,true,false,false⟩:=by unfold FL.acqD;rw [if_neg (by omega),if_pos hd]
 rw [e1,e2]
 clear e1 e2
 obtain ⟨bn,ba,a0,a1⟩:=h.bd k
 have hT0:=h.tell u 3 L.a1
 have hF:=Fr.start h
 obtain ⟨Z,hZ⟩:∃ Z,Z=w.alloc (.cells #[.int .i64 0,.bool false,.bool false,.bool false] 71):=⟨_,rfl⟩
 rw [←hZ] at hF
 have c1:=hF.lk.raw.cell1
 have c2:=hF.lk.raw.cell2
 have c4:=hF.lk.raw.cell4
 have t0:=hF.lk.raw.tk0 hk
 have t1:=hF.lk.raw.tk1 hk
 rw [hd] at t0
 have cA:=pswap_any hF.drew.lk.port u L.a1 (f.node k) bn.1 bn.2 hD
 have HT0:=Lib.hid hT0
 have HE:=Lib.hid (And.intro h (And.intro hk hF))
 have hkI:(k:Int)<f.s.n:=by omega
 have hn64:=h.raw.seat.n2
 clear h hF bn ba a0 a1 hT0
 rw [hZ] at t0 c4
 go_enter func158,ntmps158
 go_wp2
 rw [←hZ]
 clear hZ t0 c4
 go_region_held3 (λw'=>w'.cell? ⟨L.lb,1,none⟩=some (.pointer (some ⟨L.q.p,0,none⟩))∧w'.cell? ⟨L.lb,2,none⟩=some (.int .i64 L.a1)∧w'.cell? ⟨L.tb,k*3+1,none⟩=some (.int .u32 (f.node k))) (first|exact ⟨c1,c2,t1⟩|exact ⟨d1,d2,y1⟩|exact ⟨q1,q2,r1⟩) (first|(go_at_call 162;(with_reducible refine cA.mono ?_);intro e w2 hq;unfold AccPost at hq;obtain ⟨rfl,hP,hW⟩:=hq;have hA:=HE.out.2.2.drew.lk.ports hP hW;have d1:=hA.raw.cell1;have d2:=hA.raw.cell2;have d4:=hA.raw.cell4;have y0:=hA.raw.tk0 HE.out.2.1;have y1:=hA.raw.tk1 HE.out.2.1;have y2:=hA.raw.tk2 HE.out.2.1;have z0:=hA.raw.tkz (k*3);have z1:=hA.raw.tkz (k*3+1);have z2:=hA.raw.tkz (k*3+2);have hA3:=Fr.call HE.out.1 HE.out.2.2.drew hA (lf_q hW);have hB:=hA.turns (hA.raw.tset2 k (tellS f.ps u 3 L.a1) HT0.out);have q1:=hB.1.raw.cell1;have q2:=hB.1.raw.cell2;have r1:=hB.1.raw.tk1 HE.out.2.1;have r0:=hB.1.raw.tk0 HE.out.2.1;have s0:=hB.1.raw.tkz (k*3);have hT:=hA.tick20 k 2 (tellS f.ps u 3 L.a1) (.inr (.inr rfl)) HT0.out;have hA4:=Fr.call HE.out.1 hA3 hT.1 (lf_t hT.2);clear hB;obtain ⟨v0,v1,v2,v3⟩:=hA4.cell;obtain ⟨x0,x1,x2,x3⟩:=hA4.frz;have HT:=Lib.hid hA4;clear hA hA3 hA4 hP hW))
 go_wp2
 refine bodyPost_ret (v:=Dd.val ⟨0,true,false,false⟩) (results_cell_row rfl _ _ w.heap.size 71 _ (0,0) _ rfl (set4 HT.out.res rfl _ _ _ _) underlying71 rfl i_did) rfl (HT.out.told HE.out.1 ⟨0,true,false,false⟩)
theorem fl_acq2 {w:World} {L:Lp} {f:FL} (h:LkAt w L f) (k:Nat) (hk:k<f.s.n) (u:Int) (hd:f.pc k=2) (hD:f.ps.D.length<4611686018427387904):
  Calls prog 158 #[.pointer (some ⟨L.lb,0,none⟩),.int .i64 (k:Int),.int .i64 u] w (LkPost w L (f.acq L k u) (f.acqD L k u).val):=by
 have e1:f.acq L k u={f with ps:=doS f.ps u 1 (L.a2+f.ahd k) 0 0}:=by unfold FL.acq;rw [if_neg (by omega),if_neg (by omega)]
 have e2:f.acqD L k u=if tellS f.ps u 1 (L.a2+f.ahd k)=0 then ⟨1,false,false,false⟩ else Dd.no:=by unfold FL.acqD;rw [if_neg (by omega),if_neg (by omega)]
 rw [e1,e2]
 clear e1 e2
 obtain ⟨bn,ba,a0,a1⟩:=h.bd k
 have hF:=Fr.start h
 obtain ⟨Z,hZ⟩:∃ Z,Z=w.alloc (.cells #[.int .i64 0,.bool false,.bool false,.bool false] 71):=⟨_,rfl⟩
 rw [←hZ] at hF
 have c1:=hF.lk.raw.cell1
 have c4:=hF.lk.raw.cell4
 have t0:=hF.lk.raw.tk0 hk
 have t2:=hF.lk.raw.tk2 hk
 rw [hd] at t0
 have cG:=fl_flag hF.drew.lk (f.ahd k) ba
 have cA:=pload_any hF.drew.lk.port u (L.a2+f.ahd k) hD
 obtain ⟨v,hv⟩:∃ v,v=tellS f.ps u 1 (L.a2+f.ahd k):=⟨_,rfl⟩
 rw [←hv] at cA ⊢
 have HE:=Lib.hid (And.intro h (And.intro hk hF))
 have hkI:(k:Int)<f.s.n:=by omega
 have hn64:=h.raw.seat.n2
 clear h hF bn ba a0 a1 hv
 rw [hZ] at t0 c4
 by_cases hx:v=0
 ·rw [if_pos hx]
  subst hx
  go_enter func158,ntmps158
  go_wp2
  rw [←hZ]
  clear hZ t0 c4
  go_region_held3 (λw'=>w'.cell? ⟨L.lb,1,none⟩=some (.pointer (some ⟨L.q.p,0,none⟩))∧w'.cell? ⟨L.tb,k*3+2,none⟩=some (.int .u32 (f.ahd k))) (first|exact ⟨c1,t2⟩|exact ⟨d1,y2⟩) (first|(go_at_call 161;(with_reducible refine cG.mono ?_);rintro e w' ⟨rfl,rfl⟩)|(go_at_call 89;(with_reducible refine cA.mono ?_);intro e w2 hq;unfold AccPost at hq;obtain ⟨rfl,hP,hW⟩:=hq;have hA:=HE.out.2.2.drew.lk.ports hP hW;have d1:=hA.raw.cell1;have d2:=hA.raw.cell2;have d4:=hA.raw.cell4;have y0:=hA.raw.tk0 HE.out.2.1;have y1:=hA.raw.tk1 HE.out.2.1;have y2:=hA.raw.tk2 HE.out.2.1;have z0:=hA.raw.tkz (k*3);have z1:=hA.raw.tkz (k*3+1);have z2:=hA.raw.tkz (k*3+2);have hA3:=Fr.call HE.out.1 HE.out.2.2.drew hA (lf_q hW);obtain ⟨v0,v1,v2,v3⟩:=hA3.cell;obtain ⟨x0,x1,x2,x3⟩:=hA3.frz;have HT:=Lib.hid hA3;clear hA hA3 hP hW))
  go_wp2
  refine bodyPost_ret (v:=Dd.val ⟨1,false,false,false⟩) (results_cell_row rfl _ _ w.heap.size 71 _ (0,0) _ rfl (set4 HT.out.res rfl _ _ _ _) underlying71 rfl i_did) rfl (HT.out.told HE.out.1 ⟨1,false,false,false⟩)
 ·rw [if_neg hx]
  have b1:(v==0)=false:=beq_false_of_ne hx
  clear hx
  go_enter func158,ntmps158
  go_wp2
  rw [←hZ]
  clear hZ t0 c4
  go_region_held3 (λw'=>w'.cell? ⟨L.lb,1,none⟩=some (.pointer (some ⟨L.q.p,0,none⟩))∧w'.cell? ⟨L.tb,k*3+2,none⟩=some (.int .u32 (f.ahd k))) (first|exact ⟨c1,t2⟩|exact ⟨d1,y2⟩) (first|(go_at_call 161;(with_reducible refine cG.mono ?_);rintro e w' ⟨rfl,rfl⟩)|(go_at_call 89;(with_reducible refine cA.mono ?_);intro e w2 hq;unfold AccPost at hq;obtain ⟨rfl,hP,hW⟩:=hq;have hA:=HE.out.2.2.drew.lk.ports hP hW;have d1:=hA.raw.cell1;have d2:=hA.raw.cell2;have d4:=hA.raw.cell4;have y0:=hA.raw.tk0 HE.out.2.1;have y1:=hA.raw.tk1 HE.out.2.1;have y2:=hA.raw.tk2 HE.out.2.1;have z0:=hA.raw.tkz (k*3);have z1:=hA.raw.tkz (k*3+1);have z2:=hA.raw.tkz (k*3+2);have hA3:=Fr.call HE.out.1 HE.out.2.2.drew hA (lf_q hW);obtain ⟨v0,v1,v2,v3⟩:=hA3.cell;obtain ⟨x0,x1,x2,x3⟩:=hA3.frz;have HT:=Lib.hid hA3;clear hA hA3 hP hW))
  go_wp2
  refine bodyPost_ret (v:=Dd.val ⟨0,false,false,false⟩) (results_cell_row rfl _ _ w.heap.size 71 _ (0,0) _ rfl (set4 HT.out.res rfl _ _ _ _) underlying71 rfl i_did) rfl (HT.out.told HE.out.1 ⟨0,false,false,false⟩)
theorem fl_acq {w:World} {L:Lp} {f:FL} (h:LkAt w L f) (k:Nat) (hk:k<f.s.n) (u:Int) (hD:f.ps.D.length<4611686018427387904):
  Calls prog 158 #[.pointer (some ⟨L.lb,0,none⟩),.int .i64 (k:Int),.int .i64 u] w (LkPost w L (f.acq L k u) (f.acqD L k u).val):=by
 rcases (h.raw.rng k).1 with hd|hd|hd
 ·exact fl_acq0 h k hk u hd hD
 ·exact fl_acq1 h k hk u hd hD
 ·exact fl_acq2 h k hk u hd hD
theorem fl_rel {w:World} {L:Lp} {f:FL} (h:LkAt w L f) (k:Nat) (hk:k<f.s.n) (u:Int) (hD:f.ps.D.length<4611686018427387904):
  Calls prog 159 #[.pointer (some ⟨L.lb,0,none⟩),.int .i64 (k:Int),.int .i64 u] w (LkPost w L (f.rel L k u) (Dd.val ⟨3,false,false,false⟩)):=by
 unfold FL.rel
 obtain ⟨bn,ba,a0,a1⟩:=h.bd k
 have hF:=Fr.start h
 obtain ⟨Z,hZ⟩:∃ Z,Z=w.alloc (.cells #[.int .i64 0,.bool false,.bool false,.bool false] 71):=⟨_,rfl⟩
 rw [←hZ] at hF
 have c1:=hF.lk.raw.cell1
 have c4:=hF.lk.raw.cell4
 have t1:=hF.lk.raw.tk1 hk
 have cG:=fl_flag hF.drew.lk (f.node k) bn
 have cA:=pstore_any hF.drew.lk.port u (L.a2+f.node k) 0 (by omega) (by omega) hD
 have HB:=Lib.hid ba
 have HE:=Lib.hid (And.intro h (And.intro hk hF))
 have hkI:(k:Int)<f.s.n:=by omega
 have hn64:=h.raw.seat.n2
 clear h hF bn ba a0 a1
 rw [hZ] at c4
 go_enter func159,ntmps159
 go_wp2
 rw [←hZ]
 clear hZ c4
 go_region_held3 (λw'=>w'.cell? ⟨L.lb,1,none⟩=some (.pointer (some ⟨L.q.p,0,none⟩))∧w'.cell? ⟨L.tb,k*3+1,none⟩=some (.int .u32 (f.node k))) (first|exact ⟨c1,t1⟩|exact ⟨d1,y1⟩) (first|(go_at_call 161;(with_reducible refine cG.mono ?_);rintro e w' ⟨rfl,rfl⟩)|(go_at_call 100;(with_reducible refine cA.mono ?_);intro e w2 hq;unfold AccPost at hq;obtain ⟨rfl,hP,hW⟩:=hq;have hA:=HE.out.2.2.drew.lk.ports hP hW;have d1:=hA.raw.cell1;have d2:=hA.raw.cell2;have d4:=hA.raw.cell4;have y0:=hA.raw.tk0 HE.out.2.1;have y1:=hA.raw.tk1 HE.out.2.1;have y2:=hA.raw.tk2 HE.out.2.1;have z0:=hA.raw.tkz (k*3);have z1:=hA.raw.tkz (k*3+1);have z2:=hA.raw.tkz (k*3+2);have hA3:=Fr.call HE.out.1 HE.out.2.2.drew hA (lf_q hW);have hT:=hA.tick3 k 0 (f.ahd k) 0 (.inl rfl) HB.out (by decide);have hA4:=Fr.call HE.out.1 hA3 hT.1 (lf_t hT.2);obtain ⟨v0,v1,v2,v3⟩:=hA4.cell;obtain ⟨x0,x1,x2,x3⟩:=hA4.frz;have HT:=Lib.hid hA4;clear hA hA3 hA4 hP hW))
 go_wp2
 refine bodyPost_ret (v:=Dd.val ⟨3,false,false,false⟩) (results_cell_row rfl _ _ w.heap.size 71 _ (0,0) _ rfl (set4 HT.out.res rfl _ _ _ _) underlying71 rfl i_did) rfl (HT.out.told HE.out.1 ⟨3,false,false,false⟩)
theorem fl_ask {w:World} {L:Lp} {f:FL} (h:LkAt w L f) (k:Nat) (hk:k<f.s.n) (u:Int) (hD:f.ps.D.length<4611686018427387904):
  Calls prog 160 #[.pointer (some ⟨L.lb,0,none⟩),.int .i64 (k:Int),.int .i64 u] w (LkPost w L (f.ask L k u) (f.askD L k u).val):=by
 unfold FL.ask FL.askD
 obtain ⟨bn,ba,a0,a1⟩:=h.bd k
 have hF:=Fr.start h
 obtain ⟨Z,hZ⟩:∃ Z,Z=w.alloc (.cells #[.int .i64 0,.bool false,.bool false,.bool false] 71):=⟨_,rfl⟩
 rw [←hZ] at hF
 have c1:=hF.lk.raw.cell1
 have c2:=hF.lk.raw.cell2
 have c4:=hF.lk.raw.cell4
 have t1:=hF.lk.raw.tk1 hk
 have cA:=pload_any hF.drew.lk.port u L.a1 hD
 obtain ⟨v,hv⟩:∃ v,v=tellS f.ps u 1 L.a1:=⟨_,rfl⟩
 rw [←hv] at cA ⊢
 have HE:=Lib.hid (And.intro h (And.intro hk hF))
 have hkI:(k:Int)<f.s.n:=by omega
 have hn64:=h.raw.seat.n2
 clear h hF bn ba a0 a1 hv
 by_cases hx:v=f.node k
 ·rw [if_pos hx]
  have b1:(v != f.node k)=false:=by rw [hx];simp
  clear hx
  go_enter func160,ntmps160
  go_wp2
  rw [←hZ]
  clear hZ
  go_region_held3 (λw'=>w'.cell? ⟨L.lb,1,none⟩=some (.pointer (some ⟨L.q.p,0,none⟩))∧w'.cell? ⟨L.lb,2,none⟩=some (.int .i64 L.a1)∧w'.cell? ⟨L.lb,4,none⟩=some (.slice (some ⟨L.tb,0,none⟩) f.s.n f.s.n)∧w'.cell? ⟨L.tb,k*3+1,none⟩=some (.int .u32 (f.node k))) (first|exact ⟨c1,c2,c4,t1⟩|exact ⟨d1,d2,d4,y1⟩) (first|(go_at_call 89;(with_reducible refine cA.mono ?_);intro e w2 hq;unfold AccPost at hq;obtain ⟨rfl,hP,hW⟩:=hq;have hA:=HE.out.2.2.drew.lk.ports hP hW;have d1:=hA.raw.cell1;have d2:=hA.raw.cell2;have d4:=hA.raw.cell4;have y0:=hA.raw.tk0 HE.out.2.1;have y1:=hA.raw.tk1 HE.out.2.1;have y2:=hA.raw.tk2 HE.out.2.1;have z0:=hA.raw.tkz (k*3);have z1:=hA.raw.tkz (k*3+1);have z2:=hA.raw.tkz (k*3+2);have hA3:=Fr.call HE.out.1 HE.out.2.2.drew hA (lf_q hW);obtain ⟨v0,v1,v2,v3⟩:=hA3.cell;obtain ⟨x0,x1,x2,x3⟩:=hA3.frz;have HT:=Lib.hid hA3;clear hA hA3 hP hW))
  go_wp2
  refine bodyPost_ret (v:=Dd.val ⟨4,false,false,false⟩) (results_cell_row rfl _ _ w.heap.size 71 _ (0,0) _ rfl (set4 HT.out.res rfl _ _ _ _) underlying71 rfl i_did) rfl (HT.out.told HE.out.1 ⟨4,false,false,false⟩)
 ·rw [if_neg hx]
  have b1:(v != f.node k)=true:=by simpa [bne,BEq.beq] using hx
  clear hx
  go_enter func160,ntmps160
  go_wp2
  rw [←hZ]
  clear hZ
  go_region_held3 (λw'=>w'.cell? ⟨L.lb,1,none⟩=some (.pointer (some ⟨L.q.p,0,none⟩))∧w'.cell? ⟨L.lb,2,none⟩=some (.int .i64 L.a1)∧w'.cell? ⟨L.lb,4,none⟩=some (.slice (some ⟨L.tb,0,none⟩) f.s.n f.s.n)∧w'.cell? ⟨L.tb,k*3+1,none⟩=some (.int .u32 (f.node k))) (first|exact ⟨c1,c2,c4,t1⟩|exact ⟨d1,d2,d4,y1⟩) (first|(go_at_call 89;(with_reducible refine cA.mono ?_);intro e w2 hq;unfold AccPost at hq;obtain ⟨rfl,hP,hW⟩:=hq;have hA:=HE.out.2.2.drew.lk.ports hP hW;have d1:=hA.raw.cell1;have d2:=hA.raw.cell2;have d4:=hA.raw.cell4;have y0:=hA.raw.tk0 HE.out.2.1;have y1:=hA.raw.tk1 HE.out.2.1;have y2:=hA.raw.tk2 HE.out.2.1;have z0:=hA.raw.tkz (k*3);have z1:=hA.raw.tkz (k*3+1);have z2:=hA.raw.tkz (k*3+2);have hA3:=Fr.call HE.out.1 HE.out.2.2.drew hA (lf_q hW);obtain ⟨v0,v1,v2,v3⟩:=hA3.cell;obtain ⟨x0,x1,x2,x3⟩:=hA3.frz;have HT:=Lib.hid hA3;clear hA hA3 hP hW))
  go_wp2
  refine bodyPost_ret (v:=Dd.val ⟨5,false,false,false⟩) (results_cell_row rfl _ _ w.heap.size 71 _ (0,0) _ rfl (set4 HT.out.res rfl _ _ _ _) underlying71 rfl i_did) rfl (HT.out.told HE.out.1 ⟨5,false,false,false⟩)
open _root_.Go.Proofs.Tryz Go.Deep
structure Fd (w:World) (B:Nat) (X:World) (L:Lp) (f:FL) (C:Nat) (d:Dd):Prop where
 fr:Fr w B X L f
 did:X.heap[C]? =some (.cells (didC d) 71 (0,0))
 far:w.heap.size≤C
 ne:C≠B
theorem Fd.cell {w X:World} {B C:Nat} {L:Lp} {f:FL} {d:Dd} (h:Fd w B X L f C d):X.cell? ⟨C,0,none⟩=some (.int .i64 d.ev)∧X.cell? ⟨C,1,none⟩=some (.bool d.enq)∧X.cell? ⟨C,2,none⟩=some (.bool d.arr)∧X.cell? ⟨C,3,none⟩=some (.bool d.lead):=by
 rw [blk_cell h.did,blk_cell h.did,blk_cell h.did,blk_cell h.did];exact ⟨rfl,rfl,rfl,rfl⟩
theorem Fd.frz {w X:World} {B C:Nat} {L:Lp} {f:FL} {d:Dd} (h:Fd w B X L f C d):X.frozen? ⟨C,0,none⟩=false∧X.frozen? ⟨C,1,none⟩=false∧X.frozen? ⟨C,2,none⟩=false∧X.frozen? ⟨C,3,none⟩=false:=
 ⟨blk_frozen h.did 0,blk_frozen h.did 1,blk_frozen h.did 2,blk_frozen h.did 3⟩
theorem Fd.call {w X Y:World} {B C:Nat} {L:Lp} {f g f0:FL} {d:Dd} (h0:LkAt w L f0) (h:Fd w B X L f C d) (hl:LkAt Y L g) (k:Wr (LF L) X Y):Fd w B Y L g C d:=
 ⟨Fr.call h0 h.fr hl k,(k.block C (blk_lt h.did) (λe=>by have:=h0.lf_lt e;have:=h.far;omega)).trans h.did,h.far,h.ne⟩
theorem Fd.keep {w X:World} {B C:Nat} {L:Lp} {f f0:FL} {d:Dd} (h0:LkAt w L f0) (h:Fd w B X L f C d) (d':Dd):
  Fd w B ((((X.setCell ⟨C,0,none⟩ (.int .i64 d'.ev)).setCell ⟨C,1,none⟩ (.bool d'.enq)).setCell ⟨C,2,none⟩ (.bool d'.arr)).setCell ⟨C,3,none⟩ (.bool d'.lead)) L f C d':=by
 have k:=wrote4 X C (.int .i64 d'.ev) (.bool d'.enq) (.bool d'.arr) (.bool d'.lead)
 have hf:=h.far
 have hC:∀ j,j<w.heap.size→¬ One C j:=λj hj e=>by cases e;omega
 refine ⟨⟨h.fr.lk.wrote k (hC _ (blk_lt h0.raw.obj)) (hC _ (blk_lt h0.raw.seat.obj)) (hC _ (blk_lt h0.raw.seat.ctx)) (hC _ (blk_lt h0.raw.tick)) (λb _ b2=>hC b (Nat.lt_of_lt_of_le b2 h0.top)),h.fr.wr.trans k λb hb e=>(hC b hb e).elim,(k.block B (blk_lt h.fr.res) λe=>h.ne e.symm).trans h.fr.res,h.fr.new⟩,set4 h.did rfl _ _ _ _,h.far,h.ne⟩
theorem Fd.ends {w X Y:World} {B C:Nat} {L:Lp} {f g:FL} {d:Dd} (h0:LkAt w L f) (h:Fd w B X L g C d) {s':SS} (hS:SeatAt Y L.p L.b s') (hn:s'.n=g.s.n) (k:Wr (One L.b) X Y):Fd w B Y L {g with s:=s'} C d:=
 h.call h0 (h.fr.lk.seats hS hn k) (lf_b k)
theorem hs_start {w:World} {L:Lp} {f:FL} (h:LkAt w L f) (cs:Array Value):
  Fd w (w.heap.size+1) (((w.alloc (.cells cs 113)).alloc (.cells #[.int .i64 0,.bool false,.bool false,.bool false] 71)).alloc (.cells #[.int .i64 0,.bool false,.bool false,.bool false] 71)) L f (w.heap.size+1+1) Dd.no∧
  (((w.alloc (.cells cs 113)).alloc (.cells #[.int .i64 0,.bool false,.bool false,.bool false] 71)).alloc (.cells #[.int .i64 0,.bool false,.bool false,.bool false] 71)).heap[w.heap.size]? =some (.cells cs 113 (0,0)):=by
 have e1:(w.alloc (.cells cs 113)).heap.size=w.heap.size+1:=nblk_alloc _ _
 have e2:((w.alloc (.cells cs 113)).alloc (.cells #[.int .i64 0,.bool false,.bool false,.bool false] 71)).heap.size=w.heap.size+1+1:=by rw [nblk_alloc,e1]
 have k:Wr Nil w (((w.alloc (.cells cs 113)).alloc (.cells #[.int .i64 0,.bool false,.bool false,.bool false] 71)).alloc (.cells #[.int .i64 0,.bool false,.bool false,.bool false] 71)):=(((Wr.refl _ w).alloc _).alloc _).alloc _
 refine ⟨⟨⟨h.after k,k.mono λ_ _ e=>e.elim,?_,Nat.le_succ _⟩,?_,by omega,by omega⟩,?_⟩
 ·rw [blk_alloc_lt _ _ _ (by rw [e2];omega),←e1,blk_alloc_new];rfl
 ·rw [←e2,blk_alloc_new];rfl
 ·rw [blk_alloc_lt _ _ _ (by rw [e2];omega),blk_alloc_lt _ _ _ (by rw [e1];omega),blk_alloc_new]
theorem hs_step {w:World} {L:Lp} {f:FL} (h:LkAt w L f) (t u:Int) (hD:f.ps.D.length<4611686018427387904):
  Calls prog 42 #[.pointer (some ⟨L.p,0,none⟩),.int .i64 t,.int .i64 u,.agg #[Value.func (.func 158) #[.pointer (some ⟨L.lb,0,none⟩)] #[],Value.func (.func 159) #[.pointer (some ⟨L.lb,0,none⟩)] #[],Value.func (.func 160) #[.pointer (some ⟨L.lb,0,none⟩)] #[]]] w (LkPost w L (f.step L t u) (f.did L t u).val):=by
 obtain ⟨hF,hB⟩:=hs_start h #[Value.func (.func 158) #[.pointer (some ⟨L.lb,0,none⟩)] #[],Value.func (.func 159) #[.pointer (some ⟨L.lb,0,none⟩)] #[],Value.func (.func 160) #[.pointer (some ⟨L.lb,0,none⟩)] #[]]
 obtain ⟨Z,hZ⟩:∃ Z,Z=((w.alloc (.cells #[Value.func (.func 158) #[.pointer (some ⟨L.lb,0,none⟩)] #[],Value.func (.func 159) #[.pointer (some ⟨L.lb,0,none⟩)] #[],Value.func (.func 160) #[.pointer (some ⟨L.lb,0,none⟩)] #[]] 113)).alloc (.cells #[.int .i64 0,.bool false,.bool false,.bool false] 71)).alloc (.cells #[.int .i64 0,.bool false,.bool false,.bool false] 71):=⟨_,rfl⟩
 rw [←hZ] at hF hB
 have b0:Z.cell? ⟨w.heap.size,0,none⟩=some (Value.func (.func 158) #[.pointer (some ⟨L.lb,0,none⟩)] #[]):=(blk_cell hB 0).trans rfl
 have b1:Z.cell? ⟨w.heap.size,1,none⟩=some (Value.func (.func 159) #[.pointer (some ⟨L.lb,0,none⟩)] #[]):=(blk_cell hB 1).trans rfl
 have b2:Z.cell? ⟨w.heap.size,2,none⟩=some (Value.func (.func 160) #[.pointer (some ⟨L.lb,0,none⟩)] #[]):=(blk_cell hB 2).trans rfl
 have cS:=se_state hF.fr.lk.raw.seat t
 obtain ⟨v0,v1,v2,v3⟩:=hF.fr.cell
 obtain ⟨x0,x1,x2,x3⟩:=hF.fr.frz
 obtain ⟨p0,p1,p2,p3⟩:=hF.cell
 have hn:=h.raw.seat.n2
 by_cases ht:0≤t∧t<f.s.n
 ·obtain ⟨k,rfl⟩:=Int.eq_ofNat_of_zero_le ht.1
  have hk:k<f.s.n:=by omega
  have eS:f.s.stI (k:Int)=f.s.st k:=by unfold SS.stI;rw [if_pos ht,Int.toNat_natCast]
  rw [eS] at cS
  by_cases h1:f.s.st k=1
  ·have e1:f.mid L k u=f.acq L k u:=by unfold FL.mid;rw [if_pos ht,Int.toNat_natCast,if_pos h1]
   have e2:f.did L k u=f.acqD L k u:=by unfold FL.did;rw [if_pos ht,Int.toNat_natCast,if_pos h1]
   have es:=f.mid_s L k u
   unfold FL.step
   rw [e1] at es
   rw [e1,e2]
   rw [h1] at cS
   have cA:=fl_acq hF.fr.lk k hk u hD
   generalize f.acq L k u=g at*
   generalize f.acqD L k u=d at*
   have HE:=Lib.hid (And.intro h (And.intro hF es))
   have HZ:=Lib.hid hZ
   clear h hF eS e1 e2 hB es hZ h1
   generalize f.s.n=n at*
   go_enter func42,ntmps42
   go_wp2_with (first
    |(go_at_call 21;rw [←HZ.out];(with_reducible refine cS.mono ?_);rintro e w' ⟨rfl,rfl⟩)
    |(go_at_call 158;(with_reducible refine cA.mono ?_);intro e w2 hq;unfold LkPost at hq;obtain ⟨rfl,hA,hW⟩:=hq;dsimp only [Dd.val];have hA3:=HE.out.2.1.call HE.out.1 hA hW;obtain ⟨p0,p1,p2,p3⟩:=hA3.cell;obtain ⟨y0,y1,y2,y3⟩:=hA3.frz;have hK:=hA3.keep HE.out.1 d;have cE:=se_end hK.fr.lk.raw.seat (k:Int) d.ev;have HK:=Lib.hid hK;clear hA hA3 hK hW)
    |(go_at_call 62;(with_reducible refine cE.mono ?_);intro e w3 hq;unfold SeatPost at hq;obtain ⟨rfl,hS,hW⟩:=hq;have hY:=HK.out.ends HE.out.1 hS (SS.fin_n _ _ _) hW;obtain ⟨e0,e1,e2,e3⟩:=hY.cell;obtain ⟨v0,v1,v2,v3⟩:=hY.fr.cell;obtain ⟨x0,x1,x2,x3⟩:=hY.fr.frz;have HT:=Lib.hid hY;clear hY hS hW))
   rw [←HE.out.2.2]
   refine bodyPost_ret (v:=Dd.val d) (results_cell_row rfl _ _ (w.heap.size+1) 71 _ (0,0) _ rfl (set4 HT.out.fr.res rfl _ _ _ _) underlying71 rfl i_did) rfl (HT.out.fr.told HE.out.1 d)
  by_cases h3:f.s.st k=3
  ·have e1:f.mid L k u=f.rel L k u:=by unfold FL.mid;rw [if_pos ht,Int.toNat_natCast,if_neg h1,if_pos h3]
   have e2:f.did L k u=⟨3,false,false,false⟩:=by unfold FL.did;rw [if_pos ht,Int.toNat_natCast,if_neg h1,if_pos h3]
   have es:=f.mid_s L k u
   unfold FL.step
   rw [e1] at es
   rw [e1,e2]
   rw [h3] at cS
   have cA:=fl_rel hF.fr.lk k hk u hD
   generalize f.rel L k u=g at*
   have HE:=Lib.hid (And.intro h (And.intro hF es))
   have HZ:=Lib.hid hZ
   clear h hF eS e1 e2 hB es hZ h1 h3
   generalize f.s.n=n at*
   go_enter func42,ntmps42
   go_wp2_with (first
    |(go_at_call 21;rw [←HZ.out];(with_reducible refine cS.mono ?_);rintro e w' ⟨rfl,rfl⟩)
    |(go_at_call 159;(with_reducible refine cA.mono ?_);intro e w2 hq;unfold LkPost at hq;obtain ⟨rfl,hA,hW⟩:=hq;dsimp only [Dd.val];have hA3:=HE.out.2.1.call HE.out.1 hA hW;obtain ⟨p0,p1,p2,p3⟩:=hA3.cell;obtain ⟨y0,y1,y2,y3⟩:=hA3.frz;have hK:=hA3.keep HE.out.1 ⟨3,false,false,false⟩;have cE:=se_end hK.fr.lk.raw.seat (k:Int) 3;have HK:=Lib.hid hK;clear hA hA3 hK hW)
    |(go_at_call 62;(with_reducible refine cE.mono ?_);intro e w3 hq;unfold SeatPost at hq;obtain ⟨rfl,hS,hW⟩:=hq;have hY:=HK.out.ends HE.out.1 hS (SS.fin_n _ _ _) hW;obtain ⟨e0,e1,e2,e3⟩:=hY.cell;obtain ⟨v0,v1,v2,v3⟩:=hY.fr.cell;obtain ⟨x0,x1,x2,x3⟩:=hY.fr.frz;have HT:=Lib.hid hY;clear hY hS hW))
   rw [←HE.out.2.2]
   refine bodyPost_ret (v:=Dd.val ⟨3,false,false,false⟩) (results_cell_row rfl _ _ (w.heap.size+1) 71 _ (0,0) _ rfl (set4 HT.out.fr.res rfl _ _ _ _) underlying71 rfl i_did) rfl (HT.out.fr.told HE.out.1 ⟨3,false,false,false⟩)
  by_cases h4:f.s.st k=4
  ·have e1:f.mid L k u=f.ask L k u:=by unfold FL.mid;rw [if_pos ht,Int.toNat_natCast,if_neg h1,if_neg h3,if_pos h4]
   have e2:f.did L k u=f.askD L k u:=by unfold FL.did;rw [if_pos ht,Int.toNat_natCast,if_neg h1,if_neg h3,if_pos h4]
   have es:=f.mid_s L k u
   unfold FL.step
   rw [e1] at es
   rw [e1,e2]
   rw [h4] at cS
   have cA:=fl_ask hF.fr.lk k hk u hD
   generalize f.ask L k u=g at*
   generalize f.askD L k u=d at*
   have HE:=Lib.hid (And.intro h (And.intro hF es))
   have HZ:=Lib.hid hZ
   clear h hF eS e1 e2 hB es hZ h1 h3 h4
   generalize f.s.n=n at*
   go_enter func42,ntmps42
   go_wp2_with (first
    |(go_at_call 21;rw [←HZ.out];(with_reducible refine cS.mono ?_);rintro e w' ⟨rfl,rfl⟩)
    |(go_at_call 160;(with_reducible refine cA.mono ?_);intro e w2 hq;unfold LkPost at hq;obtain ⟨rfl,hA,hW⟩:=hq;dsimp only [Dd.val];have hA3:=HE.out.2.1.call HE.out.1 hA hW;obtain ⟨p0,p1,p2,p3⟩:=hA3.cell;obtain ⟨y0,y1,y2,y3⟩:=hA3.frz;have hK:=hA3.keep HE.out.1 d;have cE:=se_end hK.fr.lk.raw.seat (k:Int) d.ev;have HK:=Lib.hid hK;clear hA hA3 hK hW)
    |(go_at_call 62;(with_reducible refine cE.mono ?_);intro e w3 hq;unfold SeatPost at hq;obtain ⟨rfl,hS,hW⟩:=hq;have hY:=HK.out.ends HE.out.1 hS (SS.fin_n _ _ _) hW;obtain ⟨e0,e1,e2,e3⟩:=hY.cell;obtain ⟨v0,v1,v2,v3⟩:=hY.fr.cell;obtain ⟨x0,x1,x2,x3⟩:=hY.fr.frz;have HT:=Lib.hid hY;clear hY hS hW))
   rw [←HE.out.2.2]
   refine bodyPost_ret (v:=Dd.val d) (results_cell_row rfl _ _ (w.heap.size+1) 71 _ (0,0) _ rfl (set4 HT.out.fr.res rfl _ _ _ _) underlying71 rfl i_did) rfl (HT.out.fr.told HE.out.1 d)
  have e1:f.mid L k u=f:=by unfold FL.mid;rw [if_pos ht,Int.toNat_natCast,if_neg h1,if_neg h3,if_neg h4]
  have e2:f.did L k u=Dd.no:=by unfold FL.did;rw [if_pos ht,Int.toNat_natCast,if_neg h1,if_neg h3,if_neg h4]
  have hK:=hF
  have cE:=se_end hK.fr.lk.raw.seat (k:Int) Dd.no.ev
  have HE:=Lib.hid (And.intro h hF)
  have HK:=Lib.hid hK
  have HZ:=Lib.hid hZ
  unfold FL.step
  rw [e1,e2]
  clear h hF hK eS e1 e2 hB hZ b0 b1 b2
  generalize f.s.st k=x at*
  generalize f.s.n=n at*
  go_enter func42,ntmps42
  go_wp2_with (first
   |(go_at_call 21;rw [←HZ.out];(with_reducible refine cS.mono ?_);rintro e w' ⟨rfl,rfl⟩)
   |(go_at_call 62;(with_reducible refine cE.mono ?_);intro e w3 hq;unfold SeatPost at hq;obtain ⟨rfl,hS,hW⟩:=hq;have hY:=HK.out.ends HE.out.1 hS (SS.fin_n _ _ _) hW;obtain ⟨e0,e1,e2,e3⟩:=hY.cell;obtain ⟨v0,v1,v2,v3⟩:=hY.fr.cell;obtain ⟨x0,x1,x2,x3⟩:=hY.fr.frz;have HT:=Lib.hid hY;clear hY hS hW))
  refine bodyPost_ret (v:=Dd.val Dd.no) (results_cell_row rfl _ _ (w.heap.size+1) 71 _ (0,0) _ rfl (set4 HT.out.fr.res rfl _ _ _ _) underlying71 rfl i_did) rfl (HT.out.fr.told HE.out.1 Dd.no)
 ·have eS:f.s.stI t=0:=if_neg ht
  rw [eS] at cS
  have e1:f.mid L t u=f:=by unfold FL.mid;rw [if_neg ht]
  have e2:f.did L t u=Dd.no:=by unfold FL.did;rw [if_neg ht]
  have hK:=hF
  have cE:=se_end hK.fr.lk.raw.seat t Dd.no.ev
  have HE:=Lib.hid (And.intro h hF)
  have HK:=Lib.hid hK
  have HZ:=Lib.hid hZ
  unfold FL.step
  rw [e1,e2]
  clear h hF hK eS e1 e2 hB hZ b0 b1 b2 ht
  go_enter func42,ntmps42
  go_wp2_with (first
   |(go_at_call 21;rw [←HZ.out];(with_reducible refine cS.mono ?_);rintro e w' ⟨rfl,rfl⟩)
   |(go_at_call 62;(with_reducible refine cE.mono ?_);intro e w3 hq;unfold SeatPost at hq;obtain ⟨rfl,hS,hW⟩:=hq;have hY:=HK.out.ends HE.out.1 hS (SS.fin_n _ _ _) hW;obtain ⟨e0,e1,e2,e3⟩:=hY.cell;obtain ⟨v0,v1,v2,v3⟩:=hY.fr.cell;obtain ⟨x0,x1,x2,x3⟩:=hY.fr.frz;have HT:=Lib.hid hY;clear hY hS hW))
  refine bodyPost_ret (v:=Dd.val Dd.no) (results_cell_row rfl _ _ (w.heap.size+1) 71 _ (0,0) _ rfl (set4 HT.out.fr.res rfl _ _ _ _) underlying71 rfl i_did) rfl (HT.out.fr.told HE.out.1 Dd.no)
theorem fl_step {w:World} {L:Lp} {f:FL} (h:LkAt w L f) (t u x:Int) (hD:f.ps.D.length<4611686018427387904):
  Calls prog 156 #[.pointer (some ⟨L.lb,0,none⟩),.int .i64 t,.int .i64 u,.int .i64 x] w (LkPost w L (f.step L t u) (f.did L t u).val):=by
 have hF:=Fr.start h
 obtain ⟨Z,hZ⟩:∃ Z,Z=w.alloc (.cells #[.int .i64 0,.bool false,.bool false,.bool false] 71):=⟨_,rfl⟩
 rw [←hZ] at hF
 have cM:=hs_step hF.lk t u hD
 have c0:=hF.lk.raw.cell0
 rw [hZ] at c0
 generalize f.step L t u=g at*
 generalize f.did L t u=d at*
 have HE:=Lib.hid (And.intro h hF)
 have HZ:=Lib.hid hZ
 clear h hF hZ
 go_enter func156,ntmps156
 go_wp2_with (first
  |(go_at_call 42;rw [←HZ.out];(with_reducible refine cM.mono ?_);intro e w2 hq;unfold LkPost at hq;obtain ⟨rfl,hA,hW⟩:=hq;dsimp only [Dd.val];have hA3:=Fr.call HE.out.1 HE.out.2 hA hW;obtain ⟨v0,v1,v2,v3⟩:=hA3.cell;obtain ⟨x0,x1,x2,x3⟩:=hA3.frz;have HT:=Lib.hid hA3;clear hA hA3 hW))
 refine bodyPost_ret (v:=Dd.val d) (results_cell_row rfl _ _ w.heap.size 71 _ (0,0) _ rfl (set4 HT.out.res rfl _ _ _ _) underlying71 rfl i_did) rfl (HT.out.told HE.out.1 d)
abbrev lkO (p:Nat) (x y:Int) (tb n:Nat):Array Value:= #[.pointer (some ⟨p,0,none⟩),.pointer none,.int .i64 x,.int .i64 y,.slice (some ⟨tb,0,none⟩) n n]
def nodeK (k j:Nat):Int:=if j<k then (j:Int)+1 else 0
theorem nodeK_more (k:Nat):upd (nodeK k) k ((k:Int)+1)=nodeK (k+1):=by
 funext j
 unfold nodeK upd
 by_cases e:j=k
 ·subst e;simp
 ·rw [if_neg e]
  show (if j<k then (j:Int)+1 else 0)=if j<k+1 then (j:Int)+1 else 0
  by_cases h:j<k
  ·rw [if_pos h,if_pos (by omega)]
  ·rw [if_neg h,if_neg (by omega)]
theorem nodeK_0:nodeK 0=λ_=>0:=by funext j;unfold nodeK;rw [if_neg (by omega)]
theorem nodeK_rng {n:Nat} (hn:n≤64) (j:Nat):0≤nodeK n j∧nodeK n j<4294967296:=by unfold nodeK;split<;>omega
structure LaySt (w:World) (q:Pl) (t:Int) (lb tb b o n:Nat) (zs:List Int) (cs:Array Value) (m:Nat) (hs vs:List Int) (wr:World):Prop where
 plan:∃ q':Pl,q'.p=q.p∧PlanAt wr q' t hs vs∧Came w q.F q'.F
 kp:Wr (λj=>q.F j∨j=lb∨j=tb) w wr
 obj:wr.heap[lb]? =some (.cells cs 187 (0,0))
 tick:wr.heap[tb]? =some (.cells (tks n (λ_=>0) (nodeK m) (λ_=>0)).toArray 195 (0,0))
 row:RowAt .i64 wr (some ⟨b,o,none⟩) n zs
 lt:lb<w.heap.size∧b<w.heap.size∧tb<w.heap.size
 ne:¬ q.F lb∧¬ q.F b∧¬ q.F tb∧b≠lb∧b≠tb∧lb≠tb
namespace LaySt
variable {w wr w':World} {q:Pl} {t:Int} {lb tb b o n m:Nat} {zs:List Int} {cs:Array Value} {hs vs:List Int}
theorem far (h:LaySt w q t lb tb b o n zs cs m hs vs wr) {q':Pl} (c:Came w q.F q'.F):¬ q'.F lb∧¬ q'.F b∧¬ q'.F tb:=by
 have hl:=h.lt
 have hn:=h.ne
 refine ⟨λe=> ?_,λe=> ?_,λe=> ?_⟩
 ·rcases c _ e with e|e
  ·exact hn.1 e
  ·omega
 ·rcases c _ e with e|e
  ·exact hn.2.1 e
  ·omega
 ·rcases c _ e with e|e
  ·exact hn.2.2.1 e
  ·omega
theorem set (h:LaySt w q t lb tb b o n zs cs m hs vs wr) (i:Nat) (v:Value):LaySt w q t lb tb b o n zs (cs.setIfInBounds i v) m hs vs (wr.setCell ⟨lb,i,none⟩ v):=by
 obtain ⟨q',hq,hP,hC⟩:=h.plan
 obtain ⟨f1,f2,f3⟩:=h.far hC
 have k:Wr (One lb) wr (wr.setCell ⟨lb,i,none⟩ v):=(Wr.refl _ _).setCell _ _ λ_=>rfl
 refine ⟨⟨q',hq,hP.wrote k λj hj e=>by cases e;exact f1 hj,hC⟩,h.kp.trans k λj _ e=> .inr (.inl e),blk_setCell h.obj i v,(k.block _ (blk_lt h.tick) λe=>h.ne.2.2.2.2.2 e.symm).trans h.tick,h.row.wrote k λa ha e=> ?_,h.lt,h.ne⟩
 cases ha
 exact h.ne.2.2.2.1 e
theorem setN (h:LaySt w q t lb tb b o n zs cs m hs vs wr):LaySt w q t lb tb b o n zs cs (m+1) hs vs (wr.setCell ⟨tb,m*3+1,none⟩ (.int .u32 ((m:Int)+1))):=by
 obtain ⟨q',hq,hP,hC⟩:=h.plan
 obtain ⟨f1,f2,f3⟩:=h.far hC
 have k:Wr (One tb) wr (wr.setCell ⟨tb,m*3+1,none⟩ (.int .u32 ((m:Int)+1))):=(Wr.refl _ _).setCell _ _ λ_=>rfl
 refine ⟨⟨q',hq,hP.wrote k λj hj e=>by cases e;exact f3 hj,hC⟩,h.kp.trans k λj _ e=> .inr (.inr e),(k.block _ (blk_lt h.obj) h.ne.2.2.2.2.2).trans h.obj,?_,h.row.wrote k λa ha e=> ?_,h.lt,h.ne⟩
 ·rw [blk_setCell h.tick,List.setIfInBounds_toArray,tks_set1,nodeK_more]
 ·cases ha
  exact h.ne.2.2.2.2.1 e
theorem home (h:LaySt w q t lb tb b o n zs cs m hs vs wr) {j:Nat} (hj:j<n):wr.cell? ⟨b,o+j,none⟩=some (.int .i64 (zs.getD j 0)):=by
 rcases h.row.at with h0|⟨b',o',e,hc⟩
 ·omega
 ·cases e
  exact hc j hj
theorem home0 (h:LaySt w q t lb tb b o n zs cs m hs vs wr) (hn:0<n):wr.cell? ⟨b,o,none⟩=some (.int .i64 (zs.getD 0 0)):=h.home hn
theorem place {p r:Nat} {x y:Int} (h:LaySt w q t lb tb b o n zs (lkO p x y tb r) m hs vs wr):wr.cell? ⟨lb,4,none⟩=some (.slice (some ⟨tb,0,none⟩) r r):=by rw [blk_cell h.obj];rfl
theorem node (h:LaySt w q t lb tb b o n zs cs m hs vs wr) {j:Nat} (hj:j<n):wr.cell? ⟨tb,j*3+1,none⟩=some (.int .u32 (nodeK m j)):=by
 rw [blk_cell h.tick,List.getElem?_toArray]
 exact tks_at n _ _ _ hj (j:=1) (by decide)
end LaySt
def LayPost (w:World) (q:Pl) (t:Int) (lb tb b o n:Nat) (zs:List Int) (cs:Array Value) (m:Nat) (hs vs:List Int) (r:Value) (e:Ending) (w':World):Prop:=e= .returned r∧LaySt w q t lb tb b o n zs cs m hs vs w'
section
variable {w wr:World} {q:Pl} {t:Int} {lb tb b o n m:Nat} {zs:List Int} {cs:Array Value} {hs vs:List Int}
theorem ly_word (h:LaySt w q t lb tb b o n zs cs m hs vs wr) (x v:Int) (hL:hs.length≤1000000):
  Calls prog 44 #[.pointer (some ⟨q.p,0,none⟩),.int .i64 x,.int .u32 v] wr (LayPost w q t lb tb b o n zs cs m (hs++[x]) (vs++[v]) (.int .i64 (hs.length:Nat))):=by
 obtain ⟨q',hq,hP,hC⟩:=h.plan
 obtain ⟨f1,f2,f3⟩:=h.far hC
 have c:=plword_any hP x v hL
 rw [hq] at c
 refine c.mono ?_
 intro e w2 hp
 unfold PlanPost at hp
 obtain ⟨rfl,q2,hq2,hP2,hW,hC2⟩:=hp
 refine ⟨rfl,⟨q2,hq2.trans hq,hP2,hC.trans hC2 h.kp.size⟩,h.kp.trans hW λj hj e=> ?_,(hW.block _ (blk_lt h.obj) f1).trans h.obj,(hW.block _ (blk_lt h.tick) f3).trans h.tick,h.row.wrote hW λa ha e=> ?_,h.lt,h.ne⟩
 ·rcases hC j e with e|e
  ·exact .inl e
  ·omega
 ·cases ha
  exact f2 e
end
theorem takez_more (zs:List Int) {k:Nat} (hk:k<zs.length):zs.take (k+1)=zs.take k++[zs.getD k 0]:=by
 rw [List.take_add_one,List.getElem?_eq_getElem hk,List.getD_eq_getElem?_getD,List.getElem?_eq_getElem hk]
 rfl
theorem repz_more (k:Nat) (x:Int):List.replicate (k+1) x=List.replicate k x++[x]:=by rw [List.replicate_succ']
theorem lay_any {w:World} {q:Pl} {t:Int} {lb b o n cap p tb:Nat} {zs:List Int} {hs vs:List Int} (h:LaySt w q t lb tb b o n zs (lkO p 0 0 tb n) 0 hs vs w) (n1:1≤n) (n2:n≤64) (hL:hs.length≤900000):
  Calls prog 84 #[.pointer (some ⟨lb,0,none⟩),.pointer (some ⟨q.p,0,none⟩),.slice (some ⟨b,o,none⟩) n cap] w
   (LayPost w q t lb tb b o n zs (lkO p (hs.length:Nat) ((hs.length:Nat)+1) tb n) n (hs++[zs.getD 0 0]++[zs.getD 0 0]++zs) (vs++[0]++[0]++List.replicate n 0) (.tuple #[])):=by
 have hc:=h.home0 n1
 have hlen:=h.row.len
 obtain ⟨x,hx⟩:∃ x,x=zs.getD 0 0:=⟨_,rfl⟩
 rw [←hx] at hc ⊢
 have cW:=ly_word h x 0 (by omega)
 have o0:=blk_cell h.obj
 have f2:=blk_frozen h.obj 2
 have HH:=Lib.hid (And.intro h hx)
 clear h hx
 have n0:(0:Nat)<n:=n1
 go_enter func84,ntmps84
 go_wp2_with (first
  |(go_at_call 44;(with_reducible refine cW.mono ?_);intro e w2 hq;unfold LayPost at hq;obtain ⟨rfl,hA⟩:=hq;have g2:=blk_frozen hA.obj 2;have q2:w2.cell? ⟨lb,2,none⟩=some (.int .i64 0):=(blk_cell hA.obj 2).trans rfl;have hA2:LaySt w q t lb tb b o n zs (lkO p (hs.length:Nat) 0 tb n) 0 (hs++[x]) (vs++[0]) (w2.setCell ⟨lb,2,none⟩ (.int .i64 (hs.length:Nat))):=hA.set 2 (.int .i64 (hs.length:Nat));have y0:=hA2.home0 n0;rw [←HH.out.2] at y0;have cX:=ly_word hA2 x 0 (by simp;omega);rw [show (((hs++[x]).length:Nat):Int)=(hs.length:Int)+1 by simp] at cX;clear hA hA2)
  |(go_at_call 44;(with_reducible refine cX.mono ?_);intro e w3 hq;unfold LayPost at hq;obtain ⟨rfl,hA⟩:=hq;have g3:=blk_frozen hA.obj 3;have q3:w3.cell? ⟨lb,3,none⟩=some (.int .i64 0):=(blk_cell hA.obj 3).trans rfl;have hA3:LaySt w q t lb tb b o n zs (lkO p (hs.length:Nat) ((hs.length:Nat)+1) tb n) 0 (hs++[x]++[x]) (vs++[0]++[0]) (w3.setCell ⟨lb,3,none⟩ (.int .i64 ((hs.length:Nat)+1))):=hA.set 3 (.int .i64 ((hs.length:Nat)+1));have HA:=Lib.hid hA3;clear hA hA3))
 clear cW cX hc o0 f2 g2 g3 q2 q3 y0 n0
 go_loopw [6,7,26] (λ_ _ i wr=>∃ k:Nat,k≤n∧i= .int .i64 k∧LaySt w q t lb tb b o n zs (lkO p (hs.length:Nat) ((hs.length:Nat)+1) tb n) k (hs++[x]++[x]++zs.take k) (vs++[0]++[0]++List.replicate k 0) wr) (λ_ _ i _=>n-(intOf i).toNat)
 case atStart=>exact ⟨0,Nat.zero_le _,rfl,by simpa using HA.out⟩
 case round=>
  clear HA HH
  obtain ⟨k,hk,rfl,hl⟩:=hrel
  by_cases hlt:k<n
  ·have yc:=hl.home hlt
   have hmore:=takez_more zs (k:=k) (by omega)
   have rmore:=repz_more k 0
   have cW:=ly_word hl (zs.getD k 0) 0 (by simp only [List.length_append,List.length_singleton,List.length_take];omega)
   rw [List.append_assoc (hs++[x]++[x]),←hmore,List.append_assoc (vs++[0]++[0]),←rmore] at cW
   generalize zs.getD k 0=y at*
   have hwu:IntKind.u32.wrap ((k:Int)+1)=(k:Int)+1:=by show ((k:Int)+1)%4294967296=_;omega
   clear hl hmore rmore
   go_wp2_with (first
    |(go_at_call 44;(with_reducible refine cW.mono ?_);intro e w2 hq;unfold LayPost at hq;obtain ⟨rfl,hA⟩:=hq;have j4:=hA.place;have j1:=hA.node hlt;have jz:=blk_frozen hA.tick (k*3+1);have HA:=Lib.hid hA.setN;clear hA))
   go_roundw
   case rel=>exact ⟨k+1,by omega,by go_num,HA.out⟩
   case measure=>simp [intOf];omega
  ·obtain rfl:k=n:=by omega
   have HL:=Lib.hid hl
   clear hl
   go_wp2
   go_end0
   have e:=HL.out
   rw [List.take_of_length_le (by omega)] at e
   exact ⟨rfl,e⟩
theorem i_pl:(prog.info? 195).map (λi=>(i.zero,i.size,i.bytes))=some (some (.agg #[.int .i64 0,.int .u32 0,.int .u32 0]),3,16):=by kernel_rfl
theorem made_tk (n:Nat):madeCells (Value.agg #[.int .i64 0,.int .u32 0,.int .u32 0]).cells (n*3)=(tks n (λ_=>0) (nodeK 0) (λ_=>0)).toArray:=by
 rw [nodeK_0]
 apply Array.ext'
 show (madeCells (#[.int .i64 0,.int .u32 0,.int .u32 0]:Array Value) (n*3)).toList=tks n (λ_=>0) (λ_=>0) (λ_=>0)
 apply List.ext_getElem?
 intro m
 by_cases hm:m<n*3
 ·have ha:m/3<n:=by omega
  have e:m=m/3*3+m%3:=by omega
  have h2:=tks_at n (λ_=>0) (λ_=>0) (λ_=>0) (k:=m/3) ha (j:=m%3) (Nat.mod_lt _ (by decide))
  rw [←e] at h2
  rw [h2]
  unfold madeCells
  rw [Array.toList_map,List.getElem?_map,Array.toList_range,List.getElem?_range hm]
  have:m%3=0∨m%3=1∨m%3=2:=by omega
  rcases this with h|h|h<;>simp [h,tkC]
 ·rw [List.getElem?_eq_none (by simp [madeCells];omega),List.getElem?_eq_none (by unfold tks;rw [flat_len (tkC_len _ _ _),List.length_range];omega)]
def NewClhPost (w:World) (q:Pl) (t:Int) (hs vs:List Int) (n:Nat) (zs:List Int) (e:Ending) (w':World):Prop:=
 ∃ (L:Lp) (q':Pl),e= .returned (.tuple #[.pointer (some ⟨L.lb,0,none⟩),.int .i64 0])∧FlRaw w' L (.pointer none) (newSeat n false true) (λ_=>0) (nodeK n) (λ_=>0)∧
  (w.heap.size≤L.lb∧w.heap.size≤L.p∧w.heap.size≤L.b∧w.heap.size≤L.tb)∧L.a1=hs.length∧L.a2=hs.length+1∧q'.p=q.p∧PlanAt w' q' t (hs++[zs.getD 0 0]++[zs.getD 0 0]++zs) (vs++[0]++[0]++List.replicate n 0)∧Wr q.F w w'∧Came w q.F q'.F
theorem lay_start {w ws:World} {q:Pl} {t:Int} {hs vs:List Int} {b o n:Nat} {zs:List Int} (h:PlanAt w q t hs vs) (k:Wr Nil w ws) (hr:RowAt .i64 w (some ⟨b,o,none⟩) n zs) (hbl:b<w.heap.size) (hb:¬ q.F b) (A cs:Array Value) (hA:(tks n (λ_=>0) (nodeK 0) (λ_=>0)).toArray=A) {lb tb:Nat} (hlb:lb=ws.heap.size+1) (htb:tb=ws.heap.size):
  LaySt ((ws.alloc (.cells A 195)).alloc (.cells cs 187)) q t lb tb b o n zs cs 0 hs vs ((ws.alloc (.cells A 195)).alloc (.cells cs 187)):=by
 have k2:Wr Nil w ((ws.alloc (.cells A 195)).alloc (.cells cs 187)):=(k.alloc _).alloc _
 have e1:(ws.alloc (.cells A 195)).heap.size=ws.heap.size+1:=nblk_alloc _ _
 have e2:((ws.alloc (.cells A 195)).alloc (.cells cs 187)).heap.size=ws.heap.size+1+1:=by rw [nblk_alloc,e1]
 have s1:=k.size
 have hF:∀ j,w.heap.size≤j→¬ q.F j:=λj hj e=>by have:=h.lt e;omega
 refine ⟨⟨q,rfl,h.after k2,Came.refl _ _⟩,Wr.refl _ _,?_,?_,hr.after k2,by omega,hF _ (by omega),hb,hF _ (by omega),by omega,by omega,by omega⟩
 ·rw [hlb,←e1]
  exact blk_alloc_new _ _
 ·rw [htb,hA,blk_alloc_lt _ _ _ (by rw [e1];omega)]
  exact blk_alloc_new _ _
theorem fn_end {w wq wr:World} {q:Pl} {t:Int} {hs vs:List Int} {b o n p sb lb tb:Nat} {zs:List Int} {A:Array Value} (h:PlanAt w q t hs vs) (k1:Wr Nil w wq) (hS:SeatAt wq p sb (newSeat n false true)) (hp:w.heap.size≤p) (hsb:w.heap.size≤sb) (htb:tb=wq.heap.size) (hlb:lb=wq.heap.size+1) (n2:n≤64) (hL:hs.length≤900000) (cs:Array Value)
  (hl:LaySt ((wq.alloc (.cells A 195)).alloc (.cells cs 187)) q t lb tb b o n zs (lkO p (hs.length:Nat) ((hs.length:Nat)+1) tb n) n (hs++[zs.getD 0 0]++[zs.getD 0 0]++zs) (vs++[0]++[0]++List.replicate n 0) wr):
  NewClhPost w q t hs vs n zs (.returned (.tuple #[.pointer (some ⟨lb,0,none⟩),.int .i64 0])) wr:=by
 generalize hX:(wq.alloc (.cells A 195)).alloc (.cells cs 187)=X at hl
 have e1:(wq.alloc (.cells A 195)).heap.size=wq.heap.size+1:=nblk_alloc _ _
 have e2:X.heap.size=wq.heap.size+1+1:=by rw [←hX,nblk_alloc,e1]
 have k3:Wr Nil wq X:=by rw [←hX];exact ((Wr.refl _ _).alloc _).alloc _
 have kX:Wr Nil w X:=k1.nil k3
 have s1:=k1.size
 have s3:=k3.size
 have hF:∀ k,w.heap.size≤k→k≠lb→k≠tb→¬ (q.F k∨k=lb∨k=tb):=λk hk hk2 hk3 e=>by
  rcases e with e|e|e
  ·have:=h.lt e;omega
  ·exact hk2 e
  ·exact hk3 e
 have l1:=blk_lt hS.obj
 have l2:=blk_lt hS.ctx
 have hne:=hS.ne
 have hSX:=hS.wrote (k3.mono λ_ _ e=>e.elim:Wr Nil wq X) id id
 obtain ⟨q',hq,hP,hC⟩:=hl.plan
 refine ⟨⟨lb,p,sb,tb,hs.length,(hs.length:Int)+1,⟨0,0,0,0,0,0,0,0,0,0,0,0,.pointer none⟩,[]⟩,q',rfl,⟨hl.obj,hSX.wrote hl.kp (hF p hp (by omega) (by omega)) (hF sb hsb (by omega) (by omega)),hl.tick,⟨by dsimp only;omega,by dsimp only;omega,by dsimp only;omega,by dsimp only;omega,by dsimp only;omega⟩,λj=>⟨.inl rfl,nodeK_rng n2 j,by decide⟩,by dsimp only;omega⟩,⟨by dsimp only;omega,by dsimp only;omega,by dsimp only;omega,by dsimp only;omega⟩,rfl,rfl,hq,hP,?_,λj hj=> ?_⟩
 ·exact (kX.mono (λ_ _ e=>e.elim):Wr q.F w X).trans hl.kp λj hj e=>by
   rcases e with e|e|e
   ·exact e
   ·omega
   ·omega
 ·rcases hC j hj with e|e
  ·exact .inl e
  ·exact .inr (by omega)
theorem fn_new {w:World} {q:Pl} {t:Int} {hs vs:List Int} (h:PlanAt w q t hs vs) {b o n cap:Nat} {zs:List Int} (hr:RowAt .i64 w (some ⟨b,o,none⟩) n zs) (ho:homesOK zs=true) (n1:1≤n) (n2:n≤64) (hL:hs.length≤900000) (hb:¬ q.F b):
  Calls prog 78 #[.pointer (some ⟨q.p,0,none⟩),.slice (some ⟨b,o,none⟩) n cap] w (NewClhPost w q t hs vs n zs):=by
 obtain ⟨i0,hi,hz0,hz1,hz2⟩:=info_parts i_pl
 have hmk:∀ w:World,(Instr.makeSlice 185 (.int .i64 (n:Int)) (.int .i64 (n:Int))).run prog w= .ok (.slice (some ⟨w.heap.size,0,none⟩) n n) (w.alloc (.cells (tks n (λ_=>0) (nodeK 0) (λ_=>0)).toArray 195)):=by
  intro w
  have h:=Go.run_make (P:=prog) w 185 195 i0 _ underlying185 hi hz0 .i64 .i64 n n (by omega) (by omega) (by rw [hz2];omega) (by omega)
  rw [hz1] at h
  simp only [Int.toNat_natCast] at h
  rw [made_tk n] at h
  exact h
 generalize hA:(tks n (λ_=>0) (nodeK 0) (λ_=>0)).toArray=A at hmk
 have cS:=hm_seats (cap:=cap) hr ho false true n1 n2
 have hbx:b<w.heap.size:=World.block_lt_of_cell? w _ (hr.cell ⟨b,o,none⟩ rfl 0 (by omega))
 have HX:=Lib.hid (And.intro h (And.intro hr (And.intro hA (And.intro hbx hb))))
 clear h hr ho hA hb hbx
 go_enter func78,ntmps78
 go_wp2_with (first
  |(go_at_call 45;(with_reducible refine cS.mono ?_);intro e wq hq;unfold NewSeatPost at hq;obtain ⟨p,sb,rfl,hS,hp,hsb,hW⟩:=hq;have HS:=Lib.hid (And.intro hS (And.intro hp (And.intro hsb hW)));clear hS hp hsb hW cS)
  |(go_at_call 84;(with_reducible refine (lay_any (lay_start HX.out.1 HS.out.2.2.2 HX.out.2.1 HX.out.2.2.2.1 HX.out.2.2.2.2 A (lkO p 0 0 wq.heap.size n) HX.out.2.2.1 rfl rfl) n1 n2 hL).mono ?_);intro e wr hq;unfold LayPost at hq;obtain ⟨rfl,hl⟩:=hq;have HL:=Lib.hid hl;clear hl))
 go_ret2
 obtain ⟨h,hr,hA,hbx,hb⟩:=HX.out
 exact fn_end h HS.out.2.2.2 HS.out.1 HS.out.2.1 HS.out.2.2.1 rfl rfl n2 hL _ HL.out
end Go.Proofs.YtkmikkjjnbikdaaGreat.Kc

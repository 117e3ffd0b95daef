
import Derived.Test.YtkmikkjjnbikdaaGreatHomed
import Derived.Deep.RegionHeld3
namespace Go.Proofs.YtkmikkjjnbikdaaGreat.Km
set_option maxHeartbeats 8000000
open _root_.Go.Proofs.Tryz
open Go.RowKit Go.BigFrame
set_option linter.unusedVariables false
set_option maxRecDepth 100000
theorem fl_use {w:World} {L:Lp} {pv:Value} {s:SS} {pc oth:Nat→Int} (h:FlRaw w L pv s pc oth) (a:Addr):
  Calls prog 167 #[.pointer (some ⟨L.lb,0,none⟩),.pointer (some a)] w λe w'=>e= .returned (.tuple #[])∧w'=w.setCell ⟨L.lb,1,none⟩ (.pointer (some a)):=by
 have c1:=h.cell1
 have f1:=h.frozen 1
 clear h
 go_enter func167,ntmps167
 go_wp2
 go_end0
 exact ⟨rfl,rfl⟩
theorem LkAt.bd {w:World} {L:Lp} {f:FL} (h:LkAt w L f) (k:Nat):(0≤f.oth k∧f.oth k<4294967296)∧0≤L.a1∧L.a1≤2000000∧L.a2=L.a1+1:=⟨(h.raw.rng k).2,h.raw.adr⟩
theorem fl_number (w:World) (k:Nat) (hk:k<64):
  Calls prog 171 #[.int .i64 (k:Int)] w λe w'=>e= .returned (.int .u32 ((k:Int)+1))∧w=w':=by
 have w1:IntKind.u32.wrap (k:Int)=k:=by rw [IntKind.wrap_u32];omega
 have w2:IntKind.u32.wrap ((k:Int)+1)=(k:Int)+1:=by rw [IntKind.wrap_u32];omega
 clear hk
 go_enter func171,ntmps171
 go_wp2
 go_ret
 exact ⟨rfl,rfl⟩
theorem wraps {a x:Int} (h0:0≤a) (h1:a≤2000000) (h2:0≤x) (h3:x<4294967296):IntKind.i64.wrap x=x∧IntKind.i64.wrap (2*x)=2*x∧IntKind.i64.wrap (a+2*x)=a+2*x∧IntKind.i64.wrap (a+2*x-1)=a+2*x-1:=by
 rw [IntKind.wrap_i64,IntKind.wrap_i64,IntKind.wrap_i64,IntKind.wrap_i64];omega
theorem fl_next {w:World} {L:Lp} {f:FL} (h:LkAt w L f) (x y:Int) (hx:0≤x∧x<4294967296) (hy:y=x-1):
  Calls prog 172 #[.pointer (some ⟨L.lb,0,none⟩),.int .u32 x] w λe w'=>e= .returned (.int .i64 (L.nx y))∧w=w':=by
 have c2:=h.raw.cell2
 obtain ⟨_,a0,a1,a2⟩:=h.bd 0
 obtain ⟨w1,w2,w3,w4⟩:=wraps a0 a1 hx.1 hx.2
 have e:L.nx y=L.a1+2*x-1:=by unfold Lp.nx;omega
 rw [e]
 clear h e hy
 go_enter func172,ntmps172
 go_wp2
 go_ret
 exact ⟨rfl,rfl⟩
theorem fl_locked {w:World} {L:Lp} {f:FL} (h:LkAt w L f) (x y:Int) (hx:0≤x∧x<4294967296) (hy:y=x-1):
  Calls prog 174 #[.pointer (some ⟨L.lb,0,none⟩),.int .u32 x] w λe w'=>e= .returned (.int .i64 (L.lk y))∧w=w':=by
 have c2:=h.raw.cell2
 obtain ⟨_,a0,a1,a2⟩:=h.bd 0
 obtain ⟨w1,w2,w3,w4⟩:=wraps a0 a1 hx.1 hx.2
 have e:L.lk y=L.a1+2*x:=by unfold Lp.lk;omega
 rw [e]
 clear h e hy w4
 go_enter func174,ntmps174
 go_wp2
 go_ret
 exact ⟨rfl,rfl⟩
theorem fl_ends {w:World} {L:Lp} {f:FL} (h:LkAt w L f) (k:Nat) (hk:k<f.s.n) (ev:Int):
  Calls prog 175 #[.pointer (some ⟨L.tb,k*2,none⟩),.int .i64 ev] w (LkPost w L {f with pc:=upd f.pc k 0} (Dd.val ⟨ev,false,false,false⟩)):=by
 have hF:=Fr.start h
 have t0:=hF.lk.raw.tk0 hk
 have t1:=hF.lk.raw.tk1 hk
 have z0:=hF.lk.raw.tkz (k*2)
 have z1:=hF.lk.raw.tkz (k*2+1)
 have hT:=hF.lk.tick0 k
 have hA:=Fr.call h hF hT.1 (lf_t hT.2)
 obtain ⟨v0,v1,v2,v3⟩:=hA.cell
 obtain ⟨x0,x1,x2,x3⟩:=hA.frz
 have HE:=Lib.hid (And.intro h hA)
 clear h hF hT hA
 go_enter func175,ntmps175
 go_wp2
 refine bodyPost_ret (v:=Dd.val ⟨ev,false,false,false⟩) (results_cell_row rfl _ _ w.heap.size 71 _ (0,0) _ rfl (set4 HE.out.2.res rfl _ _ _ _) underlying71 rfl i_did) rfl (HE.out.2.told HE.out.1 ⟨ev,false,false,false⟩)
theorem fl_ent0 {w:World} {L:Lp} {f:FL} (h:LkAt w L f) (k:Nat) (hk:k<f.s.n) (hs:f.s.st k=1) (a:Int) (ha:0≤a∧a<4294967296) (hz:a=0):
  Calls prog 173 #[.pointer (some ⟨L.tb,k*2,none⟩),.int .u32 a] w (LkPost w L {f with pc:=upd f.pc k 0,oth:=upd f.oth k a} (Dd.val ⟨1,true,false,false⟩)):=by
 have hF:=Fr.start h
 have t0:=hF.lk.raw.tk0 hk
 have t1:=hF.lk.raw.tk1 hk
 have z0:=hF.lk.raw.tkz (k*2)
 have z1:=hF.lk.raw.tkz (k*2+1)
 have hT:=hF.lk.turns (hF.lk.raw.set2 k 0 a 0 (by omega) ha rfl λq=>absurd hs q)
 have hA:=Fr.call h hF hT.1 (lf_t hT.2)
 obtain ⟨v0,v1,v2,v3⟩:=hA.cell
 obtain ⟨x0,x1,x2,x3⟩:=hA.frz
 have HE:=Lib.hid (And.intro h hA)
 clear h hF hT hA hs
 have b1:(a==0)=true:=by rw [hz];rfl
 clear hz
 go_enter func173,ntmps173
 go_wp2
 refine bodyPost_ret (v:=Dd.val ⟨1,true,false,false⟩) (results_cell_row rfl _ _ w.heap.size 71 _ (0,0) _ rfl (set4 HE.out.2.res rfl _ _ _ _) underlying71 rfl i_did) rfl (HE.out.2.told HE.out.1 ⟨1,true,false,false⟩)
theorem fl_ent1 {w:World} {L:Lp} {f:FL} (h:LkAt w L f) (k:Nat) (hk:k<f.s.n) (hs:f.s.st k=1) (a:Int) (ha:0≤a∧a<4294967296) (hz:a≠0):
  Calls prog 173 #[.pointer (some ⟨L.tb,k*2,none⟩),.int .u32 a] w (LkPost w L {f with pc:=upd f.pc k 2,oth:=upd f.oth k a} (Dd.val ⟨0,true,false,false⟩)):=by
 have hF:=Fr.start h
 have t0:=hF.lk.raw.tk0 hk
 have t1:=hF.lk.raw.tk1 hk
 have z0:=hF.lk.raw.tkz (k*2)
 have z1:=hF.lk.raw.tkz (k*2+1)
 have hT:=hF.lk.turns (hF.lk.raw.set2 k 2 a a (by omega) ha rfl λq=>absurd hs q)
 have hA:=Fr.call h hF hT.1 (lf_t hT.2)
 obtain ⟨v0,v1,v2,v3⟩:=hA.cell
 obtain ⟨x0,x1,x2,x3⟩:=hA.frz
 have HE:=Lib.hid (And.intro h hA)
 clear h hF hT hA hs
 have b1:(a==0)=false:=beq_false_of_ne hz
 clear hz
 go_enter func173,ntmps173
 go_wp2
 refine bodyPost_ret (v:=Dd.val ⟨0,true,false,false⟩) (results_cell_row rfl _ _ w.heap.size 71 _ (0,0) _ rfl (set4 HE.out.2.res rfl _ _ _ _) underlying71 rfl i_did) rfl (HE.out.2.told HE.out.1 ⟨0,true,false,false⟩)
theorem fl_enters {w:World} {L:Lp} {f:FL} (h:LkAt w L f) (k:Nat) (hk:k<f.s.n) (hs:f.s.st k=1) (a:Int) (ha:0≤a∧a<4294967296):
  Calls prog 173 #[.pointer (some ⟨L.tb,k*2,none⟩),.int .u32 a] w (LkPost w L {f with pc:=upd f.pc k (if a=0 then 0 else 2),oth:=upd f.oth k a} (Dd.val ⟨if a=0 then 1 else 0,true,false,false⟩)):=by
 by_cases hz:a=0
 ·rw [if_pos hz,if_pos hz];exact fl_ent0 h k hk hs a ha hz
 ·rw [if_neg hz,if_neg hz];exact fl_ent1 h k hk hs a ha hz
def FiPost (w:World) (L:Lp) (f:FL) (e:Ending) (w':World):Prop:=e= .returned (.tuple #[])∧LkAt w' L f∧Wr (LF L) w w'
theorem fl_fin0 {w:World} {L:Lp} {f:FL} (h:LkAt w L f) (k:Nat) (hk:k<f.s.n) (a:Int) (ha:0≤a∧a<4294967296) (hz:a≠0):
  Calls prog 176 #[.pointer (some ⟨L.tb,k*2,none⟩),.int .u32 a] w (FiPost w L {f with pc:=upd f.pc k 3,oth:=upd f.oth k a}):=by
 have t0:=h.raw.tk0 hk
 have t1:=h.raw.tk1 hk
 have z0:=h.raw.tkz (k*2)
 have z1:=h.raw.tkz (k*2+1)
 have hT:=h.turns (h.raw.set2 k 3 a a (by omega) ha rfl λq=>⟨by omega,by omega⟩)
 have HE:=Lib.hid hT
 have b1:(a != 0)=true:=by simpa [bne,BEq.beq] using hz
 clear h hT hz
 go_enter func176,ntmps176
 go_wp2
 go_end0
 exact ⟨rfl,HE.out.1,lf_t HE.out.2⟩
theorem fl_fin1 {w:World} {L:Lp} {f:FL} (h:LkAt w L f) (k:Nat) (hk:k<f.s.n) (hp:f.pc k=0):
  Calls prog 176 #[.pointer (some ⟨L.tb,k*2,none⟩),.int .u32 0] w (FiPost w L {f with pc:=upd f.pc k 1,oth:=upd f.oth k 0}):=by
 have t0:=h.raw.tk0 hk
 rw [hp] at t0
 have z0:=h.raw.tkz (k*2)
 have hT:=h.turns (h.raw.set1 k 1 0 (by omega) (by omega) (by unfold ogf;rw [hp];rfl) λq=>⟨by omega,λ_=>rfl⟩)
 have HE:=Lib.hid hT
 clear h hT hp
 go_enter func176,ntmps176
 go_wp2
 go_end0
 exact ⟨rfl,HE.out.1,lf_t HE.out.2⟩
theorem fl_fin2 {w:World} {L:Lp} {f:FL} (h:LkAt w L f) (k:Nat) (hk:k<f.s.n) (hp:f.pc k=2) (hs:f.s.st k≠1):
  Calls prog 176 #[.pointer (some ⟨L.tb,k*2,none⟩),.int .u32 0] w (FiPost w L {f with pc:=upd f.pc k 2,oth:=upd f.oth k 0}):=by
 have t0:=h.raw.tk0 hk
 rw [hp] at t0
 have e:({f with pc:=upd f.pc k 2,oth:=upd f.oth k 0}:FL)=f:=by
  rw [upd_id f.pc k hp.symm,upd_id f.oth k ((h.raw.inv k hs).2 (.inr hp)).symm]
 rw [e]
 have HE:=Lib.hid h
 clear h hp hs e
 go_enter func176,ntmps176
 go_wp2
 go_end0
 exact ⟨rfl,HE.out,Wr.refl _ _⟩
theorem fl_finds {w:World} {L:Lp} {f:FL} (h:LkAt w L f) (k:Nat) (hk:k<f.s.n) (hs:f.s.st k≠1) (x:Int) (hp:(f.pc k=0∧x=1)∨(f.pc k=2∧x=2)) (a:Int) (ha:0≤a∧a<4294967296):
  Calls prog 176 #[.pointer (some ⟨L.tb,k*2,none⟩),.int .u32 a] w (FiPost w L {f with pc:=upd f.pc k (if a=0 then x else 3),oth:=upd f.oth k a}):=by
 by_cases hz:a=0
 ·subst hz
  rw [if_pos rfl]
  rcases hp with ⟨hp,rfl⟩|⟨hp,rfl⟩
  ·exact fl_fin1 h k hk hp
  ·exact fl_fin2 h k hk hp hs
 ·rw [if_neg hz];exact fl_fin0 h k hk a ha hz
theorem fl_acq0 {w:World} {L:Lp} {f:FL} (h:LkAt w L f) (k:Nat) (hk:k<f.s.n) (u:Int) (hs:f.s.st k=1) (hd:f.pc k=0) (hD:f.ps.D.length<4611686018427387904):
  Calls prog 168 #[.pointer (some ⟨L.lb,0,none⟩),.int .i64 (k:Int),.int .i64 u] w (LkPost w L (f.acq L k u) (f.acqD L k u).val):=by
 have e1:f.acq L k u={f with pc:=upd f.pc k 1,ps:=doS f.ps u 2 (L.nx k) 0 (0)}:=by unfold FL.acq;rw [if_pos hd]
 have e2:f.acqD L k u=Dd.no:=by unfold FL.acqD;rw [if_pos hd]
 rw [e1,e2]
 clear e1 e2
 obtain ⟨bo,a0,a1,a2⟩:=h.bd k
 have hF:=Fr.start h
 obtain ⟨Z,hZ⟩:∃ Z,Z=w.alloc (.cells #[.int .i64 0,.bool false,.bool false,.bool false] 71):=⟨_,rfl⟩
 rw [←hZ] at hF
 have hn64:=h.raw.seat.n2
 have kn:0≤(k:Int)+1∧(k:Int)+1<4294967296:=by omega
 have c1:=hF.drew.lk.raw.cell1
 have c2:=hF.drew.lk.raw.cell2
 have c3:=hF.lk.raw.cell3
 have t0:=hF.drew.lk.raw.tk0 hk
 have t1:=hF.drew.lk.raw.tk1 hk
 rw [hd] at t0
 have hog:ogf f.pc f.oth k=0:=by unfold ogf;rw [hd];rfl
 have cN:=fl_number Z.drew k (by omega)
 have cG:=fl_next hF.drew.drew.lk ((k:Int)+1) k kn (by omega)
 have cA:=pstore_any hF.drew.drew.lk.port u (L.nx k) 0 (by omega) (by omega) hD
 have HE:=Lib.hid (And.intro h (And.intro hk (And.intro (And.intro hs hd) hF)))
 have HO:=Lib.hid hog
 have HI:=Lib.hid (And.intro h.raw.inv (And.intro bo kn))
 have hkI:(k:Int)<f.s.n:=by omega
 clear h hF bo a0 a1 a2 hog hs hd kn
 go_enter func168,ntmps168
 go_wp2
 rw [←hZ]
 clear hZ
 go_region_held3 (λw'=>w'.cell? ⟨L.lb,3,none⟩=some (.slice (some ⟨L.tb,0,none⟩) f.s.n f.s.n)) (exact c3) (first|(go_at_call 171;(with_reducible refine cN.mono ?_);rintro e w' ⟨rfl,rfl⟩))
 go_wp2
 go_region_held3 (λw'=>w'.cell? ⟨L.lb,1,none⟩=some (.pointer (some ⟨L.q.p,0,none⟩))) (first|exact c1|exact d1) (first|(go_at_call 172;(with_reducible refine cG.mono ?_);rintro e w' ⟨rfl,rfl⟩)|(go_at_call 100;(with_reducible refine cA.mono ?_);intro e w2 hq;unfold AccPost at hq;obtain ⟨rfl,hP,hW⟩:=hq;have hA:=HE.out.2.2.2.drew.drew.lk.ports hP hW;have hA3:=Fr.call HE.out.1 HE.out.2.2.2.drew.drew hA (lf_q hW);have d1:=hA.raw.cell1;have d2:=hA.raw.cell2;have y0:=hA.raw.tk0 HE.out.2.1;have y1:=hA.raw.tk1 HE.out.2.1;rw [HE.out.2.2.1.2] at y0;have z0:=hA.raw.tkz (k*2);have hT:=hA.tick1 k 1 (by omega) (HO.out.trans rfl) λq=>absurd HE.out.2.2.1.1 q;have hA4:=Fr.call HE.out.1 hA3 hT.1 (lf_t hT.2);obtain ⟨v0,v1,v2,v3⟩:=hA4.cell;obtain ⟨x0,x1,x2,x3⟩:=hA4.frz;have HT:=Lib.hid hA4;clear hA4 hT;clear hA hA3 hP hW))
 go_wp2
 refine bodyPost_ret (v:=Dd.val ⟨0,false,false,false⟩) (results_cell_row rfl _ _ w.heap.size 71 _ (0,0) _ rfl (set4 HT.out.res rfl _ _ _ _) underlying71 rfl i_did) rfl (HT.out.told HE.out.1 ⟨0,false,false,false⟩)
theorem fl_acq2 {w:World} {L:Lp} {f:FL} (h:LkAt w L f) (k:Nat) (hk:k<f.s.n) (u:Int) (hs:f.s.st k=1) (hd:f.pc k=2) (hD:f.ps.D.length<4611686018427387904):
  Calls prog 168 #[.pointer (some ⟨L.lb,0,none⟩),.int .i64 (k:Int),.int .i64 u] w (LkPost w L (f.acq L k u) (f.acqD L k u).val):=by
 have e1:f.acq L k u={f with pc:=upd f.pc k 3,ps:=doS f.ps u 2 (L.lk k) 0 (1)}:=by unfold FL.acq;rw [if_neg (by omega),if_neg (by omega),if_pos hd]
 have e2:f.acqD L k u=Dd.no:=by unfold FL.acqD;rw [if_neg (by omega),if_neg (by omega),if_pos hd]
 rw [e1,e2]
 clear e1 e2
 obtain ⟨bo,a0,a1,a2⟩:=h.bd k
 have hF:=Fr.start h
 obtain ⟨Z,hZ⟩:∃ Z,Z=w.alloc (.cells #[.int .i64 0,.bool false,.bool false,.bool false] 71):=⟨_,rfl⟩
 rw [←hZ] at hF
 have hn64:=h.raw.seat.n2
 have kn:0≤(k:Int)+1∧(k:Int)+1<4294967296:=by omega
 have c1:=hF.drew.lk.raw.cell1
 have c2:=hF.drew.lk.raw.cell2
 have c3:=hF.lk.raw.cell3
 have t0:=hF.drew.lk.raw.tk0 hk
 have t1:=hF.drew.lk.raw.tk1 hk
 rw [hd] at t0
 have hog:ogf f.pc f.oth k=f.oth k:=by unfold ogf;rw [hd];rfl
 have cN:=fl_number Z.drew k (by omega)
 have cG:=fl_locked hF.drew.drew.lk ((k:Int)+1) k kn (by omega)
 have cA:=pstore_any hF.drew.drew.lk.port u (L.lk k) 1 (by omega) (by omega) hD
 have HE:=Lib.hid (And.intro h (And.intro hk (And.intro (And.intro hs hd) hF)))
 have HO:=Lib.hid hog
 have HI:=Lib.hid (And.intro h.raw.inv (And.intro bo kn))
 have hkI:(k:Int)<f.s.n:=by omega
 clear h hF bo a0 a1 a2 hog hs hd kn
 go_enter func168,ntmps168
 go_wp2
 rw [←hZ]
 clear hZ
 go_region_held3 (λw'=>w'.cell? ⟨L.lb,3,none⟩=some (.slice (some ⟨L.tb,0,none⟩) f.s.n f.s.n)) (exact c3) (first|(go_at_call 171;(with_reducible refine cN.mono ?_);rintro e w' ⟨rfl,rfl⟩))
 go_wp2
 go_region_held3 (λw'=>w'.cell? ⟨L.lb,1,none⟩=some (.pointer (some ⟨L.q.p,0,none⟩))) (first|exact c1|exact d1) (first|(go_at_call 174;(with_reducible refine cG.mono ?_);rintro e w' ⟨rfl,rfl⟩)|(go_at_call 100;(with_reducible refine cA.mono ?_);intro e w2 hq;unfold AccPost at hq;obtain ⟨rfl,hP,hW⟩:=hq;have hA:=HE.out.2.2.2.drew.drew.lk.ports hP hW;have hA3:=Fr.call HE.out.1 HE.out.2.2.2.drew.drew hA (lf_q hW);have d1:=hA.raw.cell1;have d2:=hA.raw.cell2;have y0:=hA.raw.tk0 HE.out.2.1;have y1:=hA.raw.tk1 HE.out.2.1;rw [HE.out.2.2.1.2] at y0;have z0:=hA.raw.tkz (k*2);have hT:=hA.tick1 k 3 (by omega) (HO.out.trans rfl) λq=>absurd HE.out.2.2.1.1 q;have hA4:=Fr.call HE.out.1 hA3 hT.1 (lf_t hT.2);obtain ⟨v0,v1,v2,v3⟩:=hA4.cell;obtain ⟨x0,x1,x2,x3⟩:=hA4.frz;have HT:=Lib.hid hA4;clear hA4 hT;clear hA hA3 hP hW))
 go_wp2
 refine bodyPost_ret (v:=Dd.val ⟨0,false,false,false⟩) (results_cell_row rfl _ _ w.heap.size 71 _ (0,0) _ rfl (set4 HT.out.res rfl _ _ _ _) underlying71 rfl i_did) rfl (HT.out.told HE.out.1 ⟨0,false,false,false⟩)
theorem fl_acq3 {w:World} {L:Lp} {f:FL} (h:LkAt w L f) (k:Nat) (hk:k<f.s.n) (u:Int) (hs:f.s.st k=1) (hd:f.pc k=3) (hD:f.ps.D.length<4611686018427387904):
  Calls prog 168 #[.pointer (some ⟨L.lb,0,none⟩),.int .i64 (k:Int),.int .i64 u] w (LkPost w L (f.acq L k u) (f.acqD L k u).val):=by
 have e1:f.acq L k u={f with pc:=upd f.pc k 4,ps:=doS f.ps u 2 (L.nx (f.oth k-1)) 0 ((k:Int)+1)}:=by unfold FL.acq;rw [if_neg (by omega),if_neg (by omega),if_neg (by omega),if_pos hd]
 have e2:f.acqD L k u=Dd.no:=by unfold FL.acqD;rw [if_neg (by omega),if_neg (by omega),if_neg (by omega),if_pos hd]
 rw [e1,e2]
 clear e1 e2
 obtain ⟨bo,a0,a1,a2⟩:=h.bd k
 have hF:=Fr.start h
 obtain ⟨Z,hZ⟩:∃ Z,Z=w.alloc (.cells #[.int .i64 0,.bool false,.bool false,.bool false] 71):=⟨_,rfl⟩
 rw [←hZ] at hF
 have hn64:=h.raw.seat.n2
 have kn:0≤(k:Int)+1∧(k:Int)+1<4294967296:=by omega
 have c1:=hF.drew.lk.raw.cell1
 have c2:=hF.drew.lk.raw.cell2
 have c3:=hF.lk.raw.cell3
 have t0:=hF.drew.lk.raw.tk0 hk
 have t1:=hF.drew.lk.raw.tk1 hk
 rw [hd] at t0
 have hog:ogf f.pc f.oth k=f.oth k:=by unfold ogf;rw [hd];rfl
 have cN:=fl_number Z.drew k (by omega)
 rw [hog] at t1
 have cG:=fl_next hF.drew.drew.lk (f.oth k) (f.oth k-1) bo rfl
 have cA:=pstore_any hF.drew.drew.lk.port u (L.nx (f.oth k-1)) ((k:Int)+1) kn.1 kn.2 hD
 have HE:=Lib.hid (And.intro h (And.intro hk (And.intro (And.intro hs hd) hF)))
 have HO:=Lib.hid hog
 have HI:=Lib.hid (And.intro h.raw.inv (And.intro bo kn))
 have hkI:(k:Int)<f.s.n:=by omega
 clear h hF bo a0 a1 a2 hog hs hd kn
 go_enter func168,ntmps168
 go_wp2
 rw [←hZ]
 clear hZ
 go_region_held3 (λw'=>w'.cell? ⟨L.lb,3,none⟩=some (.slice (some ⟨L.tb,0,none⟩) f.s.n f.s.n)) (exact c3) (first|(go_at_call 171;(with_reducible refine cN.mono ?_);rintro e w' ⟨rfl,rfl⟩))
 go_wp2
 go_region_held3 (λw'=>w'.cell? ⟨L.lb,1,none⟩=some (.pointer (some ⟨L.q.p,0,none⟩))∧w'.cell? ⟨L.tb,k*2+1,none⟩=some (.int .u32 (f.oth k))) (first|exact ⟨c1,t1⟩|exact ⟨d1,y1⟩) (first|(go_at_call 172;(with_reducible refine cG.mono ?_);rintro e w' ⟨rfl,rfl⟩)|(go_at_call 100;(with_reducible refine cA.mono ?_);intro e w2 hq;unfold AccPost at hq;obtain ⟨rfl,hP,hW⟩:=hq;have hA:=HE.out.2.2.2.drew.drew.lk.ports hP hW;have hA3:=Fr.call HE.out.1 HE.out.2.2.2.drew.drew hA (lf_q hW);have d1:=hA.raw.cell1;have d2:=hA.raw.cell2;have y0:=hA.raw.tk0 HE.out.2.1;have y1:=hA.raw.tk1 HE.out.2.1;rw [HE.out.2.2.1.2] at y0;rw [HO.out] at y1;have z0:=hA.raw.tkz (k*2);have hT:=hA.tick1 k 4 (by omega) (HO.out.trans rfl) λq=>absurd HE.out.2.2.1.1 q;have hA4:=Fr.call HE.out.1 hA3 hT.1 (lf_t hT.2);obtain ⟨v0,v1,v2,v3⟩:=hA4.cell;obtain ⟨x0,x1,x2,x3⟩:=hA4.frz;have HT:=Lib.hid hA4;clear hA4 hT;clear hA hA3 hP hW))
 go_wp2
 refine bodyPost_ret (v:=Dd.val ⟨0,false,false,false⟩) (results_cell_row rfl _ _ w.heap.size 71 _ (0,0) _ rfl (set4 HT.out.res rfl _ _ _ _) underlying71 rfl i_did) rfl (HT.out.told HE.out.1 ⟨0,false,false,false⟩)
theorem fl_acq1 {w:World} {L:Lp} {f:FL} (h:LkAt w L f) (k:Nat) (hk:k<f.s.n) (u:Int) (hs:f.s.st k=1) (hd:f.pc k=1) (hD:f.ps.D.length<4611686018427387904):
  Calls prog 168 #[.pointer (some ⟨L.lb,0,none⟩),.int .i64 (k:Int),.int .i64 u] w (LkPost w L (f.acq L k u) (f.acqD L k u).val):=by
 have e1:f.acq L k u={f with pc:=upd f.pc k (if tellS f.ps u 3 L.a1=0 then 0 else 2),oth:=upd f.oth k (tellS f.ps u 3 L.a1),ps:=doS f.ps u 3 L.a1 0 ((k:Int)+1)}:=by unfold FL.acq;rw [if_neg (by omega),if_pos hd]
 have e2:f.acqD L k u=⟨if tellS f.ps u 3 L.a1=0 then 1 else 0,true,false,false⟩:=by unfold FL.acqD;rw [if_neg (by omega),if_pos hd]
 rw [e1,e2]
 clear e1 e2
 obtain ⟨bo,a0,a1,a2⟩:=h.bd k
 have hF:=Fr.start h
 obtain ⟨Z,hZ⟩:∃ Z,Z=w.alloc (.cells #[.int .i64 0,.bool false,.bool false,.bool false] 71):=⟨_,rfl⟩
 rw [←hZ] at hF
 have hn64:=h.raw.seat.n2
 have kn:0≤(k:Int)+1∧(k:Int)+1<4294967296:=by omega
 have c1:=hF.drew.lk.raw.cell1
 have c2:=hF.drew.lk.raw.cell2
 have c3:=hF.lk.raw.cell3
 have t0:=hF.drew.lk.raw.tk0 hk
 have t1:=hF.drew.lk.raw.tk1 hk
 rw [hd] at t0
 have hog:ogf f.pc f.oth k=0:=by unfold ogf;rw [hd];rfl
 have cN:=fl_number Z.drew k (by omega)
 have cA:=pswap_any hF.drew.drew.lk.port u L.a1 ((k:Int)+1) kn.1 kn.2 hD
 have hT0:=h.tell u 3 L.a1
 generalize tellS f.ps u 3 L.a1=v at*
 have HE:=Lib.hid (And.intro h (And.intro hk (And.intro (And.intro hs hd) hF)))
 have HO:=Lib.hid hog
 have HI:=Lib.hid (And.intro h.raw.inv (And.intro bo kn))
 have hkI:(k:Int)<f.s.n:=by omega
 clear h hF bo a0 a1 a2 hog hs hd kn
 have HV:=Lib.hid hT0
 clear hT0
 obtain ⟨x,hx⟩:∃ x:Int,x=if v=0 then 0 else 2:=⟨_,rfl⟩
 obtain ⟨y,hy⟩:∃ y:Int,y=if v=0 then 1 else 0:=⟨_,rfl⟩
 rw [←hx,←hy]
 have HX:=Lib.hid hx
 have HY:=Lib.hid hy
 clear hx hy
 go_enter func168,ntmps168
 go_wp2
 rw [←hZ]
 clear hZ
 go_region_held3 (λw'=>w'.cell? ⟨L.lb,3,none⟩=some (.slice (some ⟨L.tb,0,none⟩) f.s.n f.s.n)) (exact c3) (first|(go_at_call 171;(with_reducible refine cN.mono ?_);rintro e w' ⟨rfl,rfl⟩))
 go_wp2
 go_region_held3 (λw'=>w'.cell? ⟨L.lb,1,none⟩=some (.pointer (some ⟨L.q.p,0,none⟩))∧w'.cell? ⟨L.lb,2,none⟩=some (.int .i64 L.a1)) (first|with_reducible exact ⟨d1,d2⟩|with_reducible exact ⟨q1,q2⟩|with_reducible exact ⟨r1,r2⟩|exact ⟨c1,c2⟩) (first|(go_at_call 162;(with_reducible refine cA.mono ?_);intro e w2 hq;unfold AccPost at hq;obtain ⟨rfl,hP,hW⟩:=hq;have hA:=HE.out.2.2.2.drew.drew.lk.ports hP hW;have hA3:=Fr.call HE.out.1 HE.out.2.2.2.drew.drew hA (lf_q hW);have d1:=hA.raw.cell1;have d2:=hA.raw.cell2;have y0:=hA.raw.tk0 HE.out.2.1;have y1:=hA.raw.tk1 HE.out.2.1;have HA:=Lib.hid hA3;have cE:=fl_enters hA k HE.out.2.1 HE.out.2.2.1.1 v HV.out;rw [←HX.out,←HY.out] at cE;clear hA hA3 hP hW)|(go_at_call 173;(with_reducible refine cE.mono ?_);intro e w3 hq;unfold LkPost at hq;obtain ⟨rfl,hB,hW2⟩:=hq;dsimp only [Dd.val];have hB3:=Fr.call HE.out.1 HA.out hB hW2;have q1:=hB.raw.cell1;have q2:=hB.raw.cell2;have hC:=(hB3.told HE.out.1 ⟨y,true,false,false⟩).2.1;have r1:=hC.raw.cell1;have r2:=hC.raw.cell2;obtain ⟨v0,v1,v2,v3⟩:=hB3.cell;obtain ⟨x0,x1,x2,x3⟩:=hB3.frz;have HT:=Lib.hid hB3;clear hB hB3 hW2 hC))
 go_wp2
 refine bodyPost_ret (v:=Dd.val ⟨y,true,false,false⟩) (results_cell_row rfl _ _ w.heap.size 71 _ (0,0) _ rfl (set4 HT.out.res rfl _ _ _ _) underlying71 rfl i_did) rfl (HT.out.told HE.out.1 ⟨y,true,false,false⟩)
theorem fl_acq4 {w:World} {L:Lp} {f:FL} (h:LkAt w L f) (k:Nat) (hk:k<f.s.n) (u:Int) (hs:f.s.st k=1) (hd:f.pc k=4) (hD:f.ps.D.length<4611686018427387904):
  Calls prog 168 #[.pointer (some ⟨L.lb,0,none⟩),.int .i64 (k:Int),.int .i64 u] w (LkPost w L (f.acq L k u) (f.acqD L k u).val):=by
 have e1:f.acq L k u={f with pc:=upd f.pc k (if tellS f.ps u 1 (L.lk k)=0 then 0 else 4),ps:=doS f.ps u 1 (L.lk k) 0 0}:=by unfold FL.acq;rw [if_neg (by omega),if_neg (by omega),if_neg (by omega),if_neg (by omega)]
 have e2:f.acqD L k u=if tellS f.ps u 1 (L.lk k)=0 then ⟨1,false,false,false⟩ else Dd.no:=by unfold FL.acqD;rw [if_neg (by omega),if_neg (by omega),if_neg (by omega),if_neg (by omega)]
 rw [e1,e2]
 clear e1 e2
 obtain ⟨bo,a0,a1,a2⟩:=h.bd k
 have hF:=Fr.start h
 obtain ⟨Z,hZ⟩:∃ Z,Z=w.alloc (.cells #[.int .i64 0,.bool false,.bool false,.bool false] 71):=⟨_,rfl⟩
 rw [←hZ] at hF
 have hn64:=h.raw.seat.n2
 have kn:0≤(k:Int)+1∧(k:Int)+1<4294967296:=by omega
 have c1:=hF.drew.lk.raw.cell1
 have c2:=hF.drew.lk.raw.cell2
 have c3:=hF.lk.raw.cell3
 have t0:=hF.drew.lk.raw.tk0 hk
 have t1:=hF.drew.lk.raw.tk1 hk
 rw [hd] at t0
 have hog:ogf f.pc f.oth k=f.oth k:=by unfold ogf;rw [hd];rfl
 have cN:=fl_number Z.drew k (by omega)
 have cG:=fl_locked hF.drew.drew.lk ((k:Int)+1) k kn (by omega)
 have cA:=pload_any hF.drew.drew.lk.port u (L.lk k) hD
 have hpd:upd f.pc k 4=f.pc:=upd_id f.pc k hd.symm
 generalize tellS f.ps u 1 (L.lk k)=v at*
 have HE:=Lib.hid (And.intro h (And.intro hk (And.intro (And.intro hs hd) hF)))
 have HO:=Lib.hid hog
 have HI:=Lib.hid (And.intro h.raw.inv (And.intro bo kn))
 have hkI:(k:Int)<f.s.n:=by omega
 clear h hF bo a0 a1 a2 hog hs hd kn
 by_cases hx:v=0
 ·rw [if_pos hx,if_pos hx]
  subst hx
  clear hpd
  go_enter func168,ntmps168
  go_wp2
  rw [←hZ]
  clear hZ
  go_region_held3 (λw'=>w'.cell? ⟨L.lb,3,none⟩=some (.slice (some ⟨L.tb,0,none⟩) f.s.n f.s.n)) (exact c3) (first|(go_at_call 171;(with_reducible refine cN.mono ?_);rintro e w' ⟨rfl,rfl⟩))
  go_wp2
  go_region_held3 (λw'=>w'.cell? ⟨L.lb,1,none⟩=some (.pointer (some ⟨L.q.p,0,none⟩))) (first|exact c1|exact d1) (first|(go_at_call 174;(with_reducible refine cG.mono ?_);rintro e w' ⟨rfl,rfl⟩)|(go_at_call 89;(with_reducible refine cA.mono ?_);intro e w2 hq;unfold AccPost at hq;obtain ⟨rfl,hP,hW⟩:=hq;have hA:=HE.out.2.2.2.drew.drew.lk.ports hP hW;have hA3:=Fr.call HE.out.1 HE.out.2.2.2.drew.drew hA (lf_q hW);have d1:=hA.raw.cell1;have d2:=hA.raw.cell2;have y0:=hA.raw.tk0 HE.out.2.1;have y1:=hA.raw.tk1 HE.out.2.1;have HA:=Lib.hid hA3;have cE:=fl_ends hA k HE.out.2.1 1;clear hA hA3 hP hW))
  go_wp2_with (first|(go_at_call 175;(with_reducible refine cE.mono ?_);intro e w3 hq;unfold LkPost at hq;obtain ⟨rfl,hB,hW2⟩:=hq;dsimp only [Dd.val];have hB3:=Fr.call HE.out.1 HA.out hB hW2;obtain ⟨v0,v1,v2,v3⟩:=hB3.cell;obtain ⟨x0,x1,x2,x3⟩:=hB3.frz;have HT:=Lib.hid hB3;clear hB hB3 hW2))
  refine bodyPost_ret (v:=Dd.val ⟨1,false,false,false⟩) (results_cell_row rfl _ _ w.heap.size 71 _ (0,0) _ rfl (set4 HT.out.res rfl _ _ _ _) underlying71 rfl i_did) rfl (HT.out.told HE.out.1 ⟨1,false,false,false⟩)
 ·rw [if_neg hx,if_neg hx,hpd]
  have b1:(v==0)=false:=beq_false_of_ne hx
  clear hx hpd
  go_enter func168,ntmps168
  go_wp2
  rw [←hZ]
  clear hZ
  go_region_held3 (λw'=>w'.cell? ⟨L.lb,3,none⟩=some (.slice (some ⟨L.tb,0,none⟩) f.s.n f.s.n)) (exact c3) (first|(go_at_call 171;(with_reducible refine cN.mono ?_);rintro e w' ⟨rfl,rfl⟩))
  go_wp2
  go_region_held3 (λw'=>w'.cell? ⟨L.lb,1,none⟩=some (.pointer (some ⟨L.q.p,0,none⟩))) (first|exact c1|exact d1) (first|(go_at_call 174;(with_reducible refine cG.mono ?_);rintro e w' ⟨rfl,rfl⟩)|(go_at_call 89;(with_reducible refine cA.mono ?_);intro e w2 hq;unfold AccPost at hq;obtain ⟨rfl,hP,hW⟩:=hq;have hA:=HE.out.2.2.2.drew.drew.lk.ports hP hW;have hA3:=Fr.call HE.out.1 HE.out.2.2.2.drew.drew hA (lf_q hW);have d1:=hA.raw.cell1;have d2:=hA.raw.cell2;have y0:=hA.raw.tk0 HE.out.2.1;have y1:=hA.raw.tk1 HE.out.2.1;obtain ⟨v0,v1,v2,v3⟩:=hA3.cell;obtain ⟨x0,x1,x2,x3⟩:=hA3.frz;have HT:=Lib.hid hA3;clear hA hA3 hP hW))
  go_wp2
  refine bodyPost_ret (v:=Dd.val ⟨0,false,false,false⟩) (results_cell_row rfl _ _ w.heap.size 71 _ (0,0) _ rfl (set4 HT.out.res rfl _ _ _ _) underlying71 rfl i_did) rfl (HT.out.told HE.out.1 ⟨0,false,false,false⟩)
theorem fl_acq {w:World} {L:Lp} {f:FL} (h:LkAt w L f) (k:Nat) (hk:k<f.s.n) (u:Int) (hs:f.s.st k=1) (hD:f.ps.D.length<4611686018427387904):
  Calls prog 168 #[.pointer (some ⟨L.lb,0,none⟩),.int .i64 (k:Int),.int .i64 u] w (LkPost w L (f.acq L k u) (f.acqD L k u).val):=by
 have hr:=(h.raw.rng k).1
 have:f.pc k=0∨f.pc k=1∨f.pc k=2∨f.pc k=3∨f.pc k=4:=by omega
 rcases this with hd|hd|hd|hd|hd
 ·exact fl_acq0 h k hk u hs hd hD
 ·exact fl_acq1 h k hk u hs hd hD
 ·exact fl_acq2 h k hk u hs hd hD
 ·exact fl_acq3 h k hk u hs hd hD
 ·exact fl_acq4 h k hk u hs hd hD
theorem fl_rel0 {w:World} {L:Lp} {f:FL} (h:LkAt w L f) (k:Nat) (hk:k<f.s.n) (u:Int) (hs:f.s.st k=3) (hd:f.pc k=0) (hD:f.ps.D.length<4611686018427387904):
  Calls prog 169 #[.pointer (some ⟨L.lb,0,none⟩),.int .i64 (k:Int),.int .i64 u] w (LkPost w L (f.rel L k u) (f.relD L k u).val):=by
 have e1:f.rel L k u={f with pc:=upd f.pc k (if tellS f.ps u 1 (L.nx k)=0 then 1 else 3),oth:=upd f.oth k (tellS f.ps u 1 (L.nx k)),ps:=doS f.ps u 1 (L.nx k) 0 0}:=by unfold FL.rel;rw [if_pos hd]
 have e2:f.relD L k u=Dd.no:=by unfold FL.relD;rw [if_pos hd]
 rw [e1,e2]
 clear e1 e2
 obtain ⟨bo,a0,a1,a2⟩:=h.bd k
 have hF:=Fr.start h
 obtain ⟨Z,hZ⟩:∃ Z,Z=w.alloc (.cells #[.int .i64 0,.bool false,.bool false,.bool false] 71):=⟨_,rfl⟩
 rw [←hZ] at hF
 have hn64:=h.raw.seat.n2
 have kn:0≤(k:Int)+1∧(k:Int)+1<4294967296:=by omega
 have c1:=hF.drew.lk.raw.cell1
 have c2:=hF.drew.lk.raw.cell2
 have c3:=hF.lk.raw.cell3
 have t0:=hF.drew.lk.raw.tk0 hk
 have t1:=hF.drew.lk.raw.tk1 hk
 rw [hd] at t0
 have hog:ogf f.pc f.oth k=0:=by unfold ogf;rw [hd];rfl
 have cN:=fl_number Z.drew k (by omega)
 have cG:=fl_next hF.drew.drew.lk ((k:Int)+1) k kn (by omega)
 have cA:=pload_any hF.drew.drew.lk.port u (L.nx k) hD
 have hT0:=h.tell u 1 (L.nx k)
 generalize tellS f.ps u 1 (L.nx k)=v at*
 have HE:=Lib.hid (And.intro h (And.intro hk (And.intro (And.intro hs hd) hF)))
 have HO:=Lib.hid hog
 have HI:=Lib.hid (And.intro h.raw.inv (And.intro bo kn))
 have hkI:(k:Int)<f.s.n:=by omega
 clear h hF bo a0 a1 a2 hog hs hd kn
 have HV:=Lib.hid hT0
 clear hT0
 obtain ⟨x,hx⟩:∃ x:Int,x=if v=0 then 1 else 3:=⟨_,rfl⟩
 rw [←hx]
 have HX:=Lib.hid hx
 clear hx
 go_enter func169,ntmps169
 go_wp2
 rw [←hZ]
 clear hZ
 go_region_held3 (λw'=>w'.cell? ⟨L.lb,3,none⟩=some (.slice (some ⟨L.tb,0,none⟩) f.s.n f.s.n)) (exact c3) (first|(go_at_call 171;(with_reducible refine cN.mono ?_);rintro e w' ⟨rfl,rfl⟩))
 go_wp2
 go_region_held3 (λw'=>w'.cell? ⟨L.lb,1,none⟩=some (.pointer (some ⟨L.q.p,0,none⟩))) (first|exact c1|exact d1|exact q1) (first|(go_at_call 172;(with_reducible refine cG.mono ?_);rintro e w' ⟨rfl,rfl⟩)|(go_at_call 89;(with_reducible refine cA.mono ?_);intro e w2 hq;unfold AccPost at hq;obtain ⟨rfl,hP,hW⟩:=hq;have hA:=HE.out.2.2.2.drew.drew.lk.ports hP hW;have hA3:=Fr.call HE.out.1 HE.out.2.2.2.drew.drew hA (lf_q hW);have d1:=hA.raw.cell1;have d2:=hA.raw.cell2;have y0:=hA.raw.tk0 HE.out.2.1;have y1:=hA.raw.tk1 HE.out.2.1;have HA:=Lib.hid hA3;have cE:=fl_finds hA k HE.out.2.1 (by rw [HE.out.2.2.1.1];decide) 1 (.inl ⟨HE.out.2.2.1.2,rfl⟩) v HV.out;rw [←HX.out] at cE;clear hA hA3 hP hW)|(go_at_call 176;(with_reducible refine cE.mono ?_);intro e w3 hq;unfold FiPost at hq;obtain ⟨rfl,hB,hW2⟩:=hq;have hB3:=Fr.call HE.out.1 HA.out hB hW2;have q1:=hB.raw.cell1;obtain ⟨v0,v1,v2,v3⟩:=hB3.cell;obtain ⟨x0,x1,x2,x3⟩:=hB3.frz;have HT:=Lib.hid hB3;clear hB hB3 hW2))
 go_wp2
 refine bodyPost_ret (v:=Dd.val ⟨0,false,false,false⟩) (results_cell_row rfl _ _ w.heap.size 71 _ (0,0) _ rfl (set4 HT.out.res rfl _ _ _ _) underlying71 rfl i_did) rfl (HT.out.told HE.out.1 ⟨0,false,false,false⟩)
theorem fl_rel2 {w:World} {L:Lp} {f:FL} (h:LkAt w L f) (k:Nat) (hk:k<f.s.n) (u:Int) (hs:f.s.st k=3) (hd:f.pc k=2) (hD:f.ps.D.length<4611686018427387904):
  Calls prog 169 #[.pointer (some ⟨L.lb,0,none⟩),.int .i64 (k:Int),.int .i64 u] w (LkPost w L (f.rel L k u) (f.relD L k u).val):=by
 have e1:f.rel L k u={f with pc:=upd f.pc k (if tellS f.ps u 1 (L.nx k)=0 then 2 else 3),oth:=upd f.oth k (tellS f.ps u 1 (L.nx k)),ps:=doS f.ps u 1 (L.nx k) 0 0}:=by unfold FL.rel;rw [if_neg (by omega),if_neg (by omega),if_pos hd]
 have e2:f.relD L k u=Dd.no:=by unfold FL.relD;rw [if_neg (by omega),if_neg (by omega),if_pos hd]
 rw [e1,e2]
 clear e1 e2
 obtain ⟨bo,a0,a1,a2⟩:=h.bd k
 have hF:=Fr.start h
 obtain ⟨Z,hZ⟩:∃ Z,Z=w.alloc (.cells #[.int .i64 0,.bool false,.bool false,.bool false] 71):=⟨_,rfl⟩
 rw [←hZ] at hF
 have hn64:=h.raw.seat.n2
 have kn:0≤(k:Int)+1∧(k:Int)+1<4294967296:=by omega
 have c1:=hF.drew.lk.raw.cell1
 have c2:=hF.drew.lk.raw.cell2
 have c3:=hF.lk.raw.cell3
 have t0:=hF.drew.lk.raw.tk0 hk
 have t1:=hF.drew.lk.raw.tk1 hk
 rw [hd] at t0
 have hog:ogf f.pc f.oth k=f.oth k:=by unfold ogf;rw [hd];rfl
 have cN:=fl_number Z.drew k (by omega)
 have cG:=fl_next hF.drew.drew.lk ((k:Int)+1) k kn (by omega)
 have cA:=pload_any hF.drew.drew.lk.port u (L.nx k) hD
 have hT0:=h.tell u 1 (L.nx k)
 generalize tellS f.ps u 1 (L.nx k)=v at*
 have HE:=Lib.hid (And.intro h (And.intro hk (And.intro (And.intro hs hd) hF)))
 have HO:=Lib.hid hog
 have HI:=Lib.hid (And.intro h.raw.inv (And.intro bo kn))
 have hkI:(k:Int)<f.s.n:=by omega
 clear h hF bo a0 a1 a2 hog hs hd kn
 have HV:=Lib.hid hT0
 clear hT0
 obtain ⟨x,hx⟩:∃ x:Int,x=if v=0 then 2 else 3:=⟨_,rfl⟩
 rw [←hx]
 have HX:=Lib.hid hx
 clear hx
 go_enter func169,ntmps169
 go_wp2
 rw [←hZ]
 clear hZ
 go_region_held3 (λw'=>w'.cell? ⟨L.lb,3,none⟩=some (.slice (some ⟨L.tb,0,none⟩) f.s.n f.s.n)) (exact c3) (first|(go_at_call 171;(with_reducible refine cN.mono ?_);rintro e w' ⟨rfl,rfl⟩))
 go_wp2
 go_region_held3 (λw'=>w'.cell? ⟨L.lb,1,none⟩=some (.pointer (some ⟨L.q.p,0,none⟩))) (first|exact c1|exact d1|exact q1) (first|(go_at_call 172;(with_reducible refine cG.mono ?_);rintro e w' ⟨rfl,rfl⟩)|(go_at_call 89;(with_reducible refine cA.mono ?_);intro e w2 hq;unfold AccPost at hq;obtain ⟨rfl,hP,hW⟩:=hq;have hA:=HE.out.2.2.2.drew.drew.lk.ports hP hW;have hA3:=Fr.call HE.out.1 HE.out.2.2.2.drew.drew hA (lf_q hW);have d1:=hA.raw.cell1;have d2:=hA.raw.cell2;have y0:=hA.raw.tk0 HE.out.2.1;have y1:=hA.raw.tk1 HE.out.2.1;have HA:=Lib.hid hA3;have cE:=fl_finds hA k HE.out.2.1 (by rw [HE.out.2.2.1.1];decide) 2 (.inr ⟨HE.out.2.2.1.2,rfl⟩) v HV.out;rw [←HX.out] at cE;clear hA hA3 hP hW)|(go_at_call 176;(with_reducible refine cE.mono ?_);intro e w3 hq;unfold FiPost at hq;obtain ⟨rfl,hB,hW2⟩:=hq;have hB3:=Fr.call HE.out.1 HA.out hB hW2;have q1:=hB.raw.cell1;obtain ⟨v0,v1,v2,v3⟩:=hB3.cell;obtain ⟨x0,x1,x2,x3⟩:=hB3.frz;have HT:=Lib.hid hB3;clear hB hB3 hW2))
 go_wp2
 refine bodyPost_ret (v:=Dd.val ⟨0,false,false,false⟩) (results_cell_row rfl _ _ w.heap.size 71 _ (0,0) _ rfl (set4 HT.out.res rfl _ _ _ _) underlying71 rfl i_did) rfl (HT.out.told HE.out.1 ⟨0,false,false,false⟩)
theorem fl_rel1 {w:World} {L:Lp} {f:FL} (h:LkAt w L f) (k:Nat) (hk:k<f.s.n) (u:Int) (hs:f.s.st k=3) (hd:f.pc k=1) (hD:f.ps.D.length<4611686018427387904):
  Calls prog 169 #[.pointer (some ⟨L.lb,0,none⟩),.int .i64 (k:Int),.int .i64 u] w (LkPost w L (f.rel L k u) (f.relD L k u).val):=by
 have e1:f.rel L k u={f with pc:=upd f.pc k (if casT f.ps u L.a1 ((k:Int)+1)=true then 0 else 2),ps:=doS f.ps u 4 L.a1 ((k:Int)+1) 0}:=by unfold FL.rel;rw [if_neg (by omega),if_pos hd]
 have e2:f.relD L k u=if casT f.ps u L.a1 ((k:Int)+1)=true then ⟨3,false,false,false⟩ else Dd.no:=by unfold FL.relD;rw [if_neg (by omega),if_pos hd]
 rw [e1,e2]
 clear e1 e2
 obtain ⟨bo,a0,a1,a2⟩:=h.bd k
 have hF:=Fr.start h
 obtain ⟨Z,hZ⟩:∃ Z,Z=w.alloc (.cells #[.int .i64 0,.bool false,.bool false,.bool false] 71):=⟨_,rfl⟩
 rw [←hZ] at hF
 have hn64:=h.raw.seat.n2
 have kn:0≤(k:Int)+1∧(k:Int)+1<4294967296:=by omega
 have c1:=hF.drew.lk.raw.cell1
 have c2:=hF.drew.lk.raw.cell2
 have c3:=hF.lk.raw.cell3
 have t0:=hF.drew.lk.raw.tk0 hk
 have t1:=hF.drew.lk.raw.tk1 hk
 rw [hd] at t0
 have hog:ogf f.pc f.oth k=0:=by unfold ogf;rw [hd];rfl
 have cN:=fl_number Z.drew k (by omega)
 have cA:=pcas_any hF.drew.drew.lk.port u L.a1 ((k:Int)+1) 0 (by omega) (by omega) hD
 have e0:f.oth k=0:=(h.raw.inv k (by rw [hs];decide)).2 (.inl hd)
 change Calls _ _ _ _ (AccPost _ _ _ (.bool (casT f.ps u L.a1 ((k:Int)+1))) _) at cA
 generalize casT f.ps u L.a1 ((k:Int)+1)=v at*
 have HE:=Lib.hid (And.intro h (And.intro hk (And.intro (And.intro hs hd) hF)))
 have HO:=Lib.hid hog
 have HI:=Lib.hid (And.intro h.raw.inv (And.intro bo kn))
 have hkI:(k:Int)<f.s.n:=by omega
 clear h hF bo a0 a1 a2 hog hs hd kn
 have H0:=Lib.hid e0
 clear e0
 cases v
 ·rw [if_neg (by decide),if_neg (by decide)]
  go_enter func169,ntmps169
  go_wp2
  rw [←hZ]
  clear hZ
  go_region_held3 (λw'=>w'.cell? ⟨L.lb,3,none⟩=some (.slice (some ⟨L.tb,0,none⟩) f.s.n f.s.n)) (exact c3) (first|(go_at_call 171;(with_reducible refine cN.mono ?_);rintro e w' ⟨rfl,rfl⟩))
  go_wp2
  go_region_held3 (λw'=>w'.cell? ⟨L.lb,1,none⟩=some (.pointer (some ⟨L.q.p,0,none⟩))∧w'.cell? ⟨L.lb,2,none⟩=some (.int .i64 L.a1)) (first|exact ⟨c1,c2⟩|exact ⟨d1,d2⟩) (first|(go_at_call 177;(with_reducible refine cA.mono ?_);intro e w2 hq;unfold AccPost at hq;obtain ⟨rfl,hP,hW⟩:=hq;have hA:=HE.out.2.2.2.drew.drew.lk.ports hP hW;have hA3:=Fr.call HE.out.1 HE.out.2.2.2.drew.drew hA (lf_q hW);have d1:=hA.raw.cell1;have d2:=hA.raw.cell2;have y0:=hA.raw.tk0 HE.out.2.1;have y1:=hA.raw.tk1 HE.out.2.1;rw [HE.out.2.2.1.2] at y0;have z0:=hA.raw.tkz (k*2);have hT:=hA.tick1 k 2 (by omega) (HO.out.trans H0.out.symm) (λq=>⟨by omega,λ_=>H0.out⟩);have hA4:=Fr.call HE.out.1 hA3 hT.1 (lf_t hT.2);obtain ⟨v0,v1,v2,v3⟩:=hA4.cell;obtain ⟨x0,x1,x2,x3⟩:=hA4.frz;have HT:=Lib.hid hA4;clear hA4 hT;clear hA hA3 hP hW))
  go_wp2
  refine bodyPost_ret (v:=Dd.val ⟨0,false,false,false⟩) (results_cell_row rfl _ _ w.heap.size 71 _ (0,0) _ rfl (set4 HT.out.res rfl _ _ _ _) underlying71 rfl i_did) rfl (HT.out.told HE.out.1 ⟨0,false,false,false⟩)
 ·rw [if_pos rfl,if_pos rfl]
  go_enter func169,ntmps169
  go_wp2
  rw [←hZ]
  clear hZ
  go_region_held3 (λw'=>w'.cell? ⟨L.lb,3,none⟩=some (.slice (some ⟨L.tb,0,none⟩) f.s.n f.s.n)) (exact c3) (first|(go_at_call 171;(with_reducible refine cN.mono ?_);rintro e w' ⟨rfl,rfl⟩))
  go_wp2
  go_region_held3 (λw'=>w'.cell? ⟨L.lb,1,none⟩=some (.pointer (some ⟨L.q.p,0,none⟩))∧w'.cell? ⟨L.lb,2,none⟩=some (.int .i64 L.a1)) (first|exact ⟨c1,c2⟩|exact ⟨d1,d2⟩) (first|(go_at_call 177;(with_reducible refine cA.mono ?_);intro e w2 hq;unfold AccPost at hq;obtain ⟨rfl,hP,hW⟩:=hq;have hA:=HE.out.2.2.2.drew.drew.lk.ports hP hW;have hA3:=Fr.call HE.out.1 HE.out.2.2.2.drew.drew hA (lf_q hW);have d1:=hA.raw.cell1;have d2:=hA.raw.cell2;have y0:=hA.raw.tk0 HE.out.2.1;have y1:=hA.raw.tk1 HE.out.2.1;have HA:=Lib.hid hA3;have cE:=fl_ends hA k HE.out.2.1 3;clear hA hA3 hP hW))
  go_wp2_with (first|(go_at_call 175;(with_reducible refine cE.mono ?_);intro e w3 hq;unfold LkPost at hq;obtain ⟨rfl,hB,hW2⟩:=hq;dsimp only [Dd.val];have hB3:=Fr.call HE.out.1 HA.out hB hW2;obtain ⟨v0,v1,v2,v3⟩:=hB3.cell;obtain ⟨x0,x1,x2,x3⟩:=hB3.frz;have HT:=Lib.hid hB3;clear hB hB3 hW2))
  refine bodyPost_ret (v:=Dd.val ⟨3,false,false,false⟩) (results_cell_row rfl _ _ w.heap.size 71 _ (0,0) _ rfl (set4 HT.out.res rfl _ _ _ _) underlying71 rfl i_did) rfl (HT.out.told HE.out.1 ⟨3,false,false,false⟩)
theorem fl_rel3 {w:World} {L:Lp} {f:FL} (h:LkAt w L f) (k:Nat) (hk:k<f.s.n) (u:Int) (hs:f.s.st k=3) (hd:f.pc k=3) (hD:f.ps.D.length<4611686018427387904):
  Calls prog 169 #[.pointer (some ⟨L.lb,0,none⟩),.int .i64 (k:Int),.int .i64 u] w (LkPost w L (f.rel L k u) (f.relD L k u).val):=by
 have e1:f.rel L k u={f with pc:=upd f.pc k 0,ps:=doS f.ps u 2 (L.lk (f.oth k-1)) 0 0}:=by unfold FL.rel;rw [if_neg (by omega),if_neg (by omega),if_neg (by omega)]
 have e2:f.relD L k u=⟨3,false,false,false⟩:=by unfold FL.relD;rw [if_neg (by omega),if_neg (by omega),if_neg (by omega)]
 rw [e1,e2]
 clear e1 e2
 obtain ⟨bo,a0,a1,a2⟩:=h.bd k
 have hF:=Fr.start h
 obtain ⟨Z,hZ⟩:∃ Z,Z=w.alloc (.cells #[.int .i64 0,.bool false,.bool false,.bool false] 71):=⟨_,rfl⟩
 rw [←hZ] at hF
 have hn64:=h.raw.seat.n2
 have kn:0≤(k:Int)+1∧(k:Int)+1<4294967296:=by omega
 have c1:=hF.drew.lk.raw.cell1
 have c2:=hF.drew.lk.raw.cell2
 have c3:=hF.lk.raw.cell3
 have t0:=hF.drew.lk.raw.tk0 hk
 have t1:=hF.drew.lk.raw.tk1 hk
 rw [hd] at t0
 have hog:ogf f.pc f.oth k=f.oth k:=by unfold ogf;rw [hd];rfl
 have cN:=fl_number Z.drew k (by omega)
 rw [hog] at t1
 have cG:=fl_locked hF.drew.drew.lk (f.oth k) (f.oth k-1) bo rfl
 have cA:=pstore_any hF.drew.drew.lk.port u (L.lk (f.oth k-1)) 0 (by omega) (by omega) hD
 have HE:=Lib.hid (And.intro h (And.intro hk (And.intro (And.intro hs hd) hF)))
 have HO:=Lib.hid hog
 have HI:=Lib.hid (And.intro h.raw.inv (And.intro bo kn))
 have hkI:(k:Int)<f.s.n:=by omega
 clear h hF bo a0 a1 a2 hog hs hd kn
 go_enter func169,ntmps169
 go_wp2
 rw [←hZ]
 clear hZ
 go_region_held3 (λw'=>w'.cell? ⟨L.lb,3,none⟩=some (.slice (some ⟨L.tb,0,none⟩) f.s.n f.s.n)) (exact c3) (first|(go_at_call 171;(with_reducible refine cN.mono ?_);rintro e w' ⟨rfl,rfl⟩))
 go_wp2
 go_region_held3 (λw'=>w'.cell? ⟨L.lb,1,none⟩=some (.pointer (some ⟨L.q.p,0,none⟩))∧w'.cell? ⟨L.tb,k*2+1,none⟩=some (.int .u32 (f.oth k))) (first|exact ⟨c1,t1⟩|exact ⟨d1,y1⟩) (first|(go_at_call 174;(with_reducible refine cG.mono ?_);rintro e w' ⟨rfl,rfl⟩)|(go_at_call 100;(with_reducible refine cA.mono ?_);intro e w2 hq;unfold AccPost at hq;obtain ⟨rfl,hP,hW⟩:=hq;have hA:=HE.out.2.2.2.drew.drew.lk.ports hP hW;have hA3:=Fr.call HE.out.1 HE.out.2.2.2.drew.drew hA (lf_q hW);have d1:=hA.raw.cell1;have d2:=hA.raw.cell2;have y0:=hA.raw.tk0 HE.out.2.1;have y1:=hA.raw.tk1 HE.out.2.1;rw [HO.out] at y1;have HA:=Lib.hid hA3;have cE:=fl_ends hA k HE.out.2.1 3;clear hA hA3 hP hW))
 go_wp2_with (first|(go_at_call 175;(with_reducible refine cE.mono ?_);intro e w3 hq;unfold LkPost at hq;obtain ⟨rfl,hB,hW2⟩:=hq;dsimp only [Dd.val];have hB3:=Fr.call HE.out.1 HA.out hB hW2;obtain ⟨v0,v1,v2,v3⟩:=hB3.cell;obtain ⟨x0,x1,x2,x3⟩:=hB3.frz;have HT:=Lib.hid hB3;clear hB hB3 hW2))
 refine bodyPost_ret (v:=Dd.val ⟨3,false,false,false⟩) (results_cell_row rfl _ _ w.heap.size 71 _ (0,0) _ rfl (set4 HT.out.res rfl _ _ _ _) underlying71 rfl i_did) rfl (HT.out.told HE.out.1 ⟨3,false,false,false⟩)
theorem fl_rel {w:World} {L:Lp} {f:FL} (h:LkAt w L f) (k:Nat) (hk:k<f.s.n) (u:Int) (hs:f.s.st k=3) (hD:f.ps.D.length<4611686018427387904):
  Calls prog 169 #[.pointer (some ⟨L.lb,0,none⟩),.int .i64 (k:Int),.int .i64 u] w (LkPost w L (f.rel L k u) (f.relD L k u).val):=by
 have hr:=(h.raw.rng k).1
 have hi:=(h.raw.inv k (by rw [hs];decide)).1
 have:f.pc k=0∨f.pc k=1∨f.pc k=2∨f.pc k=3:=by omega
 rcases this with hd|hd|hd|hd
 ·exact fl_rel0 h k hk u hs hd hD
 ·exact fl_rel1 h k hk u hs hd hD
 ·exact fl_rel2 h k hk u hs hd hD
 ·exact fl_rel3 h k hk u hs hd hD
theorem fl_ask {w:World} {L:Lp} {f:FL} (h:LkAt w L f) (k:Nat) (hk:k<f.s.n) (u:Int) (hD:f.ps.D.length<4611686018427387904):
  Calls prog 170 #[.pointer (some ⟨L.lb,0,none⟩),.int .i64 (k:Int),.int .i64 u] w (LkPost w L (f.ask L k u) (f.askD L k u).val):=by
 unfold FL.ask FL.askD
 have hF:=Fr.start h
 obtain ⟨Z,hZ⟩:∃ Z,Z=w.alloc (.cells #[.int .i64 0,.bool false,.bool false,.bool false] 71):=⟨_,rfl⟩
 rw [←hZ] at hF
 have hn64:=h.raw.seat.n2
 have kn:0≤(k:Int)+1∧(k:Int)+1<4294967296:=by omega
 have c1:=hF.lk.raw.cell1
 have cN:=fl_number Z.drew k (by omega)
 have cG:=fl_next hF.drew.lk ((k:Int)+1) k kn (by omega)
 have cA:=pload_any hF.drew.lk.port u (L.nx k) hD
 generalize tellS f.ps u 1 (L.nx k)=v at*
 have HE:=Lib.hid (And.intro h (And.intro hk hF))
 clear h hF kn
 by_cases hx:v=0
 ·rw [if_pos hx]
  subst hx
  go_enter func170,ntmps170
  go_wp2
  rw [←hZ]
  clear hZ
  go_region_held3 (λw'=>w'.cell? ⟨L.lb,1,none⟩=some (.pointer (some ⟨L.q.p,0,none⟩))) (first|exact c1|exact d1) (first|(go_at_call 171;(with_reducible refine cN.mono ?_);rintro e w' ⟨rfl,rfl⟩)|(go_at_call 172;(with_reducible refine cG.mono ?_);rintro e w' ⟨rfl,rfl⟩)|(go_at_call 89;(with_reducible refine cA.mono ?_);intro e w2 hq;unfold AccPost at hq;obtain ⟨rfl,hP,hW⟩:=hq;have hA:=HE.out.2.2.drew.lk.ports hP hW;have hA3:=Fr.call HE.out.1 HE.out.2.2.drew hA (lf_q hW);have d1:=hA.raw.cell1;have d2:=hA.raw.cell2;obtain ⟨v0,v1,v2,v3⟩:=hA3.cell;obtain ⟨x0,x1,x2,x3⟩:=hA3.frz;have HT:=Lib.hid hA3;clear hA hA3 hP hW))
  go_wp2
  refine bodyPost_ret (v:=Dd.val ⟨4,false,false,false⟩) (results_cell_row rfl _ _ w.heap.size 71 _ (0,0) _ rfl (set4 HT.out.res rfl _ _ _ _) underlying71 rfl i_did) rfl (HT.out.told HE.out.1 ⟨4,false,false,false⟩)
 ·rw [if_neg hx]
  have b1:(v != 0)=true:=by simpa [bne,BEq.beq] using hx
  clear hx
  go_enter func170,ntmps170
  go_wp2
  rw [←hZ]
  clear hZ
  go_region_held3 (λw'=>w'.cell? ⟨L.lb,1,none⟩=some (.pointer (some ⟨L.q.p,0,none⟩))) (first|exact c1|exact d1) (first|(go_at_call 171;(with_reducible refine cN.mono ?_);rintro e w' ⟨rfl,rfl⟩)|(go_at_call 172;(with_reducible refine cG.mono ?_);rintro e w' ⟨rfl,rfl⟩)|(go_at_call 89;(with_reducible refine cA.mono ?_);intro e w2 hq;unfold AccPost at hq;obtain ⟨rfl,hP,hW⟩:=hq;have hA:=HE.out.2.2.drew.lk.ports hP hW;have hA3:=Fr.call HE.out.1 HE.out.2.2.drew hA (lf_q hW);have d1:=hA.raw.cell1;have d2:=hA.raw.cell2;obtain ⟨v0,v1,v2,v3⟩:=hA3.cell;obtain ⟨x0,x1,x2,x3⟩:=hA3.frz;have HT:=Lib.hid hA3;clear hA hA3 hP hW))
  go_wp2
  refine bodyPost_ret (v:=Dd.val ⟨5,false,false,false⟩) (results_cell_row rfl _ _ w.heap.size 71 _ (0,0) _ rfl (set4 HT.out.res rfl _ _ _ _) underlying71 rfl i_did) rfl (HT.out.told HE.out.1 ⟨5,false,false,false⟩)
open _root_.Go.Proofs.Tryz Go.Deep
theorem FL.mid_k (f:FL) (L:Lp) (t u:Int):∀ j:Nat,(j:Int)=t→(f.mid L t u).s.st j=1→(f.did L t u).ev≠0→(f.mid L t u).pc j=0:=by
 intro j hj h1 hd
 rw [f.mid_s] at h1
 subst hj
 unfold FL.did at hd
 unfold FL.mid
 by_cases hr:0≤(j:Int)∧(j:Int)<f.s.n
 ·rw [if_pos hr,Int.toNat_natCast,if_pos h1] at hd ⊢
  unfold FL.acqD at hd
  unfold FL.acq
  by_cases p0:f.pc j=0
  ·rw [if_pos p0] at hd;exact absurd rfl hd
  rw [if_neg p0] at hd ⊢
  by_cases p1:f.pc j=1
  ·rw [if_pos p1] at hd ⊢
   by_cases q:tellS f.ps u 3 L.a1=0
   ·rw [if_pos q];exact upd_same _ _ _
   ·rw [if_neg q] at hd;exact absurd rfl hd
  rw [if_neg p1] at hd ⊢
  by_cases p2:f.pc j=2
  ·rw [if_pos p2] at hd;exact absurd rfl hd
  rw [if_neg p2] at hd ⊢
  by_cases p3:f.pc j=3
  ·rw [if_pos p3] at hd;exact absurd rfl hd
  rw [if_neg p3] at hd ⊢
  by_cases q:tellS f.ps u 1 (L.lk j)=0
  ·rw [if_pos q];exact upd_same _ _ _
  ·rw [if_neg q] at hd;exact absurd rfl hd
 ·rw [if_neg hr] at hd;exact absurd rfl hd
structure Fd (w:World) (B:Nat) (X:World) (L:Lp) (f:FL) (C:Nat) (d:Dd):Prop where
 fr:Fr w B X L f
 did:X.heap[C]? =some (.cells (didC d) 71 (0,0))
 far:w.heap.size≤C
 ne:C≠B
theorem Fd.cell {w X:World} {B C:Nat} {L:Lp} {f:FL} {d:Dd} (h:Fd w B X L f C d):X.cell? ⟨C,0,none⟩=some (.int .i64 d.ev)∧X.cell? ⟨C,1,none⟩=some (.bool d.enq)∧X.cell? ⟨C,2,none⟩=some (.bool d.arr)∧X.cell? ⟨C,3,none⟩=some (.bool d.lead):=by
 rw [blk_cell h.did,blk_cell h.did,blk_cell h.did,blk_cell h.did];exact ⟨rfl,rfl,rfl,rfl⟩
theorem Fd.frz {w X:World} {B C:Nat} {L:Lp} {f:FL} {d:Dd} (h:Fd w B X L f C d):X.frozen? ⟨C,0,none⟩=false∧X.frozen? ⟨C,1,none⟩=false∧X.frozen? ⟨C,2,none⟩=false∧X.frozen? ⟨C,3,none⟩=false:=
 ⟨blk_frozen h.did 0,blk_frozen h.did 1,blk_frozen h.did 2,blk_frozen h.did 3⟩
theorem Fd.call {w X Y:World} {B C:Nat} {L:Lp} {f g f0:FL} {d:Dd} (h0:LkAt w L f0) (h:Fd w B X L f C d) (hl:LkAt Y L g) (k:Wr (LF L) X Y):Fd w B Y L g C d:=
 ⟨Fr.call h0 h.fr hl k,(k.block C (blk_lt h.did) (λe=>by have:=h0.lf_lt e;have:=h.far;omega)).trans h.did,h.far,h.ne⟩
theorem Fd.keep {w X:World} {B C:Nat} {L:Lp} {f f0:FL} {d:Dd} (h0:LkAt w L f0) (h:Fd w B X L f C d) (d':Dd):
  Fd w B ((((X.setCell ⟨C,0,none⟩ (.int .i64 d'.ev)).setCell ⟨C,1,none⟩ (.bool d'.enq)).setCell ⟨C,2,none⟩ (.bool d'.arr)).setCell ⟨C,3,none⟩ (.bool d'.lead)) L f C d':=by
 have k:=wrote4 X C (.int .i64 d'.ev) (.bool d'.enq) (.bool d'.arr) (.bool d'.lead)
 have hf:=h.far
 have hC:∀ j,j<w.heap.size→¬ One C j:=λj hj e=>by cases e;omega
 refine ⟨⟨h.fr.lk.wrote k (hC _ (blk_lt h0.raw.obj)) (hC _ (blk_lt h0.raw.seat.obj)) (hC _ (blk_lt h0.raw.seat.ctx)) (hC _ (blk_lt h0.raw.tick)) (λb _ b2=>hC b (Nat.lt_of_lt_of_le b2 h0.top)),h.fr.wr.trans k λb hb e=>(hC b hb e).elim,(k.block B (blk_lt h.fr.res) λe=>h.ne e.symm).trans h.fr.res,h.fr.new⟩,set4 h.did rfl _ _ _ _,h.far,h.ne⟩
theorem Fd.ends {w X Y:World} {B C:Nat} {L:Lp} {f g:FL} {d:Dd} (h0:LkAt w L f) (h:Fd w B X L g C d) {s':SS} (hS:SeatAt Y L.p L.b s') (hn:g.s.Kp s' g.pc) (k:Wr (One L.b) X Y):Fd w B Y L {g with s:=s'} C d:=
 h.call h0 (h.fr.lk.seats hS hn k) (lf_b k)
theorem hs_start {w:World} {L:Lp} {f:FL} (h:LkAt w L f) (cs:Array Value):
  Fd w (w.heap.size+1) (((w.alloc (.cells cs 113)).alloc (.cells #[.int .i64 0,.bool false,.bool false,.bool false] 71)).alloc (.cells #[.int .i64 0,.bool false,.bool false,.bool false] 71)) L f (w.heap.size+1+1) Dd.no∧
  (((w.alloc (.cells cs 113)).alloc (.cells #[.int .i64 0,.bool false,.bool false,.bool false] 71)).alloc (.cells #[.int .i64 0,.bool false,.bool false,.bool false] 71)).heap[w.heap.size]? =some (.cells cs 113 (0,0)):=by
 have e1:(w.alloc (.cells cs 113)).heap.size=w.heap.size+1:=nblk_alloc _ _
 have e2:((w.alloc (.cells cs 113)).alloc (.cells #[.int .i64 0,.bool false,.bool false,.bool false] 71)).heap.size=w.heap.size+1+1:=by rw [nblk_alloc,e1]
 have k:Wr Nil w (((w.alloc (.cells cs 113)).alloc (.cells #[.int .i64 0,.bool false,.bool false,.bool false] 71)).alloc (.cells #[.int .i64 0,.bool false,.bool false,.bool false] 71)):=(((Wr.refl _ w).alloc _).alloc _).alloc _
 refine ⟨⟨⟨h.after k,k.mono λ_ _ e=>e.elim,?_,Nat.le_succ _⟩,?_,by omega,by omega⟩,?_⟩
 ·rw [blk_alloc_lt _ _ _ (by rw [e2];omega),←e1,blk_alloc_new];rfl
 ·rw [←e2,blk_alloc_new];rfl
 ·rw [blk_alloc_lt _ _ _ (by rw [e2];omega),blk_alloc_lt _ _ _ (by rw [e1];omega),blk_alloc_new]
theorem hs_step {w:World} {L:Lp} {f:FL} (h:LkAt w L f) (t u:Int) (hD:f.ps.D.length<4611686018427387904):
  Calls prog 42 #[.pointer (some ⟨L.p,0,none⟩),.int .i64 t,.int .i64 u,.agg #[Value.func (.func 168) #[.pointer (some ⟨L.lb,0,none⟩)] #[],Value.func (.func 169) #[.pointer (some ⟨L.lb,0,none⟩)] #[],Value.func (.func 170) #[.pointer (some ⟨L.lb,0,none⟩)] #[]]] w (LkPost w L (f.step L t u) (f.did L t u).val):=by
 obtain ⟨hF,hB⟩:=hs_start h #[Value.func (.func 168) #[.pointer (some ⟨L.lb,0,none⟩)] #[],Value.func (.func 169) #[.pointer (some ⟨L.lb,0,none⟩)] #[],Value.func (.func 170) #[.pointer (some ⟨L.lb,0,none⟩)] #[]]
 obtain ⟨Z,hZ⟩:∃ Z,Z=((w.alloc (.cells #[Value.func (.func 168) #[.pointer (some ⟨L.lb,0,none⟩)] #[],Value.func (.func 169) #[.pointer (some ⟨L.lb,0,none⟩)] #[],Value.func (.func 170) #[.pointer (some ⟨L.lb,0,none⟩)] #[]] 113)).alloc (.cells #[.int .i64 0,.bool false,.bool false,.bool false] 71)).alloc (.cells #[.int .i64 0,.bool false,.bool false,.bool false] 71):=⟨_,rfl⟩
 rw [←hZ] at hF hB
 have b0:Z.cell? ⟨w.heap.size,0,none⟩=some (Value.func (.func 168) #[.pointer (some ⟨L.lb,0,none⟩)] #[]):=(blk_cell hB 0).trans rfl
 have b1:Z.cell? ⟨w.heap.size,1,none⟩=some (Value.func (.func 169) #[.pointer (some ⟨L.lb,0,none⟩)] #[]):=(blk_cell hB 1).trans rfl
 have b2:Z.cell? ⟨w.heap.size,2,none⟩=some (Value.func (.func 170) #[.pointer (some ⟨L.lb,0,none⟩)] #[]):=(blk_cell hB 2).trans rfl
 have cS:=se_state hF.fr.lk.raw.seat t
 obtain ⟨v0,v1,v2,v3⟩:=hF.fr.cell
 obtain ⟨x0,x1,x2,x3⟩:=hF.fr.frz
 obtain ⟨p0,p1,p2,p3⟩:=hF.cell
 have hn:=h.raw.seat.n2
 by_cases ht:0≤t∧t<f.s.n
 ·obtain ⟨k,rfl⟩:=Int.eq_ofNat_of_zero_le ht.1
  have hk:k<f.s.n:=by omega
  have eS:f.s.stI (k:Int)=f.s.st k:=by unfold SS.stI;rw [if_pos ht,Int.toNat_natCast]
  rw [eS] at cS
  by_cases h1:f.s.st k=1
  ·have e1:f.mid L k u=f.acq L k u:=by unfold FL.mid;rw [if_pos ht,Int.toNat_natCast,if_pos h1]
   have e2:f.did L k u=f.acqD L k u:=by unfold FL.did;rw [if_pos ht,Int.toNat_natCast,if_pos h1]
   have es:=f.mid_s L k u
   have ek:=f.mid_k L k u
   unfold FL.step
   rw [e1] at es
   rw [e1,e2] at ek
   rw [e1,e2]
   rw [h1] at cS
   have cA:=fl_acq hF.fr.lk k hk u h1 hD
   generalize f.acq L k u=g at*
   generalize f.acqD L k u=d at*
   have HE:=Lib.hid (And.intro h (And.intro hF (And.intro es ek)))
   have HZ:=Lib.hid hZ
   clear h hF eS e1 e2 hB es ek hZ h1
   generalize f.s.n=n at*
   go_enter func42,ntmps42
   go_wp2_with (first
    |(go_at_call 21;rw [←HZ.out];(with_reducible refine cS.mono ?_);rintro e w' ⟨rfl,rfl⟩)
    |(go_at_call 168;(with_reducible refine cA.mono ?_);intro e w2 hq;unfold LkPost at hq;obtain ⟨rfl,hA,hW⟩:=hq;dsimp only [Dd.val];have hA3:=HE.out.2.1.call HE.out.1 hA hW;obtain ⟨p0,p1,p2,p3⟩:=hA3.cell;obtain ⟨y0,y1,y2,y3⟩:=hA3.frz;have hK:=hA3.keep HE.out.1 d;have cE:=se_end hK.fr.lk.raw.seat (k:Int) d.ev;have HK:=Lib.hid hK;clear hA hA3 hK hW)
    |(go_at_call 62;(with_reducible refine cE.mono ?_);intro e w3 hq;unfold SeatPost at hq;obtain ⟨rfl,hS,hW⟩:=hq;have hY:=HK.out.ends HE.out.1 hS (SS.fin_k _ _ _ _ HE.out.2.2.2) hW;obtain ⟨e0,e1,e2,e3⟩:=hY.cell;obtain ⟨v0,v1,v2,v3⟩:=hY.fr.cell;obtain ⟨x0,x1,x2,x3⟩:=hY.fr.frz;have HT:=Lib.hid hY;clear hY hS hW))
   rw [←HE.out.2.2.1]
   refine bodyPost_ret (v:=Dd.val d) (results_cell_row rfl _ _ (w.heap.size+1) 71 _ (0,0) _ rfl (set4 HT.out.fr.res rfl _ _ _ _) underlying71 rfl i_did) rfl (HT.out.fr.told HE.out.1 d)
  by_cases h3:f.s.st k=3
  ·have e1:f.mid L k u=f.rel L k u:=by unfold FL.mid;rw [if_pos ht,Int.toNat_natCast,if_neg h1,if_pos h3]
   have e2:f.did L k u=f.relD L k u:=by unfold FL.did;rw [if_pos ht,Int.toNat_natCast,if_neg h1,if_pos h3]
   have es:=f.mid_s L k u
   have ek:=f.mid_k L k u
   unfold FL.step
   rw [e1] at es
   rw [e1,e2] at ek
   rw [e1,e2]
   rw [h3] at cS
   have cA:=fl_rel hF.fr.lk k hk u h3 hD
   generalize f.rel L k u=g at*
   generalize f.relD L k u=d at*
   have HE:=Lib.hid (And.intro h (And.intro hF (And.intro es ek)))
   have HZ:=Lib.hid hZ
   clear h hF eS e1 e2 hB es ek hZ h1 h3
   generalize f.s.n=n at*
   go_enter func42,ntmps42
   go_wp2_with (first
    |(go_at_call 21;rw [←HZ.out];(with_reducible refine cS.mono ?_);rintro e w' ⟨rfl,rfl⟩)
    |(go_at_call 169;(with_reducible refine cA.mono ?_);intro e w2 hq;unfold LkPost at hq;obtain ⟨rfl,hA,hW⟩:=hq;dsimp only [Dd.val];have hA3:=HE.out.2.1.call HE.out.1 hA hW;obtain ⟨p0,p1,p2,p3⟩:=hA3.cell;obtain ⟨y0,y1,y2,y3⟩:=hA3.frz;have hK:=hA3.keep HE.out.1 d;have cE:=se_end hK.fr.lk.raw.seat (k:Int) d.ev;have HK:=Lib.hid hK;clear hA hA3 hK hW)
    |(go_at_call 62;(with_reducible refine cE.mono ?_);intro e w3 hq;unfold SeatPost at hq;obtain ⟨rfl,hS,hW⟩:=hq;have hY:=HK.out.ends HE.out.1 hS (SS.fin_k _ _ _ _ HE.out.2.2.2) hW;obtain ⟨e0,e1,e2,e3⟩:=hY.cell;obtain ⟨v0,v1,v2,v3⟩:=hY.fr.cell;obtain ⟨x0,x1,x2,x3⟩:=hY.fr.frz;have HT:=Lib.hid hY;clear hY hS hW))
   rw [←HE.out.2.2.1]
   refine bodyPost_ret (v:=Dd.val d) (results_cell_row rfl _ _ (w.heap.size+1) 71 _ (0,0) _ rfl (set4 HT.out.fr.res rfl _ _ _ _) underlying71 rfl i_did) rfl (HT.out.fr.told HE.out.1 d)
  by_cases h4:f.s.st k=4
  ·have e1:f.mid L k u=f.ask L k u:=by unfold FL.mid;rw [if_pos ht,Int.toNat_natCast,if_neg h1,if_neg h3,if_pos h4]
   have e2:f.did L k u=f.askD L k u:=by unfold FL.did;rw [if_pos ht,Int.toNat_natCast,if_neg h1,if_neg h3,if_pos h4]
   have es:=f.mid_s L k u
   have ek:=f.mid_k L k u
   unfold FL.step
   rw [e1] at es
   rw [e1,e2] at ek
   rw [e1,e2]
   rw [h4] at cS
   have cA:=fl_ask hF.fr.lk k hk u hD
   generalize f.ask L k u=g at*
   generalize f.askD L k u=d at*
   have HE:=Lib.hid (And.intro h (And.intro hF (And.intro es ek)))
   have HZ:=Lib.hid hZ
   clear h hF eS e1 e2 hB es ek hZ h1 h3 h4
   generalize f.s.n=n at*
   go_enter func42,ntmps42
   go_wp2_with (first
    |(go_at_call 21;rw [←HZ.out];(with_reducible refine cS.mono ?_);rintro e w' ⟨rfl,rfl⟩)
    |(go_at_call 170;(with_reducible refine cA.mono ?_);intro e w2 hq;unfold LkPost at hq;obtain ⟨rfl,hA,hW⟩:=hq;dsimp only [Dd.val];have hA3:=HE.out.2.1.call HE.out.1 hA hW;obtain ⟨p0,p1,p2,p3⟩:=hA3.cell;obtain ⟨y0,y1,y2,y3⟩:=hA3.frz;have hK:=hA3.keep HE.out.1 d;have cE:=se_end hK.fr.lk.raw.seat (k:Int) d.ev;have HK:=Lib.hid hK;clear hA hA3 hK hW)
    |(go_at_call 62;(with_reducible refine cE.mono ?_);intro e w3 hq;unfold SeatPost at hq;obtain ⟨rfl,hS,hW⟩:=hq;have hY:=HK.out.ends HE.out.1 hS (SS.fin_k _ _ _ _ HE.out.2.2.2) hW;obtain ⟨e0,e1,e2,e3⟩:=hY.cell;obtain ⟨v0,v1,v2,v3⟩:=hY.fr.cell;obtain ⟨x0,x1,x2,x3⟩:=hY.fr.frz;have HT:=Lib.hid hY;clear hY hS hW))
   rw [←HE.out.2.2.1]
   refine bodyPost_ret (v:=Dd.val d) (results_cell_row rfl _ _ (w.heap.size+1) 71 _ (0,0) _ rfl (set4 HT.out.fr.res rfl _ _ _ _) underlying71 rfl i_did) rfl (HT.out.fr.told HE.out.1 d)
  have e1:f.mid L k u=f:=by unfold FL.mid;rw [if_pos ht,Int.toNat_natCast,if_neg h1,if_neg h3,if_neg h4]
  have e2:f.did L k u=Dd.no:=by unfold FL.did;rw [if_pos ht,Int.toNat_natCast,if_neg h1,if_neg h3,if_neg h4]
  have ek:=f.mid_k L k u
  rw [e1,e2] at ek
  have hK:=hF
  have cE:=se_end hK.fr.lk.raw.seat (k:Int) Dd.no.ev
  have HE:=Lib.hid (And.intro h (And.intro hF ek))
  have HK:=Lib.hid hK
  have HZ:=Lib.hid hZ
  unfold FL.step
  rw [e1,e2]
  clear h hF hK eS e1 e2 ek hB hZ b0 b1 b2
  generalize f.s.st k=x at*
  generalize f.s.n=n at*
  go_enter func42,ntmps42
  go_wp2_with (first
   |(go_at_call 21;rw [←HZ.out];(with_reducible refine cS.mono ?_);rintro e w' ⟨rfl,rfl⟩)
   |(go_at_call 62;(with_reducible refine cE.mono ?_);intro e w3 hq;unfold SeatPost at hq;obtain ⟨rfl,hS,hW⟩:=hq;have hY:=HK.out.ends HE.out.1 hS (SS.fin_k _ _ _ _ HE.out.2.2) hW;obtain ⟨e0,e1,e2,e3⟩:=hY.cell;obtain ⟨v0,v1,v2,v3⟩:=hY.fr.cell;obtain ⟨x0,x1,x2,x3⟩:=hY.fr.frz;have HT:=Lib.hid hY;clear hY hS hW))
  refine bodyPost_ret (v:=Dd.val Dd.no) (results_cell_row rfl _ _ (w.heap.size+1) 71 _ (0,0) _ rfl (set4 HT.out.fr.res rfl _ _ _ _) underlying71 rfl i_did) rfl (HT.out.fr.told HE.out.1 Dd.no)
 ·have eS:f.s.stI t=0:=if_neg ht
  rw [eS] at cS
  have e1:f.mid L t u=f:=by unfold FL.mid;rw [if_neg ht]
  have e2:f.did L t u=Dd.no:=by unfold FL.did;rw [if_neg ht]
  have ek:=f.mid_k L t u
  rw [e1,e2] at ek
  have hK:=hF
  have cE:=se_end hK.fr.lk.raw.seat t Dd.no.ev
  have HE:=Lib.hid (And.intro h (And.intro hF ek))
  have HK:=Lib.hid hK
  have HZ:=Lib.hid hZ
  unfold FL.step
  rw [e1,e2]
  clear h hF hK eS e1 e2 ek hB hZ b0 b1 b2 ht
  go_enter func42,ntmps42
  go_wp2_with (first
   |(go_at_call 21;rw [←HZ.out];(with_reducible refine cS.mono ?_);rintro e w' ⟨rfl,rfl⟩)
   |(go_at_call 62;(with_reducible refine cE.mono ?_);intro e w3 hq;unfold SeatPost at hq;obtain ⟨rfl,hS,hW⟩:=hq;have hY:=HK.out.ends HE.out.1 hS (SS.fin_k _ _ _ _ HE.out.2.2) hW;obtain ⟨e0,e1,e2,e3⟩:=hY.cell;obtain ⟨v0,v1,v2,v3⟩:=hY.fr.cell;obtain ⟨x0,x1,x2,x3⟩:=hY.fr.frz;have HT:=Lib.hid hY;clear hY hS hW))
  refine bodyPost_ret (v:=Dd.val Dd.no) (results_cell_row rfl _ _ (w.heap.size+1) 71 _ (0,0) _ rfl (set4 HT.out.fr.res rfl _ _ _ _) underlying71 rfl i_did) rfl (HT.out.fr.told HE.out.1 Dd.no)
theorem fl_step {w:World} {L:Lp} {f:FL} (h:LkAt w L f) (t u x:Int) (hD:f.ps.D.length<4611686018427387904):
  Calls prog 166 #[.pointer (some ⟨L.lb,0,none⟩),.int .i64 t,.int .i64 u,.int .i64 x] w (LkPost w L (f.step L t u) (f.did L t u).val):=by
 have hF:=Fr.start h
 obtain ⟨Z,hZ⟩:∃ Z,Z=w.alloc (.cells #[.int .i64 0,.bool false,.bool false,.bool false] 71):=⟨_,rfl⟩
 rw [←hZ] at hF
 have cM:=hs_step hF.lk t u hD
 have c0:=hF.lk.raw.cell0
 rw [hZ] at c0
 generalize f.step L t u=g at*
 generalize f.did L t u=d at*
 have HE:=Lib.hid (And.intro h hF)
 have HZ:=Lib.hid hZ
 clear h hF hZ
 go_enter func166,ntmps166
 go_wp2_with (first
  |(go_at_call 42;rw [←HZ.out];(with_reducible refine cM.mono ?_);intro e w2 hq;unfold LkPost at hq;obtain ⟨rfl,hA,hW⟩:=hq;dsimp only [Dd.val];have hA3:=Fr.call HE.out.1 HE.out.2 hA hW;obtain ⟨v0,v1,v2,v3⟩:=hA3.cell;obtain ⟨x0,x1,x2,x3⟩:=hA3.frz;have HT:=Lib.hid hA3;clear hA hA3 hW))
 refine bodyPost_ret (v:=Dd.val d) (results_cell_row rfl _ _ w.heap.size 71 _ (0,0) _ rfl (set4 HT.out.res rfl _ _ _ _) underlying71 rfl i_did) rfl (HT.out.told HE.out.1 d)
def dbl (zs:List Int):List Int:=zs.flatMap λz=>[z,z]
theorem dbl_len (zs:List Int):(dbl zs).length=2*zs.length:=by
 unfold dbl
 induction zs with
 |nil=>rfl
 |cons z r ih=>rw [List.flatMap_cons,List.length_append,ih];simp;omega
theorem dbl_more (zs:List Int) {k:Nat} (hk:k<zs.length):dbl (zs.take (k+1))=dbl (zs.take k)++List.replicate 2 (zs.getD k 0):=by
 unfold dbl
 rw [List.take_add_one,List.getElem?_eq_getElem hk,List.getD_eq_getElem?_getD,List.getElem?_eq_getElem hk,List.flatMap_append]
 rfl
theorem repz_more (k:Nat) (x:Int):List.replicate (2*(k+1)) x=List.replicate (2*k) x++List.replicate 2 x:=by
 rw [List.replicate_append_replicate,show 2*(k+1)=2*k+2 by omega]
abbrev lkO (p:Nat) (x:Int) (tb n:Nat):Array Value:= #[.pointer (some ⟨p,0,none⟩),.pointer none,.int .i64 x,.slice (some ⟨tb,0,none⟩) n n]
abbrev plac (lb p sb tb:Nat) (x:Int):Lp:=⟨lb,p,sb,tb,x,x+1,⟨0,0,0,0,0,0,0,0,0,0,0,0,.pointer none⟩,[]⟩
structure LaySt (w:World) (q:Pl) (t:Int) (lb p sb tb b o n:Nat) (zs:List Int) (x:Int) (hs vs:List Int) (wr:World):Prop where
 plan:∃ q':Pl,q'.p=q.p∧PlanAt wr q' t hs vs∧Came w q.F q'.F∧¬ q'.F lb∧¬ q'.F p∧¬ q'.F sb∧¬ q'.F tb∧¬ q'.F b
 kp:Wr q.F w wr
 raw:FlRaw wr (plac lb p sb tb x) (.pointer none) (newSeat n false true) (λ_=>0) (λ_=>0)
 row:RowAt .i64 wr (some ⟨b,o,none⟩) n zs
 low:w.heap.size≤lb∧w.heap.size≤p∧w.heap.size≤sb∧w.heap.size≤tb
namespace LaySt
variable {w wr w':World} {q:Pl} {t:Int} {lb p sb tb b o n:Nat} {zs:List Int} {x:Int} {hs vs:List Int}
theorem home (h:LaySt w q t lb p sb tb b o n zs x hs vs wr) {j:Nat} (hj:j<n):wr.cell? ⟨b,o+j,none⟩=some (.int .i64 (zs.getD j 0)):=by
 rcases h.row.at with h0|⟨b',o',e,hc⟩
 ·omega
 ·cases e
  exact hc j hj
end LaySt
def LayPost (w:World) (q:Pl) (t:Int) (lb p sb tb b o n:Nat) (zs:List Int) (x:Int) (hs vs:List Int) (r:Value) (e:Ending) (w':World):Prop:=e= .returned r∧LaySt w q t lb p sb tb b o n zs x hs vs w'
section
variable {w wr:World} {q:Pl} {t:Int} {lb p sb tb b o n:Nat} {zs:List Int} {x:Int} {hs vs:List Int}
theorem ly_row (h:LaySt w q t lb p sb tb b o n zs x hs vs wr) (hb:b<w.heap.size) (y:Int) (hL:hs.length≤900000):
  Calls prog 23 #[.pointer (some ⟨q.p,0,none⟩),.int .i64 2,.int .i64 y,.int .u32 0] wr (LayPost w q t lb p sb tb b o n zs x (hs++List.replicate 2 y) (vs++List.replicate 2 0) (.int .i64 (hs.length:Nat))):=by
 obtain ⟨q',hq,hP,hC,f1,f2,f3,f4,f5⟩:=h.plan
 have c:=plrow_any hP 2 y 0 hL
 rw [hq,show rowN 2=2 from rfl] at c
 refine c.mono ?_
 intro e w2 hp
 unfold PlanPost at hp
 obtain ⟨rfl,q2,hq2,hP2,hW,hC2⟩:=hp
 have s1:=h.kp.size
 have l1:=blk_lt h.raw.obj
 have l2:=blk_lt h.raw.seat.obj
 have l3:=blk_lt h.raw.seat.ctx
 have l4:=blk_lt h.raw.tick
 have hn:∀ k,k<wr.heap.size→¬ q'.F k→¬ q2.F k:=λk hk h0 e=>by
  rcases hC2 k e with e|e
  ·exact h0 e
  ·omega
 refine ⟨rfl,⟨q2,hq2.trans hq,hP2,hC.trans hC2 s1,hn _ l1 f1,hn _ l2 f2,hn _ l3 f3,hn _ l4 f4,hn _ (by omega) f5⟩,h.kp.trans hW λj hj e=> ?_,h.raw.wrote hW f1 f2 f3 f4,h.row.wrote hW λa ha e=> ?_,h.low⟩
 ·rcases hC j e with e|e
  ·exact e
  ·omega
 ·cases ha
  exact f5 e
end
def WdPost (W:World) (q:Pl) (t:Int) (b o n:Nat) (zs:List Int) (hs vs:List Int) (r:Value) (e:Ending) (w':World):Prop:=e= .returned r∧∃ q':Pl,q'.p=q.p∧PlanAt w' q' t hs vs∧Wr q.F W w'∧Came W q.F q'.F∧RowAt .i64 w' (some ⟨b,o,none⟩) n zs
theorem wd_word {w W:World} {q:Pl} {t:Int} {hs vs:List Int} {b o n:Nat} {zs:List Int} (h:PlanAt w q t hs vs) (hr:RowAt .i64 w (some ⟨b,o,none⟩) n zs) (hb:¬ q.F b) (hL:hs.length≤900000) (k:Wr Nil w W) (x:Int):
  Calls prog 44 #[.pointer (some ⟨q.p,0,none⟩),.int .i64 x,.int .u32 0] W (WdPost W q t b o n zs (hs++[x]) (vs++[0]) (.int .i64 (hs.length:Nat))):=by
 refine (plword_any (h.after k) x 0 (by omega)).mono ?_
 intro e w2 hp
 unfold PlanPost at hp
 obtain ⟨rfl,q2,hq2,hP2,hW,hC2⟩:=hp
 exact ⟨rfl,q2,hq2,hP2,hW,hC2,(hr.after k).wrote hW λa ha e=>by cases ha;exact hb e⟩
theorem i_pl:(prog.info? 242).map (λi=>(i.zero,i.size,i.bytes))=some (some (.agg #[.int .i64 0,.int .u32 0]),2,16):=by kernel_rfl
theorem ogf_0:ogf (λ_=>0) (λ_=>0)=λ_=>0:=by funext j;unfold ogf;exact if_pos (show (0:Int)≤1 by decide)
theorem made_tk (n:Nat):madeCells (Value.agg #[.int .i64 0,.int .u32 0]).cells (n*2)=(tks n (λ_=>0) (λ_=>0)).toArray:=by
 apply Array.ext'
 show (madeCells (#[.int .i64 0,.int .u32 0]:Array Value) (n*2)).toList=tks n (λ_=>0) (λ_=>0)
 apply List.ext_getElem?
 intro m
 by_cases hm:m<n*2
 ·have ha:m/2<n:=by omega
  have e:m=m/2*2+m%2:=by omega
  have h2:=tks_at n (λ_=>0) (λ_=>0) (k:=m/2) ha (j:=m%2) (Nat.mod_lt _ (by decide))
  rw [←e] at h2
  rw [h2]
  unfold madeCells
  rw [Array.toList_map,List.getElem?_map,Array.toList_range,List.getElem?_range hm]
  have:m%2=0∨m%2=1:=by omega
  rcases this with h|h<;>simp [h,tkC]
 ·rw [List.getElem?_eq_none (by simp [madeCells];omega),List.getElem?_eq_none (by unfold tks;rw [flat_len (tkC_len _ _),List.length_range];omega)]
def NewMcsPost (w:World) (q:Pl) (t:Int) (hs vs:List Int) (n:Nat) (zs:List Int) (e:Ending) (w':World):Prop:=
 ∃ (L:Lp) (q':Pl),e= .returned (.tuple #[.pointer (some ⟨L.lb,0,none⟩),.int .i64 0])∧FlRaw w' L (.pointer none) (newSeat n false true) (λ_=>0) (λ_=>0)∧
  (w.heap.size≤L.lb∧w.heap.size≤L.p∧w.heap.size≤L.b∧w.heap.size≤L.tb)∧L.a1=hs.length∧L.a2=hs.length+1∧q'.p=q.p∧PlanAt w' q' t (hs++[zs.getD 0 0]++dbl zs) (vs++[0]++List.replicate (2*n) 0)∧Wr q.F w w'∧Came w q.F q'.F
theorem lay_start {w wq w1 w2 W:World} {q q2:Pl} {t:Int} {hs vs hs2 vs2:List Int} {b o n p sb lb tb:Nat} {zs:List Int} {A:Array Value} {x:Int} (h:PlanAt w q t hs vs) (hbl:b<w.heap.size) (hb:¬ q.F b) (kq:Wr Nil w wq) (hS:SeatAt wq p sb (newSeat n false true)) (hp:w.heap.size≤p) (hsb:w.heap.size≤sb) (hA:(tks n (λ_=>0) (λ_=>0)).toArray=A)
  (k1:Wr Nil wq w1) (hq2:q2.p=q.p) (hP2:PlanAt w2 q2 t hs2 vs2) (hW:Wr q.F w1 w2) (hC:Came w1 q.F q2.F) (hr2:RowAt .i64 w2 (some ⟨b,o,none⟩) n zs) (k3:Wr Nil w2 W)
  (hT:W.heap[tb]? =some (.cells A 242 (0,0))) (ht:wq.heap.size≤tb) (ht2:tb<w1.heap.size∨w2.heap.size≤tb) (hO:W.heap[lb]? =some (.cells (lkO p x tb n) 191 (0,0))) (hl:w2.heap.size≤lb) (hlt:lb≠tb) (hx:0≤x∧x≤2000000):
  LaySt w q t lb p sb tb b o n zs x hs2 vs2 W:=by
 have s1:=kq.size
 have s2:=k1.size
 have s3:=hW.size
 have l1:=blk_lt hS.obj
 have l2:=blk_lt hS.ctx
 have hF:∀ k,w.heap.size≤k→¬ q.F k:=λk hk e=>by have:=h.lt e;omega
 have hF2:∀ k,k<w1.heap.size→¬ q.F k→¬ q2.F k:=λk hk h0 e=>by
  rcases hC k e with e|e
  ·exact h0 e
  ·omega
 have hF3:∀ k,w2.heap.size≤k→¬ q2.F k:=λk hk e=>by have:=hP2.lt e;omega
 have hS2:=(hS.wrote k1 id id).wrote hW (hF p hp) (hF sb hsb)
 have hS3:=hS2.wrote k3 id id
 have hne:=hS.ne
 have kw:Wr q.F w W:=(((kq.nil k1).mono λ_ _ e=>e.elim:Wr q.F w w1).trans hW λ_ _ e=>e).trans k3 λ_ _ e=>e.elim
 refine ⟨⟨q2,hq2,hP2.after k3,λj hj=> ?_,hF3 _ hl,hF2 _ (by omega) (hF p hp),hF2 _ (by omega) (hF sb hsb),?_,hF2 _ (by omega) hb⟩,kw,⟨hO,hS3,?_,⟨by dsimp only;omega,by dsimp only;omega,?_,?_,by dsimp only;omega⟩,λ_=>by decide,λ_ _=>by decide,⟨hx.1,hx.2,rfl⟩⟩,hr2.after k3,by omega,by omega,by omega,by omega⟩
 ·rcases hC j hj with e|e
  ·exact .inl e
  ·exact .inr (by omega)
 ·rcases ht2 with e|e
  ·exact hF2 _ e (hF _ (by omega))
  ·exact hF3 _ e
 ·rw [ogf_0];exact hT.trans (by rw [←hA];rfl)
 ·show p≠tb;omega
 ·show sb≠tb;omega
theorem fn_end {w wr:World} {q:Pl} {t:Int} {hs vs:List Int} {b o n p sb lb tb:Nat} {zs:List Int} {x:Int} (h:PlanAt w q t hs vs) (hl:LaySt w q t lb p sb tb b o n zs ((hs.length:Nat):Int) (hs++[x]++dbl (zs.take n)) (vs++[0]++List.replicate (2*n) 0) wr) (hn:zs.length=n) (hx:x=zs.getD 0 0):
  NewMcsPost w q t hs vs n zs (.returned (.tuple #[.pointer (some ⟨lb,0,none⟩),.int .i64 0])) wr:=by
 obtain ⟨q',hq,hP,hC,_⟩:=hl.plan
 rw [List.take_of_length_le (by omega),hx] at hP
 exact ⟨_,q',rfl,hl.raw,hl.low,rfl,rfl,hq,hP,hl.kp,hC⟩
theorem fn_new {w:World} {q:Pl} {t:Int} {hs vs:List Int} (h:PlanAt w q t hs vs) {b o n cap:Nat} {zs:List Int} (hr:RowAt .i64 w (some ⟨b,o,none⟩) n zs) (ho:homesOK zs=true) (n1:1≤n) (n2:n≤64) (hL:hs.length≤800000) (hb:¬ q.F b):
  Calls prog 79 #[.pointer (some ⟨q.p,0,none⟩),.slice (some ⟨b,o,none⟩) n cap] w (NewMcsPost w q t hs vs n zs):=by
 obtain ⟨i0,hi,hz0,hz1,hz2⟩:=info_parts i_pl
 have hmk:∀ w:World,(Instr.makeSlice 189 (.int .i64 (n:Int)) (.int .i64 (n:Int))).run prog w= .ok (.slice (some ⟨w.heap.size,0,none⟩) n n) (w.alloc (.cells (tks n (λ_=>0) (λ_=>0)).toArray 242)):=by
  intro w
  have h:=Go.run_make (P:=prog) w 189 242 i0 _ underlying189 hi hz0 .i64 .i64 n n (by omega) (by omega) (by rw [hz2];omega) (by omega)
  rw [hz1] at h
  simp only [Int.toNat_natCast] at h
  rw [made_tk n] at h
  exact h
 generalize hA:(tks n (λ_=>0) (λ_=>0)).toArray=A at hmk
 have cS:=hm_seats (cap:=cap) hr ho false true n1 n2
 obtain ⟨x,hx⟩:∃ x,x=zs.getD 0 0:=⟨_,rfl⟩
 have hc:=hr.cell ⟨b,o,none⟩ rfl 0 (by omega)
 have hc:w.cell? ⟨b,o,none⟩=some (.int .i64 x):=by rw [hx];exact hc
 have hbx:b<w.heap.size:=World.block_lt_of_cell? w _ hc
 have hlen:=hr.len
 have HX:=Lib.hid (And.intro h (And.intro hr (And.intro hA (And.intro hbx (And.intro hb hx)))))
 have HC:=Lib.hid hc
 clear h hr ho hA hb hbx hx hc
 have n0:(0:Nat)<n:=n1
 go_enter func79,ntmps79
 go_wp2_with (first
  |(go_at_call 45;(with_reducible refine cS.mono ?_);intro e wq hq;unfold NewSeatPost at hq;obtain ⟨p,sb,rfl,hS,hp,hsb,hW⟩:=hq;have b1:=hW.old HC.out;have HS:=Lib.hid (And.intro hS (And.intro hp (And.intro hsb hW)));clear hS hp hsb hW cS))
 have cW:=λW (k:Wr Nil w W)=>wd_word HX.out.1 HX.out.2.1 HX.out.2.2.2.2.1 (by omega) k x
 go_region_held3 (λw'=>w'.cell? ⟨b,o,none⟩=some (.int .i64 x)) (first|exact b1|exact i1|go_keep) (first
  |(go_at_call 44;(with_reducible refine (cW _ (by first|exact (HS.out.2.2.2).drew|exact ((HS.out.2.2.2).drew).alloc _|exact ((HS.out.2.2.2).alloc _).drew)).mono ?_);intro e w2 hq;unfold WdPost at hq;obtain ⟨rfl,q1,hq1,hP1,hF1,hC1,hr1⟩:=hq;clear cW;have i1:w2.cell? ⟨b,o,none⟩=some (.int .i64 x):=(hr1.cell ⟨b,o,none⟩ rfl 0 n0).trans (by rw [HX.out.2.2.2.2.2]);have HM:=Lib.hid (And.intro hq1 (And.intro hP1 (And.intro hF1 (And.intro hC1 hr1))));clear hq1 hP1 hF1 hC1 hr1))
 ·have HL:=Lib.hid (show LaySt w q t (w2.heap.size+1) p sb (w2.heap.size) b o n zs ((hs.length:Nat):Int) (hs++[x]) (vs++[0]) ((w2.alloc (.cells A 242)).alloc (.cells (lkO p ((hs.length:Nat):Int) w2.heap.size n) 191)) from by
    obtain ⟨h,hr,hA,hbx,hb,hx⟩:=HX.out
    obtain ⟨hS,hp,hsb,hWq⟩:=HS.out
    obtain ⟨hq1,hP1,hF1,hC1,hr1⟩:=HM.out
    have e1:(w2.alloc (.cells A 242)).heap.size=w2.heap.size+1:=nblk_alloc _ _
    exact lay_start h hbx hb hWq hS hp hsb hA ((Wr.refl _ _).drew) hq1 hP1 hF1 hC1 hr1 (((Wr.refl _ _).alloc _).alloc _) ((blk_alloc_lt _ _ _ (by rw [e1];omega)).trans (blk_alloc_new _ _)) (hF1.size) (.inr (Nat.le_refl _)) (by rw [←e1];exact blk_alloc_new _ _) (by omega) (by omega) ⟨by omega,by omega⟩)
  obtain ⟨W,hW⟩:∃ W,W=(w2.alloc (.cells A 242)).alloc (.cells (lkO p ((hs.length:Nat):Int) w2.heap.size n) 191):=⟨_,rfl⟩
  rw [←hW] at HL ⊢
  clear hW HM i1 b1
  generalize (w2.heap.size+1)=lb at*
  generalize (w2.heap.size)=tb at*
  go_wp2
  go_loopw [10,32] (λ_ i wr=>∃ k:Nat,k≤n∧i= .int .i64 k∧LaySt w q t lb p sb tb b o n zs ((hs.length:Nat):Int) (hs++[x]++dbl (zs.take k)) (vs++[0]++List.replicate (2*k) 0) wr) (λ_ i _=>n-(intOf i).toNat)
  case atStart=>exact ⟨0,Nat.zero_le _,rfl,by simpa [dbl] using HL.out⟩
  case round=>
   clear HL
   obtain ⟨k,hk,rfl,hl⟩:=hrel
   by_cases hlt:k<n
   ·have yc:=hl.home hlt
    have hmore:=dbl_more zs (k:=k) (by omega)
    have rmore:=repz_more k 0
    have cR:=ly_row hl HX.out.2.2.2.1 (zs.getD k 0) (by simp only [List.length_append,List.length_singleton,dbl_len,List.length_take];omega)
    rw [List.append_assoc (hs++[x]),←hmore,List.append_assoc (vs++[0]),←rmore] at cR
    generalize zs.getD k 0=y at*
    clear hl hmore rmore
    go_wp2_with (first
     |(go_at_call 23;(with_reducible refine cR.mono ?_);intro e w4 hq;unfold LayPost at hq;obtain ⟨rfl,hA⟩:=hq;have HA:=Lib.hid hA;clear hA))
    go_roundw
    case rel=>exact ⟨k+1,by omega,by go_num,HA.out⟩
    case measure=>simp [intOf];omega
   ·obtain rfl:k=n:=by omega
    have HL:=Lib.hid hl
    clear hl
    go_wp2
    go_ret2
    exact fn_end HX.out.1 HL.out hlen HX.out.2.2.2.2.2
 ·have HL:=Lib.hid (show LaySt w q t (w2.heap.size) p sb (wq.heap.size) b o n zs ((hs.length:Nat):Int) (hs++[x]) (vs++[0]) (w2.alloc (.cells (lkO p ((hs.length:Nat):Int) wq.heap.size n) 191)) from by
    obtain ⟨h,hr,hA,hbx,hb,hx⟩:=HX.out
    obtain ⟨hS,hp,hsb,hWq⟩:=HS.out
    obtain ⟨hq1,hP1,hF1,hC1,hr1⟩:=HM.out
    have e1:(wq.alloc (.cells A 242)).drew.heap.size=wq.heap.size+1:=nblk_alloc wq _
    have s1:=hF1.size
    have s2:=hWq.size
    have hk:=hF1.block wq.heap.size (by rw [e1];omega) (λe=>by have:=h.lt e;omega)
    exact lay_start h hbx hb hWq hS hp hsb hA (((Wr.refl _ _).alloc _).drew) hq1 hP1 hF1 hC1 hr1 ((Wr.refl _ _).alloc _) ((blk_alloc_lt _ _ _ (by omega)).trans (hk.trans (blk_alloc_new wq _))) (Nat.le_refl _) (.inl (by rw [e1];omega)) (blk_alloc_new _ _) (Nat.le_refl _) (by omega) ⟨by omega,by omega⟩)
  obtain ⟨W,hW⟩:∃ W,W=w2.alloc (.cells (lkO p ((hs.length:Nat):Int) wq.heap.size n) 191):=⟨_,rfl⟩
  rw [←hW] at HL ⊢
  clear hW HM i1 b1
  generalize (w2.heap.size)=lb at*
  generalize (wq.heap.size)=tb at*
  go_wp2
  go_loopw [10,32] (λ_ i wr=>∃ k:Nat,k≤n∧i= .int .i64 k∧LaySt w q t lb p sb tb b o n zs ((hs.length:Nat):Int) (hs++[x]++dbl (zs.take k)) (vs++[0]++List.replicate (2*k) 0) wr) (λ_ i _=>n-(intOf i).toNat)
  case atStart=>exact ⟨0,Nat.zero_le _,rfl,by simpa [dbl] using HL.out⟩
  case round=>
   clear HL
   obtain ⟨k,hk,rfl,hl⟩:=hrel
   by_cases hlt:k<n
   ·have yc:=hl.home hlt
    have hmore:=dbl_more zs (k:=k) (by omega)
    have rmore:=repz_more k 0
    have cR:=ly_row hl HX.out.2.2.2.1 (zs.getD k 0) (by simp only [List.length_append,List.length_singleton,dbl_len,List.length_take];omega)
    rw [List.append_assoc (hs++[x]),←hmore,List.append_assoc (vs++[0]),←rmore] at cR
    generalize zs.getD k 0=y at*
    clear hl hmore rmore
    go_wp2_with (first
     |(go_at_call 23;(with_reducible refine cR.mono ?_);intro e w4 hq;unfold LayPost at hq;obtain ⟨rfl,hA⟩:=hq;have HA:=Lib.hid hA;clear hA))
    go_roundw
    case rel=>exact ⟨k+1,by omega,by go_num,HA.out⟩
    case measure=>simp [intOf];omega
   ·obtain rfl:k=n:=by omega
    have HL:=Lib.hid hl
    clear hl
    go_wp2
    go_ret2
    exact fn_end HX.out.1 HL.out hlen HX.out.2.2.2.2.2
end Go.Proofs.YtkmikkjjnbikdaaGreat.Km

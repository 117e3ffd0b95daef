
import Derived.Test.YtcikfcplagelaaaGreatBuAw
import Derived.Test.YtcikfcplagelaaaGreatHierRn
import Derived.Test.YtcikfcplagelaaaGreatAbortRn
import Derived.Test.YtcikfcplagelaaaGreatCohRnw
namespace Go.Proofs.YtcikfcplagelaaaGreat
set_option maxHeartbeats 8000000
open _root_.Go.Proofs.Tryz Go.Deep
open Go.RowKit Go.BigFrame
set_option linter.unusedVariables false
set_option maxRecDepth 100000
theorem ty_off {w:World} {b c:Nat} {cs cs':Array Value} {t t':TypeId} (h:w.heap[b]? =some (.cells cs t (0,0))) (h':w.heap[c]? =some (.cells cs' t' (0,0))) (ht:t≠t'):c≠b:=by
 rintro rfl
 rw [h] at h'
 cases h'
 exact ht rfl
def RwPost (w:World) (kd:Int) (M:Nat) (e:Ending) (w':World):Prop:=
 ∃ (p:Fin 7→Option Addr) (r:Nat) (so:Option Addr) (c:Nat),e= .returned (.tuple #[.agg #[.int .i64 kd,.pointer (p 0),.pointer (p 1),.pointer (p 2),.pointer (p 3),.pointer (p 4),.pointer (p 5),.pointer (p 6)],.pointer (some ⟨r,0,none⟩)])∧w'.cell? ⟨r,0,none⟩=some (.slice so M c)∧Wr Nil w w'
theorem th_0 (w:World) (A B C:Obj):(((w.alloc A).alloc B).alloc C).heap[w.heap.size]? =some A:=by
 rw [blk_alloc_lt _ _ _ (by rw [nblk_alloc,nblk_alloc];omega),blk_alloc_lt _ _ _ (by rw [nblk_alloc];omega),blk_alloc_new]
theorem th_1 (w:World) (A B C:Obj):(((w.alloc A).alloc B).alloc C).heap[w.heap.size+1]? =some B:=by
 rw [blk_alloc_lt _ _ _ (by rw [nblk_alloc,nblk_alloc];omega),←nblk_alloc w A,blk_alloc_new]
theorem th_2 (w:World) (A B C:Obj):(((w.alloc A).alloc B).alloc C).heap[w.heap.size+2]? =some C:=by
 rw [show w.heap.size+2=((w.alloc A).alloc B).heap.size by rw [nblk_alloc,nblk_alloc],blk_alloc_new]
theorem row_off {w:World} {g m L:Nat} {vs:List Int} {cs:Array Value} {t:TypeId} {x:Int} (h:RowAt .u32 w (some ⟨g,0,none⟩) m vs) (hm:0<m) (hL:w.heap[L]? =some (.cells cs t (0,0))) (h0:cs[0]? =some (.int .i64 x)):L≠g:=by
 rintro rfl
 have hc:=h.cell _ rfl 0 hm
 rw [Addr.add_lit,blk_cell hL,Nat.add_zero,h0] at hc
 cases hc
theorem wr8 {w:World} {R:Nat} {x0 x1 x2 x3 x4 x5 x6 x7:Value}:Wr (One R) w ((((((((w.setCell ⟨R,0,none⟩ x0).setCell ⟨R,1,none⟩ x1).setCell ⟨R,2,none⟩ x2).setCell ⟨R,3,none⟩ x3).setCell ⟨R,4,none⟩ x4).setCell ⟨R,5,none⟩ x5).setCell ⟨R,6,none⟩ x6).setCell ⟨R,7,none⟩ x7):=((((((((Wr.refl (One R) w).setCell ⟨R,0,none⟩ x0 λ_=>rfl).setCell ⟨R,1,none⟩ x1 λ_=>rfl).setCell ⟨R,2,none⟩ x2 λ_=>rfl).setCell ⟨R,3,none⟩ x3 λ_=>rfl).setCell ⟨R,4,none⟩ x4 λ_=>rfl).setCell ⟨R,5,none⟩ x5 λ_=>rfl).setCell ⟨R,6,none⟩ x6 λ_=>rfl).setCell ⟨R,7,none⟩ x7 λ_=>rfl
theorem oth8 {w:World} {R L j:Nat} {x0 x1 x2 x3 x4 x5 x6 x7 y:Value} (h:L≠R) (q:w.cell? ⟨L,j,none⟩=some y):((((((((w.setCell ⟨R,0,none⟩ x0).setCell ⟨R,1,none⟩ x1).setCell ⟨R,2,none⟩ x2).setCell ⟨R,3,none⟩ x3).setCell ⟨R,4,none⟩ x4).setCell ⟨R,5,none⟩ x5).setCell ⟨R,6,none⟩ x6).setCell ⟨R,7,none⟩ x7).cell? ⟨L,j,none⟩=some y:=wr8.cell q λe=>h e
theorem i_rwl:(prog.info? 44).map (·.size)=some 8:=by kernel_rfl
theorem zrow_at {m:Nat} {l:List Int} (hl:l.length=m) (h0:∀ j,l.getD j 0=0) (W:World):RowAt .u32 (W.alloc (.cells (Kc.rowA m λ_=> .int .u32 0) 23)) (some ⟨W.heap.size,0,none⟩) m l:=
 ⟨hl,λe=>(by cases e),λb hb j hj=>by cases hb;rw [Addr.add_lit,Nat.zero_add,blk_cell (blk_alloc_new _ _),h0];exact Kc.rowA_at _ hj⟩
structure Rz (w:World) (L R g m:Nat) (vs:List Int) (cs cz:Array Value) (Z:World):Prop where
 kZ:Z.heap[L]? =some (.cells cs 44 (0,0))
 kR:Z.heap[R]? =some (.cells cz 44 (0,0))
 row:RowAt .u32 Z (some ⟨g,0,none⟩) m vs
 wr:Wr Nil w Z
section
variable {w w2:World} {L R g m i:Nat} {vs:List Int} {cs cz:Array Value} {p:Value} {O:Obj}
theorem rz1 (kL:w2.heap[L]? =some (.cells cs 44 (0,0))) (kR:w2.heap[R]? =some (.cells cz 44 (0,0))) (hLR:L≠R) (hg:L≠g) (hL:w.heap.size≤L) (hW:Wr Nil w w2) (hr:RowAt .u32 w2 (some ⟨g,0,none⟩) m vs):Rz w L R g m vs (cs.setIfInBounds i p) cz (w2.setCell ⟨L,i,none⟩ p):=by
 have hS:Wr (One L) w2 (w2.setCell ⟨L,i,none⟩ p):=(Wr.refl _ w2).setCell _ _ λ_=>rfl
 exact ⟨blk_setCell kL _ _,(hS.block _ (blk_lt kR) λe=>hLR e.symm).trans kR,hr.wrote hS λb' e' h=>by cases e';exact hg h.symm,hW.trans hS λb' hb' h=>by unfold One at h;unfold Nil;omega⟩
theorem rz2 (kL:w2.heap[L]? =some (.cells cs 44 (0,0))) (kR:w2.heap[R]? =some (.cells cz 44 (0,0))) (hLR:L≠R) (hL:w.heap.size≤L) (hW:Wr Nil w w2) (hr:∀ W:World,RowAt .u32 (W.alloc O) (some ⟨W.heap.size,0,none⟩) m vs):Rz w L R w2.heap.size m vs (cs.setIfInBounds i p) cz ((w2.alloc O).setCell ⟨L,i,none⟩ p):=by
 have hA:=(Wr.refl Nil w2).alloc O
 have:=blk_lt kL
 exact rz1 ((hA.block _ (blk_lt kL) id).trans kL) ((hA.block _ (blk_lt kR) id).trans kR) hLR (by omega) hL (hW.nil hA) (hr w2)
theorem rz3 (kL:w2.heap[L]? =some (.cells cs 44 (0,0))) (kR:w2.heap[R]? =some (.cells cz 44 (0,0))) (hLR:L≠R) (hL:w.heap.size≤L) (hW:Wr Nil w w2) (hr:∀ W:World,RowAt .u32 (W.alloc O) (some ⟨W.heap.size,0,none⟩) m vs):Rz w L R w2.heap.size m vs (cs.setIfInBounds i p) cz ((w2.setCell ⟨L,i,none⟩ p).alloc O):=by
 have hS:Wr (One L) w2 (w2.setCell ⟨L,i,none⟩ p):=(Wr.refl _ w2).setCell _ _ λ_=>rfl
 have hA:=(Wr.refl Nil (w2.setCell ⟨L,i,none⟩ p)).alloc O
 have k2:=blk_setCell kL i p
 have k3:=(hS.block _ (blk_lt kR) λe=>hLR e.symm).trans kR
 have h:=hr (w2.setCell ⟨L,i,none⟩ p)
 rw [nblk_setCell] at h
 exact ⟨(hA.block _ (blk_lt k2) id).trans k2,(hA.block _ (blk_lt k3) id).trans k3,h,(hW.trans hS λb' hb' h=>by unfold One at h;unfold Nil;omega).nil hA⟩
end
theorem lst_rng {l:List Int} (h:∀ j,0≤l.getD j 0∧l.getD j 0<4294967296):∀ y∈l,0≤y∧y<4294967296:=by
 intro y hy
 obtain ⟨j,hj,rfl⟩:=List.mem_iff_getElem.1 hy
 have h:=h j
 rw [List.getD_eq_getElem?_getD,List.getElem?_eq_getElem hj] at h
 exact h
theorem rw_tk {w:World} {sa:Option Addr} {n cap:Nat} {v sz pl B G D:Int} (n2:n≤64) (hv:0≤v∧v<4294967296):
  Calls prog 14 #[.agg #[.int .i64 1,.slice sa n cap,.int .u32 v,.int .i64 sz,.int .i64 pl,.int .i64 B,.int .i64 G,.int .i64 D]] w (RwPost w 1 2):=by
 obtain ⟨Y,hY⟩:∃ Y,Y=((w.alloc (.cells #[.int .i64 1,.slice sa n cap,.int .u32 v,.int .i64 sz,.int .i64 pl,.int .i64 B,.int .i64 G,.int .i64 D] 34)).alloc (.cells #[.int .i64 0,.pointer none,.pointer none,.pointer none,.pointer none,.pointer none,.pointer none,.pointer none] 44)).alloc (.cells #[.int .i64 1,.pointer none,.pointer none,.pointer none,.pointer none,.pointer none,.pointer none,.pointer none] 44):=⟨_,rfl⟩
 have b0:Y.heap[w.heap.size]? =some (.cells #[.int .i64 1,.slice sa n cap,.int .u32 v,.int .i64 sz,.int .i64 pl,.int .i64 B,.int .i64 G,.int .i64 D] 34 (0,0)):=by rw [hY];exact th_0 w _ _ _
 have b1:Y.heap[w.heap.size+1]? =some (.cells #[.int .i64 0,.pointer none,.pointer none,.pointer none,.pointer none,.pointer none,.pointer none,.pointer none] 44 (0,0)):=by rw [hY];exact th_1 w _ _ _
 have b2:Y.heap[w.heap.size+2]? =some (.cells #[.int .i64 1,.pointer none,.pointer none,.pointer none,.pointer none,.pointer none,.pointer none,.pointer none] 44 (0,0)):=by rw [hY];exact th_2 w _ _ _
 have hWY:Wr Nil w Y:=by rw [hY];exact (((Wr.refl Nil w).alloc _).alloc _).alloc _
 have hsY:Y.heap.size=w.heap.size+3:=by rw [hY,nblk_alloc,nblk_alloc,nblk_alloc]
 have HY:=Lib.hid (And.intro hY (And.intro b0 (And.intro b1 (And.intro b2 (And.intro hWY hsY)))))
 clear hY b0 b1 b2 hWY hsY
 go_enter func14,ntmps14
 go_upto_region 6 with fail
 rw [←HY.out.1]
 obtain ⟨L,hL⟩:∃ L,L=w.heap.size+1+1:=⟨_,rfl⟩
 obtain ⟨R,hR⟩:∃ R,R=w.heap.size+1:=⟨_,rfl⟩
 rw [←hL,←hR]
 have hLR:L≠R:=by omega
 have hRL:R≠L:=by omega
 have hBL:w.heap.size≠L:=by omega
 have hLB:L≠w.heap.size:=by omega
 have bL:Y.heap[L]? =some (.cells #[.int .i64 1,.pointer none,.pointer none,.pointer none,.pointer none,.pointer none,.pointer none,.pointer none] 44 (0,0)):=by rw [hL];exact HY.out.2.2.2.1
 have bR:Y.heap[R]? =some (.cells #[.int .i64 0,.pointer none,.pointer none,.pointer none,.pointer none,.pointer none,.pointer none,.pointer none] 44 (0,0)):=by rw [hR];exact HY.out.2.2.1
 have HL:=Lib.hid (And.intro hL (And.intro hR (And.intro bL bR)))
 clear hL hR bL bR
 have P2:Y.drew.cell? ⟨w.heap.size,2,none⟩=some (.int .u32 v):=(blk_cell HY.out.2.1 2).trans rfl
 have cN:=λW=>Kf.ml_new n n2 0 W
 have cW:=λW=>Kf.ml_words W v
 have hwf:∀ z∈[v,v],0≤z∧z<4294967296:=λz hz=>by simp at hz;subst hz;exact hv
 go_region_held3 (λw'=>w'.cell? ⟨w.heap.size,2,none⟩=some (.int .u32 v))
  (first|with_reducible exact s2|with_reducible exact q2|exact P2|((repeat rw [World.cell?_setCell_other _ _ _ _ (by first|(simp;done)|simp [hLB]|simp [hBL])])<;>assumption))
  (first
  |(go_at_call 36;(with_reducible refine (cN _).mono ?_);intro e w2 hq;unfold Kf.NewMlPost at hq;obtain ⟨M,rfl,_,_,_,_,hW⟩:=hq;have q2:=hW.old P2;have K2:=Lib.hid hW;clear hW)
  |(go_at_call 37;(with_reducible refine (cW _).mono ?_);intro e w3 hq;unfold Kf.WordsNewPost at hq;obtain ⟨g,rfl,hrow,hW,_⟩:=hq;have s2:=hW.old q2;have hY3:=(((Wr.refl Nil Y).drew).nil K2.out).nil hW;have kL:=(hY3.block _ (blk_lt HL.out.2.2.1) id).trans HL.out.2.2.1;have z1:=(blk_cell kL 1).trans rfl;have zf:=blk_frozen kL 1;have K3:=Lib.hid (And.intro hY3 hrow);clear hrow hW hY3 kL))
 obtain ⟨Z,hZ⟩:∃ Z,Z=w3.setCell ⟨L,1,none⟩ (.pointer (some ⟨M.r,0,none⟩)):=⟨_,rfl⟩
 rw [←hZ]
 have kL:=(K3.out.1.block _ (blk_lt HL.out.2.2.1) id).trans HL.out.2.2.1
 have kR:=(K3.out.1.block _ (blk_lt HL.out.2.2.2) id).trans HL.out.2.2.2
 have hLg:=row_off K3.out.2 (by omega) kL rfl
 have hSZ:Wr (One L) w3 Z:=by rw [hZ];exact (Wr.refl _ w3).setCell _ _ λ_=>rfl
 have kZ:Z.heap[L]? =some (.cells #[.int .i64 1,.pointer (some ⟨M.r,0,none⟩),.pointer none,.pointer none,.pointer none,.pointer none,.pointer none,.pointer none] 44 (0,0)):=by rw [hZ,blk_setCell kL];rfl
 have kR2:=(hSZ.block _ (blk_lt kR) hRL).trans kR
 have hrow2:=K3.out.2.wrote hSZ λb' e' h=>by cases e';exact hLg h.symm
 have P0:Z.drew.cell? ⟨L,0,none⟩=some (.int .i64 1):=(blk_cell kZ 0).trans rfl
 have P1:Z.drew.cell? ⟨L,1,none⟩=some (.pointer (some ⟨M.r,0,none⟩)):=(blk_cell kZ 1).trans rfl
 have P2:Z.drew.cell? ⟨L,2,none⟩=some (.pointer none):=(blk_cell kZ 2).trans rfl
 have P3:Z.drew.cell? ⟨L,3,none⟩=some (.pointer none):=(blk_cell kZ 3).trans rfl
 have P4:Z.drew.cell? ⟨L,4,none⟩=some (.pointer none):=(blk_cell kZ 4).trans rfl
 have P5:Z.drew.cell? ⟨L,5,none⟩=some (.pointer none):=(blk_cell kZ 5).trans rfl
 have P6:Z.drew.cell? ⟨L,6,none⟩=some (.pointer none):=(blk_cell kZ 6).trans rfl
 have P7:Z.drew.cell? ⟨L,7,none⟩=some (.pointer none):=(blk_cell kZ 7).trans rfl
 have cR:=λW (k:Wr Nil Z W)=>rnew_any (n:=n) (c:=2) (hrow2.after k) hwf n2 (by omega)
 have KZ:=Lib.hid (And.intro kR2 ((HY.out.2.2.2.2.1.nil K3.out.1).trans hSZ λb' hb' h=>by unfold One at h;have:=HL.out.1;unfold Nil;omega))
 clear hZ kL kR hSZ kZ kR2 hrow2 K3 hLg
 go_upto_region 20 with fail
 go_region_held3 (λw'=>w'.cell? ⟨L,0,none⟩=some (.int .i64 1)∧w'.cell? ⟨L,1,none⟩=some (.pointer (some ⟨M.r,0,none⟩))∧w'.cell? ⟨L,2,none⟩=some (.pointer none)∧w'.cell? ⟨L,3,none⟩=some (.pointer none)∧w'.cell? ⟨L,4,none⟩=some (.pointer none)∧w'.cell? ⟨L,5,none⟩=some (.pointer none)∧w'.cell? ⟨L,6,none⟩=some (.pointer none)∧w'.cell? ⟨L,7,none⟩=some (.pointer none))
  (first|with_reducible exact ⟨q0,q1,q2,q3,q4,q5,q6,q7⟩|with_reducible exact ⟨P0,P1,P2,P3,P4,P5,P6,P7⟩|with_reducible exact ⟨oth8 hLR q0,oth8 hLR q1,oth8 hLR q2,oth8 hLR q3,oth8 hLR q4,oth8 hLR q5,oth8 hLR q6,oth8 hLR q7⟩)
  (first
  |(go_at_call 46;(with_reducible refine (cR _ ((Wr.refl Nil Z).drew)).mono ?_);intro e w5 hq;unfold RNewPost at hq;obtain ⟨r,rfl,⟨bk,so,c9,dv,hRf⟩,hW⟩:=hq;have q0:=hW.old P0;have q1:=hW.old P1;have q2:=hW.old P2;have q3:=hW.old P3;have q4:=hW.old P4;have q5:=hW.old P5;have q6:=hW.old P6;have q7:=hW.old P7;have y8:=(hW.block _ (blk_lt KZ.out.1) id).trans KZ.out.1;have y0:=blk_cell y8 0;have x0:=blk_frozen y8 0;have y1:=blk_cell y8 1;have x1:=blk_frozen y8 1;have y2:=blk_cell y8 2;have x2:=blk_frozen y8 2;have y3:=blk_cell y8 3;have x3:=blk_frozen y8 3;have y4:=blk_cell y8 4;have x4:=blk_frozen y8 4;have y5:=blk_cell y8 5;have x5:=blk_frozen y8 5;have y6:=blk_cell y8 6;have x6:=blk_frozen y8 6;have y7:=blk_cell y8 7;have x7:=blk_frozen y8 7;have H5:=Lib.hid (And.intro hRf (And.intro hW y8));clear hRf hW y8))
 go_wp2
 refine bodyPost_ret (results_cell_tmp rfl _ _ R 44 _ (0,0) _ rfl (set8 H5.out.2.2 rfl _ _ _ _ _ _ _ _) underlying44 rfl i_rwl) rfl ?_
 obtain ⟨hRf,hW,y8⟩:=H5.out
 have hrR:r≠R:=ty_off y8 hRf.obj (by decide)
 exact ⟨λi=>if i=0 then (some ⟨M.r,0,none⟩) else none,r,so,c9,rfl,oth8 hrR hRf.cell0,((KZ.out.2.nil ((Wr.refl Nil Z).drew)).nil hW).trans wr8 λb' hb' h=>by unfold One at h;have:=HL.out.2.1;unfold Nil;omega⟩
theorem rw_sl {w:World} {sa:Option Addr} {n cap:Nat} {v sz pl B G D:Int} {m z:Nat} (n2:n≤64) (hv:0≤v∧v<4294967296) (s1:1≤m) (s64:m≤64) (hz:v%(m:Int)=(z:Int)) (hsz:sz=(m:Nat)):
  Calls prog 14 #[.agg #[.int .i64 2,.slice sa n cap,.int .u32 v,.int .i64 sz,.int .i64 pl,.int .i64 B,.int .i64 G,.int .i64 D]] w (RwPost w 2 ([v]++Ks.slotR z m).length):=by
 subst hsz
 obtain ⟨Y,hY⟩:∃ Y,Y=((w.alloc (.cells #[.int .i64 2,.slice sa n cap,.int .u32 v,.int .i64 (m:Nat),.int .i64 pl,.int .i64 B,.int .i64 G,.int .i64 D] 34)).alloc (.cells #[.int .i64 0,.pointer none,.pointer none,.pointer none,.pointer none,.pointer none,.pointer none,.pointer none] 44)).alloc (.cells #[.int .i64 2,.pointer none,.pointer none,.pointer none,.pointer none,.pointer none,.pointer none,.pointer none] 44):=⟨_,rfl⟩
 have b0:Y.heap[w.heap.size]? =some (.cells #[.int .i64 2,.slice sa n cap,.int .u32 v,.int .i64 (m:Nat),.int .i64 pl,.int .i64 B,.int .i64 G,.int .i64 D] 34 (0,0)):=by rw [hY];exact th_0 w _ _ _
 have b1:Y.heap[w.heap.size+1]? =some (.cells #[.int .i64 0,.pointer none,.pointer none,.pointer none,.pointer none,.pointer none,.pointer none,.pointer none] 44 (0,0)):=by rw [hY];exact th_1 w _ _ _
 have b2:Y.heap[w.heap.size+2]? =some (.cells #[.int .i64 2,.pointer none,.pointer none,.pointer none,.pointer none,.pointer none,.pointer none,.pointer none] 44 (0,0)):=by rw [hY];exact th_2 w _ _ _
 have hWY:Wr Nil w Y:=by rw [hY];exact (((Wr.refl Nil w).alloc _).alloc _).alloc _
 have hsY:Y.heap.size=w.heap.size+3:=by rw [hY,nblk_alloc,nblk_alloc,nblk_alloc]
 have HY:=Lib.hid (And.intro hY (And.intro b0 (And.intro b1 (And.intro b2 (And.intro hWY hsY)))))
 clear hY b0 b1 b2 hWY hsY
 go_enter func14,ntmps14
 go_upto_region 8 with fail
 rw [←HY.out.1]
 obtain ⟨L,hL⟩:∃ L,L=w.heap.size+1+1:=⟨_,rfl⟩
 obtain ⟨R,hR⟩:∃ R,R=w.heap.size+1:=⟨_,rfl⟩
 rw [←hL,←hR]
 have hLR:L≠R:=by omega
 have hRL:R≠L:=by omega
 have hBL:w.heap.size≠L:=by omega
 have hLB:L≠w.heap.size:=by omega
 have bL:Y.heap[L]? =some (.cells #[.int .i64 2,.pointer none,.pointer none,.pointer none,.pointer none,.pointer none,.pointer none,.pointer none] 44 (0,0)):=by rw [hL];exact HY.out.2.2.2.1
 have bR:Y.heap[R]? =some (.cells #[.int .i64 0,.pointer none,.pointer none,.pointer none,.pointer none,.pointer none,.pointer none,.pointer none] 44 (0,0)):=by rw [hR];exact HY.out.2.2.1
 have HL:=Lib.hid (And.intro hL (And.intro hR (And.intro bL bR)))
 clear hL hR bL bR
 have P2:Y.drew.cell? ⟨w.heap.size,2,none⟩=some (.int .u32 v):=(blk_cell HY.out.2.1 2).trans rfl
 have P3:Y.drew.cell? ⟨w.heap.size,3,none⟩=some (.int .i64 (m:Nat)):=(blk_cell HY.out.2.1 3).trans rfl
 have cN:=λW=>Ks.ml_new n m n2 0 W
 have cW:=λW=>Ks.ml_words W v hv m z s1 s64 hz
 have hwf:∀ y∈[v]++Ks.slotR z m,0≤y∧y<4294967296:=lst_rng (Ks.vals_rng hv z m)
 go_region_held3 (λw'=>w'.cell? ⟨w.heap.size,2,none⟩=some (.int .u32 v)∧w'.cell? ⟨w.heap.size,3,none⟩=some (.int .i64 (m:Nat)))
  (first|with_reducible exact ⟨s2,s3⟩|with_reducible exact ⟨q2,q3⟩|exact ⟨P2,P3⟩|(refine ⟨?_,?_⟩<;>((repeat rw [World.cell?_setCell_other _ _ _ _ (by first|(simp;done)|simp [hLB]|simp [hBL])])<;>assumption)))
  (first
  |(go_at_call 38;(with_reducible refine (cN _).mono ?_);intro e w2 hq;unfold Ks.NewMlPost at hq;obtain ⟨M,rfl,_,_,_,_,_,hW⟩:=hq;have q2:=hW.old P2;have q3:=hW.old P3;have K2:=Lib.hid hW;clear hW)
  |(go_at_call 39;(with_reducible refine (cW _).mono ?_);intro e w3 hq;unfold Ks.WordsNewPost at hq;obtain ⟨g,c8,rfl,hrow,hW⟩:=hq;have s2:=hW.old q2;have s3:=hW.old q3;have hY3:=(((Wr.refl Nil Y).drew).nil K2.out).nil hW;have kL:=(hY3.block _ (blk_lt HL.out.2.2.1) id).trans HL.out.2.2.1;have z1:=(blk_cell kL 2).trans rfl;have zf:=blk_frozen kL 2;have K3:=Lib.hid (And.intro hY3 hrow);clear hrow hW hY3 kL))
 obtain ⟨Z,hZ⟩:∃ Z,Z=w3.setCell ⟨L,2,none⟩ (.pointer (some ⟨M.r,0,none⟩)):=⟨_,rfl⟩
 rw [←hZ]
 have kL:=(K3.out.1.block _ (blk_lt HL.out.2.2.1) id).trans HL.out.2.2.1
 have kR:=(K3.out.1.block _ (blk_lt HL.out.2.2.2) id).trans HL.out.2.2.2
 have hLg:=row_off K3.out.2 (by omega) kL rfl
 have hSZ:Wr (One L) w3 Z:=by rw [hZ];exact (Wr.refl _ w3).setCell _ _ λ_=>rfl
 have kZ:Z.heap[L]? =some (.cells #[.int .i64 2,.pointer none,.pointer (some ⟨M.r,0,none⟩),.pointer none,.pointer none,.pointer none,.pointer none,.pointer none] 44 (0,0)):=by rw [hZ,blk_setCell kL];rfl
 have kR2:=(hSZ.block _ (blk_lt kR) hRL).trans kR
 have hrow2:=K3.out.2.wrote hSZ λb' e' h=>by cases e';exact hLg h.symm
 have P0:Z.drew.cell? ⟨L,0,none⟩=some (.int .i64 2):=(blk_cell kZ 0).trans rfl
 have P1:Z.drew.cell? ⟨L,1,none⟩=some (.pointer none):=(blk_cell kZ 1).trans rfl
 have P2:Z.drew.cell? ⟨L,2,none⟩=some (.pointer (some ⟨M.r,0,none⟩)):=(blk_cell kZ 2).trans rfl
 have P3:Z.drew.cell? ⟨L,3,none⟩=some (.pointer none):=(blk_cell kZ 3).trans rfl
 have P4:Z.drew.cell? ⟨L,4,none⟩=some (.pointer none):=(blk_cell kZ 4).trans rfl
 have P5:Z.drew.cell? ⟨L,5,none⟩=some (.pointer none):=(blk_cell kZ 5).trans rfl
 have P6:Z.drew.cell? ⟨L,6,none⟩=some (.pointer none):=(blk_cell kZ 6).trans rfl
 have P7:Z.drew.cell? ⟨L,7,none⟩=some (.pointer none):=(blk_cell kZ 7).trans rfl
 have cR:=λW (k:Wr Nil Z W)=>rnew_any (n:=n) (c:=c8) (hrow2.after k) hwf n2 (by omega)
 have KZ:=Lib.hid (And.intro kR2 ((HY.out.2.2.2.2.1.nil K3.out.1).trans hSZ λb' hb' h=>by unfold One at h;have:=HL.out.1;unfold Nil;omega))
 clear hZ kL kR hSZ kZ kR2 hrow2 K3 hLg
 go_upto_region 20 with fail
 go_region_held3 (λw'=>w'.cell? ⟨L,0,none⟩=some (.int .i64 2)∧w'.cell? ⟨L,1,none⟩=some (.pointer none)∧w'.cell? ⟨L,2,none⟩=some (.pointer (some ⟨M.r,0,none⟩))∧w'.cell? ⟨L,3,none⟩=some (.pointer none)∧w'.cell? ⟨L,4,none⟩=some (.pointer none)∧w'.cell? ⟨L,5,none⟩=some (.pointer none)∧w'.cell? ⟨L,6,none⟩=some (.pointer none)∧w'.cell? ⟨L,7,none⟩=some (.pointer none))
  (first|with_reducible exact ⟨q0,q1,q2,q3,q4,q5,q6,q7⟩|with_reducible exact ⟨P0,P1,P2,P3,P4,P5,P6,P7⟩|with_reducible exact ⟨oth8 hLR q0,oth8 hLR q1,oth8 hLR q2,oth8 hLR q3,oth8 hLR q4,oth8 hLR q5,oth8 hLR q6,oth8 hLR q7⟩)
  (first
  |(go_at_call 46;(with_reducible refine (cR _ ((Wr.refl Nil Z).drew)).mono ?_);intro e w5 hq;unfold RNewPost at hq;obtain ⟨r,rfl,⟨bk,so,c9,dv,hRf⟩,hW⟩:=hq;have q0:=hW.old P0;have q1:=hW.old P1;have q2:=hW.old P2;have q3:=hW.old P3;have q4:=hW.old P4;have q5:=hW.old P5;have q6:=hW.old P6;have q7:=hW.old P7;have y8:=(hW.block _ (blk_lt KZ.out.1) id).trans KZ.out.1;have y0:=blk_cell y8 0;have x0:=blk_frozen y8 0;have y1:=blk_cell y8 1;have x1:=blk_frozen y8 1;have y2:=blk_cell y8 2;have x2:=blk_frozen y8 2;have y3:=blk_cell y8 3;have x3:=blk_frozen y8 3;have y4:=blk_cell y8 4;have x4:=blk_frozen y8 4;have y5:=blk_cell y8 5;have x5:=blk_frozen y8 5;have y6:=blk_cell y8 6;have x6:=blk_frozen y8 6;have y7:=blk_cell y8 7;have x7:=blk_frozen y8 7;have H5:=Lib.hid (And.intro hRf (And.intro hW y8));clear hRf hW y8))
 go_wp2
 refine bodyPost_ret (results_cell_tmp rfl _ _ R 44 _ (0,0) _ rfl (set8 H5.out.2.2 rfl _ _ _ _ _ _ _ _) underlying44 rfl i_rwl) rfl ?_
 obtain ⟨hRf,hW,y8⟩:=H5.out
 have hrR:r≠R:=ty_off y8 hRf.obj (by decide)
 exact ⟨λi=>if i=1 then (some ⟨M.r,0,none⟩) else none,r,so,c9,rfl,oth8 hrR hRf.cell0,((KZ.out.2.nil ((Wr.refl Nil Z).drew)).nil hW).trans wr8 λb' hb' h=>by unfold One at h;have:=HL.out.2.1;unfold Nil;omega⟩
theorem rw_hi {w:World} {sa:Option Addr} {n cap:Nat} {v sz pl B G D:Int} {b o:Nat} {zs:List Int} (hr:RowAt .i64 w (some ⟨b,o,none⟩) n zs) (hb:b<w.heap.size) (n1:1≤n) (n2:n≤64) (hsa:sa=some ⟨b,o,none⟩):
  Calls prog 14 #[.agg #[.int .i64 6,.slice sa n cap,.int .u32 v,.int .i64 sz,.int .i64 pl,.int .i64 B,.int .i64 G,.int .i64 D]] w (RwPost w 6 (Kh.wordsH n).length):=by
 subst hsa
 obtain ⟨Y,hY⟩:∃ Y,Y=((w.alloc (.cells #[.int .i64 6,.slice (some ⟨b,o,none⟩) n cap,.int .u32 v,.int .i64 sz,.int .i64 pl,.int .i64 B,.int .i64 G,.int .i64 D] 34)).alloc (.cells #[.int .i64 0,.pointer none,.pointer none,.pointer none,.pointer none,.pointer none,.pointer none,.pointer none] 44)).alloc (.cells #[.int .i64 6,.pointer none,.pointer none,.pointer none,.pointer none,.pointer none,.pointer none,.pointer none] 44):=⟨_,rfl⟩
 have b0:Y.heap[w.heap.size]? =some (.cells #[.int .i64 6,.slice (some ⟨b,o,none⟩) n cap,.int .u32 v,.int .i64 sz,.int .i64 pl,.int .i64 B,.int .i64 G,.int .i64 D] 34 (0,0)):=by rw [hY];exact th_0 w _ _ _
 have b1:Y.heap[w.heap.size+1]? =some (.cells #[.int .i64 0,.pointer none,.pointer none,.pointer none,.pointer none,.pointer none,.pointer none,.pointer none] 44 (0,0)):=by rw [hY];exact th_1 w _ _ _
 have b2:Y.heap[w.heap.size+2]? =some (.cells #[.int .i64 6,.pointer none,.pointer none,.pointer none,.pointer none,.pointer none,.pointer none,.pointer none] 44 (0,0)):=by rw [hY];exact th_2 w _ _ _
 have hWY:Wr Nil w Y:=by rw [hY];exact (((Wr.refl Nil w).alloc _).alloc _).alloc _
 have hsY:Y.heap.size=w.heap.size+3:=by rw [hY,nblk_alloc,nblk_alloc,nblk_alloc]
 have HY:=Lib.hid (And.intro hY (And.intro b0 (And.intro b1 (And.intro b2 (And.intro hWY hsY)))))
 clear hY b0 b1 b2 hWY hsY
 go_enter func14,ntmps14
 go_upto_region 16 with fail
 rw [←HY.out.1]
 obtain ⟨L,hL⟩:∃ L,L=w.heap.size+1+1:=⟨_,rfl⟩
 obtain ⟨R,hR⟩:∃ R,R=w.heap.size+1:=⟨_,rfl⟩
 rw [←hL,←hR]
 have hLR:L≠R:=by omega
 have hRL:R≠L:=by omega
 have hBL:w.heap.size≠L:=by omega
 have hLB:L≠w.heap.size:=by omega
 have bL:Y.heap[L]? =some (.cells #[.int .i64 6,.pointer none,.pointer none,.pointer none,.pointer none,.pointer none,.pointer none,.pointer none] 44 (0,0)):=by rw [hL];exact HY.out.2.2.2.1
 have bR:Y.heap[R]? =some (.cells #[.int .i64 0,.pointer none,.pointer none,.pointer none,.pointer none,.pointer none,.pointer none,.pointer none] 44 (0,0)):=by rw [hR];exact HY.out.2.2.1
 have HL:=Lib.hid (And.intro hL (And.intro hR (And.intro bL bR)))
 clear hL hR bL bR
 have P1:Y.cell? ⟨w.heap.size,1,none⟩=some (.slice (some ⟨b,o,none⟩) n cap):=(blk_cell HY.out.2.1 1).trans rfl
 have cN:=λW (k:Wr Nil w W)=>Kh.ml_new (cp:=cap) (hr.after k) n1 n2 0
 have cW:=λW=>Kh.ml_words n n1 n2 W
 have hwf:∀ y∈Kh.wordsH n,0≤y∧y<4294967296:=lst_rng (Kh.wordsH_rng n2)
 go_upto_region 20 with (first
  |(go_at_call 43;(with_reducible refine (cN _ HY.out.2.2.2.2.1).mono ?_);intro e w2 hq;unfold Kh.NewMlPost at hq;obtain ⟨M,rfl,_,_,_,_,hW⟩:=hq;have K2:=Lib.hid hW;clear hW)
  |(go_at_call 44;(with_reducible refine (cW _).mono ?_);intro e w3 hq;unfold Kh.WordsMlPost at hq;obtain ⟨g,rfl,hrow,hW⟩:=hq;have hY3:=K2.out.nil hW;have kL:=(hY3.block _ (blk_lt HL.out.2.2.1) id).trans HL.out.2.2.1;have z1:=(blk_cell kL 6).trans rfl;have zf:=blk_frozen kL 6;have K3:=Lib.hid (And.intro hY3 hrow);clear hrow hW hY3 kL))
 obtain ⟨Z,hZ⟩:∃ Z,Z=w3.setCell ⟨L,6,none⟩ (.pointer (some ⟨M.r,0,none⟩)):=⟨_,rfl⟩
 rw [←hZ]
 have kL:=(K3.out.1.block _ (blk_lt HL.out.2.2.1) id).trans HL.out.2.2.1
 have kR:=(K3.out.1.block _ (blk_lt HL.out.2.2.2) id).trans HL.out.2.2.2
 have hLg:=row_off K3.out.2 (by omega) kL rfl
 have hSZ:Wr (One L) w3 Z:=by rw [hZ];exact (Wr.refl _ w3).setCell _ _ λ_=>rfl
 have kZ:Z.heap[L]? =some (.cells #[.int .i64 6,.pointer none,.pointer none,.pointer none,.pointer none,.pointer none,.pointer (some ⟨M.r,0,none⟩),.pointer none] 44 (0,0)):=by rw [hZ,blk_setCell kL];rfl
 have kR2:=(hSZ.block _ (blk_lt kR) hRL).trans kR
 have hrow2:=K3.out.2.wrote hSZ λb' e' h=>by cases e';exact hLg h.symm
 have P0:Z.drew.cell? ⟨L,0,none⟩=some (.int .i64 6):=(blk_cell kZ 0).trans rfl
 have P1:Z.drew.cell? ⟨L,1,none⟩=some (.pointer none):=(blk_cell kZ 1).trans rfl
 have P2:Z.drew.cell? ⟨L,2,none⟩=some (.pointer none):=(blk_cell kZ 2).trans rfl
 have P3:Z.drew.cell? ⟨L,3,none⟩=some (.pointer none):=(blk_cell kZ 3).trans rfl
 have P4:Z.drew.cell? ⟨L,4,none⟩=some (.pointer none):=(blk_cell kZ 4).trans rfl
 have P5:Z.drew.cell? ⟨L,5,none⟩=some (.pointer none):=(blk_cell kZ 5).trans rfl
 have P6:Z.drew.cell? ⟨L,6,none⟩=some (.pointer (some ⟨M.r,0,none⟩)):=(blk_cell kZ 6).trans rfl
 have P7:Z.drew.cell? ⟨L,7,none⟩=some (.pointer none):=(blk_cell kZ 7).trans rfl
 have cR:=λW (k:Wr Nil Z W)=>rnew_any (n:=n) (c:=(n+10)) (hrow2.after k) hwf n2 (by omega)
 have KZ:=Lib.hid (And.intro kR2 ((HY.out.2.2.2.2.1.nil K3.out.1).trans hSZ λb' hb' h=>by unfold One at h;have:=HL.out.1;unfold Nil;omega))
 clear hZ kL kR hSZ kZ kR2 hrow2 K3 hLg
 go_region_held3 (λw'=>w'.cell? ⟨L,0,none⟩=some (.int .i64 6)∧w'.cell? ⟨L,1,none⟩=some (.pointer none)∧w'.cell? ⟨L,2,none⟩=some (.pointer none)∧w'.cell? ⟨L,3,none⟩=some (.pointer none)∧w'.cell? ⟨L,4,none⟩=some (.pointer none)∧w'.cell? ⟨L,5,none⟩=some (.pointer none)∧w'.cell? ⟨L,6,none⟩=some (.pointer (some ⟨M.r,0,none⟩))∧w'.cell? ⟨L,7,none⟩=some (.pointer none))
  (first|with_reducible exact ⟨q0,q1,q2,q3,q4,q5,q6,q7⟩|with_reducible exact ⟨P0,P1,P2,P3,P4,P5,P6,P7⟩|with_reducible exact ⟨oth8 hLR q0,oth8 hLR q1,oth8 hLR q2,oth8 hLR q3,oth8 hLR q4,oth8 hLR q5,oth8 hLR q6,oth8 hLR q7⟩)
  (first
  |(go_at_call 46;(with_reducible refine (cR _ ((Wr.refl Nil Z).drew)).mono ?_);intro e w5 hq;unfold RNewPost at hq;obtain ⟨r,rfl,⟨bk,so,c9,dv,hRf⟩,hW⟩:=hq;have q0:=hW.old P0;have q1:=hW.old P1;have q2:=hW.old P2;have q3:=hW.old P3;have q4:=hW.old P4;have q5:=hW.old P5;have q6:=hW.old P6;have q7:=hW.old P7;have y8:=(hW.block _ (blk_lt KZ.out.1) id).trans KZ.out.1;have y0:=blk_cell y8 0;have x0:=blk_frozen y8 0;have y1:=blk_cell y8 1;have x1:=blk_frozen y8 1;have y2:=blk_cell y8 2;have x2:=blk_frozen y8 2;have y3:=blk_cell y8 3;have x3:=blk_frozen y8 3;have y4:=blk_cell y8 4;have x4:=blk_frozen y8 4;have y5:=blk_cell y8 5;have x5:=blk_frozen y8 5;have y6:=blk_cell y8 6;have x6:=blk_frozen y8 6;have y7:=blk_cell y8 7;have x7:=blk_frozen y8 7;have H5:=Lib.hid (And.intro hRf (And.intro hW y8));clear hRf hW y8))
 go_wp2
 refine bodyPost_ret (results_cell_tmp rfl _ _ R 44 _ (0,0) _ rfl (set8 H5.out.2.2 rfl _ _ _ _ _ _ _ _) underlying44 rfl i_rwl) rfl ?_
 obtain ⟨hRf,hW,y8⟩:=H5.out
 have hrR:r≠R:=ty_off y8 hRf.obj (by decide)
 exact ⟨λi=>if i=5 then (some ⟨M.r,0,none⟩) else none,r,so,c9,rfl,oth8 hrR hRf.cell0,((KZ.out.2.nil ((Wr.refl Nil Z).drew)).nil hW).trans wr8 λb' hb' h=>by unfold One at h;have:=HL.out.2.1;unfold Nil;omega⟩
theorem rw_cl {w:World} {sa:Option Addr} {n cap:Nat} {v sz pl B G D:Int} (n1:1≤n) (n2:n≤64):
  Calls prog 14 #[.agg #[.int .i64 3,.slice sa n cap,.int .u32 v,.int .i64 sz,.int .i64 pl,.int .i64 B,.int .i64 G,.int .i64 D]] w (RwPost w 3 (Kc.zerosC n).length):=by
 obtain ⟨Y,hY⟩:∃ Y,Y=((w.alloc (.cells #[.int .i64 3,.slice sa n cap,.int .u32 v,.int .i64 sz,.int .i64 pl,.int .i64 B,.int .i64 G,.int .i64 D] 34)).alloc (.cells #[.int .i64 0,.pointer none,.pointer none,.pointer none,.pointer none,.pointer none,.pointer none,.pointer none] 44)).alloc (.cells #[.int .i64 3,.pointer none,.pointer none,.pointer none,.pointer none,.pointer none,.pointer none,.pointer none] 44):=⟨_,rfl⟩
 have b0:Y.heap[w.heap.size]? =some (.cells #[.int .i64 3,.slice sa n cap,.int .u32 v,.int .i64 sz,.int .i64 pl,.int .i64 B,.int .i64 G,.int .i64 D] 34 (0,0)):=by rw [hY];exact th_0 w _ _ _
 have b1:Y.heap[w.heap.size+1]? =some (.cells #[.int .i64 0,.pointer none,.pointer none,.pointer none,.pointer none,.pointer none,.pointer none,.pointer none] 44 (0,0)):=by rw [hY];exact th_1 w _ _ _
 have b2:Y.heap[w.heap.size+2]? =some (.cells #[.int .i64 3,.pointer none,.pointer none,.pointer none,.pointer none,.pointer none,.pointer none,.pointer none] 44 (0,0)):=by rw [hY];exact th_2 w _ _ _
 have hWY:Wr Nil w Y:=by rw [hY];exact (((Wr.refl Nil w).alloc _).alloc _).alloc _
 have hsY:Y.heap.size=w.heap.size+3:=by rw [hY,nblk_alloc,nblk_alloc,nblk_alloc]
 have HY:=Lib.hid (And.intro hY (And.intro b0 (And.intro b1 (And.intro b2 (And.intro hWY hsY)))))
 clear hY b0 b1 b2 hWY hsY
 go_enter func14,ntmps14
 go_upto_region 10 with fail
 rw [←HY.out.1]
 obtain ⟨L,hL⟩:∃ L,L=w.heap.size+1+1:=⟨_,rfl⟩
 obtain ⟨R,hR⟩:∃ R,R=w.heap.size+1:=⟨_,rfl⟩
 rw [←hL,←hR]
 have hLR:L≠R:=by omega
 have hRL:R≠L:=by omega
 have hBL:w.heap.size≠L:=by omega
 have hLB:L≠w.heap.size:=by omega
 have bL:Y.heap[L]? =some (.cells #[.int .i64 3,.pointer none,.pointer none,.pointer none,.pointer none,.pointer none,.pointer none,.pointer none] 44 (0,0)):=by rw [hL];exact HY.out.2.2.2.1
 have bR:Y.heap[R]? =some (.cells #[.int .i64 0,.pointer none,.pointer none,.pointer none,.pointer none,.pointer none,.pointer none,.pointer none] 44 (0,0)):=by rw [hR];exact HY.out.2.2.1
 have HL:=Lib.hid (And.intro hL (And.intro hR (And.intro bL bR)))
 clear hL hR bL bR
 obtain ⟨i0,hi,hz0,hz1,hz2⟩:=info_parts info_u32
 have hmk:∀ w:World,(Instr.makeSlice 53 (.int .i64 ((n:Int)+2)) (.int .i64 ((n:Int)+2))).run prog w= .ok (.slice (some ⟨w.heap.size,0,none⟩) (n+2) (n+2)) (w.alloc (.cells (Kc.rowA (n+2) λ_=> .int .u32 0) 23)):=by
  intro w
  have h:=Go.run_make (P:=prog) w 53 23 i0 _ underlying53 hi hz0 .i64 .i64 ((n:Int)+2) ((n:Int)+2) (by omega) (by omega) (by rw [hz2];omega) (by omega)
  rw [hz1] at h
  rw [show ((n:Int)+2).toNat=n+2 by omega] at h
  rw [show madeCells (Value.int .u32 0).cells ((n+2)*1)=Kc.rowA (n+2) (λ_=> .int .u32 0) from Kc.made_row (.int .u32 0) (n+2)] at h
  exact h
 have hrw:∀ W:World,RowAt .u32 (W.alloc (.cells (Kc.rowA (n+2) λ_=> .int .u32 0) 23)) (some ⟨W.heap.size,0,none⟩) (n+2) (Kc.zerosC n):=by
  intro W
  exact zrow_at (Kc.zerosC_len n) (Kc.zerosC_at n) W
 generalize hA:Kc.rowA (n+2) (λ_=> .int .u32 0)=A at hmk hrw
 clear hA hi hz0 hz1 hz2 i0
 have hwk0:IntKind.i64.wrap ((n:Int)+2)=(n:Int)+2:=by rw [IntKind.wrap_i64];omega
 have cN:=λW=>Kc.ml_new n n1 n2 0 W
 have hwf:∀ y∈Kc.zerosC n,0≤y∧y<4294967296:=lst_rng λj=>by rw [Kc.zerosC_at];decide
 go_region_with (first
  |(go_at_call 40;(with_reducible refine (cN _).mono ?_);intro e w2 hq;unfold Kc.NewMlPost at hq;obtain ⟨M,rfl,_,_,_,_,hW⟩:=hq;have K2:Hid (Wr Nil Y w2):=(by first|exact Lib.hid (((Wr.refl Nil Y).drew).nil hW)|exact Lib.hid ((((Wr.refl Nil Y).drew).alloc _).nil hW)|exact Lib.hid ((((Wr.refl Nil Y).alloc _).drew).nil hW));(first|(have hYr:=Lib.hid (((hrw Y).after ((Wr.refl Nil _).drew)).after hW))|(have hYr:=Lib.hid ((hrw Y.drew).after hW))|skip);have kL:=(K2.out.block _ (blk_lt HL.out.2.2.1) id).trans HL.out.2.2.1;have z1:=(blk_cell kL 3).trans rfl;have zf:=blk_frozen kL 3;have kL2:=(((Wr.refl Nil w2).alloc (.cells A 23)).block _ (blk_lt kL) id).trans kL;have y1:=(blk_cell kL2 3).trans rfl;have yf:=blk_frozen kL2 3;clear hW kL kL2))
 all_goals
  have kL:=(K2.out.block _ (blk_lt HL.out.2.2.1) id).trans HL.out.2.2.1
  have kR:=(K2.out.block _ (blk_lt HL.out.2.2.2) id).trans HL.out.2.2.2
  have hLw:w.heap.size≤L:=by have:=HL.out.1;omega
  have hLY:=blk_lt HL.out.2.2.1
  have hW2:=HY.out.2.2.2.2.1.nil K2.out
  first
   |(obtain ⟨Z,hZ⟩:∃ Z,Z=(w2.alloc (.cells A 23)).setCell ⟨L,3,none⟩ (.pointer (some ⟨M.r,0,none⟩)):=⟨_,rfl⟩;have K:=rz2 (i:=3) (p:= .pointer (some ⟨M.r,0,none⟩)) kL kR hLR hLw hW2 hrw;rw [←hZ] at K ⊢;clear hZ)
   |(obtain ⟨Z,hZ⟩:∃ Z,Z=(w2.setCell ⟨L,3,none⟩ (.pointer (some ⟨M.r,0,none⟩))).alloc (.cells A 23):=⟨_,rfl⟩;have K:=rz3 (i:=3) (p:= .pointer (some ⟨M.r,0,none⟩)) kL kR hLR hLw hW2 hrw;rw [←hZ] at K ⊢;clear hZ)
   |(obtain ⟨Z,hZ⟩:∃ Z,Z=w2.setCell ⟨L,3,none⟩ (.pointer (some ⟨M.r,0,none⟩)):=⟨_,rfl⟩;have K:=rz1 (i:=3) (p:= .pointer (some ⟨M.r,0,none⟩)) kL kR hLR (by omega) hLw hW2 hYr.out;rw [←hZ] at K ⊢;clear hZ)
  clear z1 zf y1 yf kL kR hW2 hLY hLw
  have P0:Z.drew.cell? ⟨L,0,none⟩=some (.int .i64 3):=(blk_cell K.kZ 0).trans rfl
  have P1:Z.drew.cell? ⟨L,1,none⟩=some (.pointer none):=(blk_cell K.kZ 1).trans rfl
  have P2:Z.drew.cell? ⟨L,2,none⟩=some (.pointer none):=(blk_cell K.kZ 2).trans rfl
  have P3:Z.drew.cell? ⟨L,3,none⟩=some (.pointer (some ⟨M.r,0,none⟩)):=(blk_cell K.kZ 3).trans rfl
  have P4:Z.drew.cell? ⟨L,4,none⟩=some (.pointer none):=(blk_cell K.kZ 4).trans rfl
  have P5:Z.drew.cell? ⟨L,5,none⟩=some (.pointer none):=(blk_cell K.kZ 5).trans rfl
  have P6:Z.drew.cell? ⟨L,6,none⟩=some (.pointer none):=(blk_cell K.kZ 6).trans rfl
  have P7:Z.drew.cell? ⟨L,7,none⟩=some (.pointer none):=(blk_cell K.kZ 7).trans rfl
  have cR:=λW (k:Wr Nil Z W)=>rnew_any (n:=n) (c:=n+2) (K.row.after k) hwf n2 (by omega)
  have KZ:=Lib.hid (And.intro K.kR K.wr)
  clear K K2
  go_upto_region 20 with fail
  go_region_held3 (λw'=>w'.cell? ⟨L,0,none⟩=some (.int .i64 3)∧w'.cell? ⟨L,1,none⟩=some (.pointer none)∧w'.cell? ⟨L,2,none⟩=some (.pointer none)∧w'.cell? ⟨L,3,none⟩=some (.pointer (some ⟨M.r,0,none⟩))∧w'.cell? ⟨L,4,none⟩=some (.pointer none)∧w'.cell? ⟨L,5,none⟩=some (.pointer none)∧w'.cell? ⟨L,6,none⟩=some (.pointer none)∧w'.cell? ⟨L,7,none⟩=some (.pointer none))
   (first|with_reducible exact ⟨q0,q1,q2,q3,q4,q5,q6,q7⟩|with_reducible exact ⟨P0,P1,P2,P3,P4,P5,P6,P7⟩|with_reducible exact ⟨oth8 hLR q0,oth8 hLR q1,oth8 hLR q2,oth8 hLR q3,oth8 hLR q4,oth8 hLR q5,oth8 hLR q6,oth8 hLR q7⟩)
   (first
   |(go_at_call 46;(with_reducible refine (cR _ ((Wr.refl Nil Z).drew)).mono ?_);intro e w5 hq;unfold RNewPost at hq;obtain ⟨r,rfl,⟨bk,so,c9,dv,hRf⟩,hW⟩:=hq;have q0:=hW.old P0;have q1:=hW.old P1;have q2:=hW.old P2;have q3:=hW.old P3;have q4:=hW.old P4;have q5:=hW.old P5;have q6:=hW.old P6;have q7:=hW.old P7;have y8:=(hW.block _ (blk_lt KZ.out.1) id).trans KZ.out.1;have y0:=blk_cell y8 0;have x0:=blk_frozen y8 0;have y1:=blk_cell y8 1;have x1:=blk_frozen y8 1;have y2:=blk_cell y8 2;have x2:=blk_frozen y8 2;have y3:=blk_cell y8 3;have x3:=blk_frozen y8 3;have y4:=blk_cell y8 4;have x4:=blk_frozen y8 4;have y5:=blk_cell y8 5;have x5:=blk_frozen y8 5;have y6:=blk_cell y8 6;have x6:=blk_frozen y8 6;have y7:=blk_cell y8 7;have x7:=blk_frozen y8 7;have H5:=Lib.hid (And.intro hRf (And.intro hW y8));clear hRf hW y8))
  go_wp2
  refine bodyPost_ret (results_cell_tmp rfl _ _ R 44 _ (0,0) _ rfl (set8 H5.out.2.2 rfl _ _ _ _ _ _ _ _) underlying44 rfl i_rwl) rfl ?_
  obtain ⟨hRf,hW,y8⟩:=H5.out
  have hrR:r≠R:=ty_off y8 hRf.obj (by decide)
  exact ⟨λi=>if i=2 then (some ⟨M.r,0,none⟩) else none,r,so,c9,rfl,oth8 hrR hRf.cell0,((KZ.out.2.nil ((Wr.refl Nil Z).drew)).nil hW).trans wr8 λb' hb' h=>by unfold One at h;have:=HL.out.2.1;unfold Nil;omega⟩
theorem rw_mc {w:World} {sa:Option Addr} {n cap:Nat} {v sz pl B G D:Int} (n1:1≤n) (n2:n≤64):
  Calls prog 14 #[.agg #[.int .i64 4,.slice sa n cap,.int .u32 v,.int .i64 sz,.int .i64 pl,.int .i64 B,.int .i64 G,.int .i64 D]] w (RwPost w 4 (Km.zerosC n).length):=by
 obtain ⟨Y,hY⟩:∃ Y,Y=((w.alloc (.cells #[.int .i64 4,.slice sa n cap,.int .u32 v,.int .i64 sz,.int .i64 pl,.int .i64 B,.int .i64 G,.int .i64 D] 34)).alloc (.cells #[.int .i64 0,.pointer none,.pointer none,.pointer none,.pointer none,.pointer none,.pointer none,.pointer none] 44)).alloc (.cells #[.int .i64 4,.pointer none,.pointer none,.pointer none,.pointer none,.pointer none,.pointer none,.pointer none] 44):=⟨_,rfl⟩
 have b0:Y.heap[w.heap.size]? =some (.cells #[.int .i64 4,.slice sa n cap,.int .u32 v,.int .i64 sz,.int .i64 pl,.int .i64 B,.int .i64 G,.int .i64 D] 34 (0,0)):=by rw [hY];exact th_0 w _ _ _
 have b1:Y.heap[w.heap.size+1]? =some (.cells #[.int .i64 0,.pointer none,.pointer none,.pointer none,.pointer none,.pointer none,.pointer none,.pointer none] 44 (0,0)):=by rw [hY];exact th_1 w _ _ _
 have b2:Y.heap[w.heap.size+2]? =some (.cells #[.int .i64 4,.pointer none,.pointer none,.pointer none,.pointer none,.pointer none,.pointer none,.pointer none] 44 (0,0)):=by rw [hY];exact th_2 w _ _ _
 have hWY:Wr Nil w Y:=by rw [hY];exact (((Wr.refl Nil w).alloc _).alloc _).alloc _
 have hsY:Y.heap.size=w.heap.size+3:=by rw [hY,nblk_alloc,nblk_alloc,nblk_alloc]
 have HY:=Lib.hid (And.intro hY (And.intro b0 (And.intro b1 (And.intro b2 (And.intro hWY hsY)))))
 clear hY b0 b1 b2 hWY hsY
 go_enter func14,ntmps14
 go_upto_region 12 with fail
 rw [←HY.out.1]
 obtain ⟨L,hL⟩:∃ L,L=w.heap.size+1+1:=⟨_,rfl⟩
 obtain ⟨R,hR⟩:∃ R,R=w.heap.size+1:=⟨_,rfl⟩
 rw [←hL,←hR]
 have hLR:L≠R:=by omega
 have hRL:R≠L:=by omega
 have hBL:w.heap.size≠L:=by omega
 have hLB:L≠w.heap.size:=by omega
 have bL:Y.heap[L]? =some (.cells #[.int .i64 4,.pointer none,.pointer none,.pointer none,.pointer none,.pointer none,.pointer none,.pointer none] 44 (0,0)):=by rw [hL];exact HY.out.2.2.2.1
 have bR:Y.heap[R]? =some (.cells #[.int .i64 0,.pointer none,.pointer none,.pointer none,.pointer none,.pointer none,.pointer none,.pointer none] 44 (0,0)):=by rw [hR];exact HY.out.2.2.1
 have HL:=Lib.hid (And.intro hL (And.intro hR (And.intro bL bR)))
 clear hL hR bL bR
 obtain ⟨i0,hi,hz0,hz1,hz2⟩:=info_parts info_u32
 have hmk:∀ w:World,(Instr.makeSlice 53 (.int .i64 (2*(n:Int)+1)) (.int .i64 (2*(n:Int)+1))).run prog w= .ok (.slice (some ⟨w.heap.size,0,none⟩) (2*n+1) (2*n+1)) (w.alloc (.cells (Kc.rowA (2*n+1) λ_=> .int .u32 0) 23)):=by
  intro w
  have h:=Go.run_make (P:=prog) w 53 23 i0 _ underlying53 hi hz0 .i64 .i64 (2*(n:Int)+1) (2*(n:Int)+1) (by omega) (by omega) (by rw [hz2];omega) (by omega)
  rw [hz1] at h
  rw [show (2*(n:Int)+1).toNat=2*n+1 by omega] at h
  rw [show madeCells (Value.int .u32 0).cells ((2*n+1)*1)=Kc.rowA (2*n+1) (λ_=> .int .u32 0) from Kc.made_row (.int .u32 0) (2*n+1)] at h
  exact h
 have hrw:∀ W:World,RowAt .u32 (W.alloc (.cells (Kc.rowA (2*n+1) λ_=> .int .u32 0) 23)) (some ⟨W.heap.size,0,none⟩) (2*n+1) (Km.zerosC n):=by
  intro W
  exact zrow_at (Km.zerosC_len n) (Km.zerosC_at n) W
 generalize hA:Kc.rowA (2*n+1) (λ_=> .int .u32 0)=A at hmk hrw
 clear hA hi hz0 hz1 hz2 i0
 have hwk0:IntKind.i64.wrap (2*(n:Int))=2*(n:Int):=by rw [IntKind.wrap_i64];omega
 have hwk1:IntKind.i64.wrap (2*(n:Int)+1)=2*(n:Int)+1:=by rw [IntKind.wrap_i64];omega
 have cN:=λW=>Km.ml_new n n2 0 W
 have hwf:∀ y∈Km.zerosC n,0≤y∧y<4294967296:=lst_rng λj=>by rw [Km.zerosC_at];decide
 go_region_with (first
  |(go_at_call 41;(with_reducible refine (cN _).mono ?_);intro e w2 hq;unfold Km.NewMlPost at hq;obtain ⟨M,rfl,_,_,_,_,hW⟩:=hq;have K2:Hid (Wr Nil Y w2):=(by first|exact Lib.hid (((Wr.refl Nil Y).drew).nil hW)|exact Lib.hid ((((Wr.refl Nil Y).drew).alloc _).nil hW)|exact Lib.hid ((((Wr.refl Nil Y).alloc _).drew).nil hW));(first|(have hYr:=Lib.hid (((hrw Y).after ((Wr.refl Nil _).drew)).after hW))|(have hYr:=Lib.hid ((hrw Y.drew).after hW))|skip);have kL:=(K2.out.block _ (blk_lt HL.out.2.2.1) id).trans HL.out.2.2.1;have z1:=(blk_cell kL 4).trans rfl;have zf:=blk_frozen kL 4;have kL2:=(((Wr.refl Nil w2).alloc (.cells A 23)).block _ (blk_lt kL) id).trans kL;have y1:=(blk_cell kL2 4).trans rfl;have yf:=blk_frozen kL2 4;clear hW kL kL2))
 all_goals
  have kL:=(K2.out.block _ (blk_lt HL.out.2.2.1) id).trans HL.out.2.2.1
  have kR:=(K2.out.block _ (blk_lt HL.out.2.2.2) id).trans HL.out.2.2.2
  have hLw:w.heap.size≤L:=by have:=HL.out.1;omega
  have hLY:=blk_lt HL.out.2.2.1
  have hW2:=HY.out.2.2.2.2.1.nil K2.out
  first
   |(obtain ⟨Z,hZ⟩:∃ Z,Z=(w2.alloc (.cells A 23)).setCell ⟨L,4,none⟩ (.pointer (some ⟨M.r,0,none⟩)):=⟨_,rfl⟩;have K:=rz2 (i:=4) (p:= .pointer (some ⟨M.r,0,none⟩)) kL kR hLR hLw hW2 hrw;rw [←hZ] at K ⊢;clear hZ)
   |(obtain ⟨Z,hZ⟩:∃ Z,Z=(w2.setCell ⟨L,4,none⟩ (.pointer (some ⟨M.r,0,none⟩))).alloc (.cells A 23):=⟨_,rfl⟩;have K:=rz3 (i:=4) (p:= .pointer (some ⟨M.r,0,none⟩)) kL kR hLR hLw hW2 hrw;rw [←hZ] at K ⊢;clear hZ)
   |(obtain ⟨Z,hZ⟩:∃ Z,Z=w2.setCell ⟨L,4,none⟩ (.pointer (some ⟨M.r,0,none⟩)):=⟨_,rfl⟩;have K:=rz1 (i:=4) (p:= .pointer (some ⟨M.r,0,none⟩)) kL kR hLR (by omega) hLw hW2 hYr.out;rw [←hZ] at K ⊢;clear hZ)
  clear z1 zf y1 yf kL kR hW2 hLY hLw
  have P0:Z.drew.cell? ⟨L,0,none⟩=some (.int .i64 4):=(blk_cell K.kZ 0).trans rfl
  have P1:Z.drew.cell? ⟨L,1,none⟩=some (.pointer none):=(blk_cell K.kZ 1).trans rfl
  have P2:Z.drew.cell? ⟨L,2,none⟩=some (.pointer none):=(blk_cell K.kZ 2).trans rfl
  have P3:Z.drew.cell? ⟨L,3,none⟩=some (.pointer none):=(blk_cell K.kZ 3).trans rfl
  have P4:Z.drew.cell? ⟨L,4,none⟩=some (.pointer (some ⟨M.r,0,none⟩)):=(blk_cell K.kZ 4).trans rfl
  have P5:Z.drew.cell? ⟨L,5,none⟩=some (.pointer none):=(blk_cell K.kZ 5).trans rfl
  have P6:Z.drew.cell? ⟨L,6,none⟩=some (.pointer none):=(blk_cell K.kZ 6).trans rfl
  have P7:Z.drew.cell? ⟨L,7,none⟩=some (.pointer none):=(blk_cell K.kZ 7).trans rfl
  have cR:=λW (k:Wr Nil Z W)=>rnew_any (n:=n) (c:=2*n+1) (K.row.after k) hwf n2 (by omega)
  have KZ:=Lib.hid (And.intro K.kR K.wr)
  clear K K2
  go_upto_region 20 with fail
  go_region_held3 (λw'=>w'.cell? ⟨L,0,none⟩=some (.int .i64 4)∧w'.cell? ⟨L,1,none⟩=some (.pointer none)∧w'.cell? ⟨L,2,none⟩=some (.pointer none)∧w'.cell? ⟨L,3,none⟩=some (.pointer none)∧w'.cell? ⟨L,4,none⟩=some (.pointer (some ⟨M.r,0,none⟩))∧w'.cell? ⟨L,5,none⟩=some (.pointer none)∧w'.cell? ⟨L,6,none⟩=some (.pointer none)∧w'.cell? ⟨L,7,none⟩=some (.pointer none))
   (first|with_reducible exact ⟨q0,q1,q2,q3,q4,q5,q6,q7⟩|with_reducible exact ⟨P0,P1,P2,P3,P4,P5,P6,P7⟩|with_reducible exact ⟨oth8 hLR q0,oth8 hLR q1,oth8 hLR q2,oth8 hLR q3,oth8 hLR q4,oth8 hLR q5,oth8 hLR q6,oth8 hLR q7⟩)
   (first
   |(go_at_call 46;(with_reducible refine (cR _ ((Wr.refl Nil Z).drew)).mono ?_);intro e w5 hq;unfold RNewPost at hq;obtain ⟨r,rfl,⟨bk,so,c9,dv,hRf⟩,hW⟩:=hq;have q0:=hW.old P0;have q1:=hW.old P1;have q2:=hW.old P2;have q3:=hW.old P3;have q4:=hW.old P4;have q5:=hW.old P5;have q6:=hW.old P6;have q7:=hW.old P7;have y8:=(hW.block _ (blk_lt KZ.out.1) id).trans KZ.out.1;have y0:=blk_cell y8 0;have x0:=blk_frozen y8 0;have y1:=blk_cell y8 1;have x1:=blk_frozen y8 1;have y2:=blk_cell y8 2;have x2:=blk_frozen y8 2;have y3:=blk_cell y8 3;have x3:=blk_frozen y8 3;have y4:=blk_cell y8 4;have x4:=blk_frozen y8 4;have y5:=blk_cell y8 5;have x5:=blk_frozen y8 5;have y6:=blk_cell y8 6;have x6:=blk_frozen y8 6;have y7:=blk_cell y8 7;have x7:=blk_frozen y8 7;have H5:=Lib.hid (And.intro hRf (And.intro hW y8));clear hRf hW y8))
  go_wp2
  refine bodyPost_ret (results_cell_tmp rfl _ _ R 44 _ (0,0) _ rfl (set8 H5.out.2.2 rfl _ _ _ _ _ _ _ _) underlying44 rfl i_rwl) rfl ?_
  obtain ⟨hRf,hW,y8⟩:=H5.out
  have hrR:r≠R:=ty_off y8 hRf.obj (by decide)
  exact ⟨λi=>if i=3 then (some ⟨M.r,0,none⟩) else none,r,so,c9,rfl,oth8 hrR hRf.cell0,((KZ.out.2.nil ((Wr.refl Nil Z).drew)).nil hW).trans wr8 λb' hb' h=>by unfold One at h;have:=HL.out.2.1;unfold Nil;omega⟩
theorem rw_ab {w:World} {sa:Option Addr} {n cap:Nat} {v sz pl B G D:Int} {ea:Nat} (n1:1≤n) (n2:n≤64) (e2:ea≤8) (hpl:pl=(ea:Nat)):
  Calls prog 14 #[.agg #[.int .i64 5,.slice sa n cap,.int .u32 v,.int .i64 sz,.int .i64 pl,.int .i64 B,.int .i64 G,.int .i64 D]] w (RwPost w 5 (Ka.zerosA (n*ea)).length):=by
 subst hpl
 obtain ⟨Y,hY⟩:∃ Y,Y=((w.alloc (.cells #[.int .i64 5,.slice sa n cap,.int .u32 v,.int .i64 sz,.int .i64 (ea:Nat),.int .i64 B,.int .i64 G,.int .i64 D] 34)).alloc (.cells #[.int .i64 0,.pointer none,.pointer none,.pointer none,.pointer none,.pointer none,.pointer none,.pointer none] 44)).alloc (.cells #[.int .i64 5,.pointer none,.pointer none,.pointer none,.pointer none,.pointer none,.pointer none,.pointer none] 44):=⟨_,rfl⟩
 have b0:Y.heap[w.heap.size]? =some (.cells #[.int .i64 5,.slice sa n cap,.int .u32 v,.int .i64 sz,.int .i64 (ea:Nat),.int .i64 B,.int .i64 G,.int .i64 D] 34 (0,0)):=by rw [hY];exact th_0 w _ _ _
 have b1:Y.heap[w.heap.size+1]? =some (.cells #[.int .i64 0,.pointer none,.pointer none,.pointer none,.pointer none,.pointer none,.pointer none,.pointer none] 44 (0,0)):=by rw [hY];exact th_1 w _ _ _
 have b2:Y.heap[w.heap.size+2]? =some (.cells #[.int .i64 5,.pointer none,.pointer none,.pointer none,.pointer none,.pointer none,.pointer none,.pointer none] 44 (0,0)):=by rw [hY];exact th_2 w _ _ _
 have hWY:Wr Nil w Y:=by rw [hY];exact (((Wr.refl Nil w).alloc _).alloc _).alloc _
 have hsY:Y.heap.size=w.heap.size+3:=by rw [hY,nblk_alloc,nblk_alloc,nblk_alloc]
 have HY:=Lib.hid (And.intro hY (And.intro b0 (And.intro b1 (And.intro b2 (And.intro hWY hsY)))))
 clear hY b0 b1 b2 hWY hsY
 go_enter func14,ntmps14
 go_upto_region 14 with fail
 rw [←HY.out.1]
 obtain ⟨L,hL⟩:∃ L,L=w.heap.size+1+1:=⟨_,rfl⟩
 obtain ⟨R,hR⟩:∃ R,R=w.heap.size+1:=⟨_,rfl⟩
 rw [←hL,←hR]
 have hLR:L≠R:=by omega
 have hRL:R≠L:=by omega
 have hBL:w.heap.size≠L:=by omega
 have hLB:L≠w.heap.size:=by omega
 have bL:Y.heap[L]? =some (.cells #[.int .i64 5,.pointer none,.pointer none,.pointer none,.pointer none,.pointer none,.pointer none,.pointer none] 44 (0,0)):=by rw [hL];exact HY.out.2.2.2.1
 have bR:Y.heap[R]? =some (.cells #[.int .i64 0,.pointer none,.pointer none,.pointer none,.pointer none,.pointer none,.pointer none,.pointer none] 44 (0,0)):=by rw [hR];exact HY.out.2.2.1
 have HL:=Lib.hid (And.intro hL (And.intro hR (And.intro bL bR)))
 clear hL hR bL bR
 have hte:3*(n:Int)*(ea:Int)=3*((n*ea:Nat):Int):=by rw [Int.natCast_mul,Int.mul_assoc]
 have ht:=Nat.mul_le_mul n2 e2
 have P4:Y.drew.cell? ⟨w.heap.size,4,none⟩=some (.int .i64 (ea:Nat)):=(blk_cell HY.out.2.1 4).trans rfl
 have P4':Y.cell? ⟨w.heap.size,4,none⟩=some (.int .i64 (ea:Nat)):=(blk_cell HY.out.2.1 4).trans rfl
 obtain ⟨i0,hi,hz0,hz1,hz2⟩:=info_parts info_u32
 have hmk:∀ w:World,(Instr.makeSlice 53 (.int .i64 (3*(n:Int)*(ea:Int)+1)) (.int .i64 (3*(n:Int)*(ea:Int)+1))).run prog w= .ok (.slice (some ⟨w.heap.size,0,none⟩) (3*(n*ea)+1) (3*(n*ea)+1)) (w.alloc (.cells (Kc.rowA (3*(n*ea)+1) λ_=> .int .u32 0) 23)):=by
  intro w
  have h:=Go.run_make (P:=prog) w 53 23 i0 _ underlying53 hi hz0 .i64 .i64 (3*(n:Int)*(ea:Int)+1) (3*(n:Int)*(ea:Int)+1) (by omega) (by omega) (by rw [hz2];omega) (by omega)
  rw [hz1] at h
  rw [show (3*(n:Int)*(ea:Int)+1).toNat=3*(n*ea)+1 by omega] at h
  rw [show madeCells (Value.int .u32 0).cells ((3*(n*ea)+1)*1)=Kc.rowA (3*(n*ea)+1) (λ_=> .int .u32 0) from Kc.made_row (.int .u32 0) (3*(n*ea)+1)] at h
  exact h
 have hrw:∀ W:World,RowAt .u32 (W.alloc (.cells (Kc.rowA (3*(n*ea)+1) λ_=> .int .u32 0) 23)) (some ⟨W.heap.size,0,none⟩) (3*(n*ea)+1) (Ka.zerosA (n*ea)):=by
  intro W
  exact zrow_at (Ka.zerosA_len (n*ea)) (Ka.zerosA_at (n*ea)) W
 generalize hA:Kc.rowA (3*(n*ea)+1) (λ_=> .int .u32 0)=A at hmk hrw
 clear hA hi hz0 hz1 hz2 i0
 have hwk0:IntKind.i64.wrap (3*(n:Int))=3*(n:Int):=by rw [IntKind.wrap_i64];omega
 have hwk1:IntKind.i64.wrap (3*(n:Int)*(ea:Int))=3*(n:Int)*(ea:Int):=by rw [IntKind.wrap_i64];omega
 have hwk2:IntKind.i64.wrap (3*(n:Int)*(ea:Int)+1)=3*(n:Int)*(ea:Int)+1:=by rw [IntKind.wrap_i64];omega
 have cN:=λW=>Ka.ml_new n ea n1 n2 0 W
 have hwf:∀ y∈Ka.zerosA (n*ea),0≤y∧y<4294967296:=lst_rng λj=>by rw [Ka.zerosA_at];decide
 clear hte
 have P4a:(Y.alloc (.cells A 23)).cell? ⟨w.heap.size,4,none⟩=some (.int .i64 (ea:Nat)):=((Wr.refl Nil Y).alloc _).old P4'
 have P4b:(Y.alloc (.cells A 23)).drew.cell? ⟨w.heap.size,4,none⟩=some (.int .i64 (ea:Nat)):=P4a
 have P4c:(Y.drew.alloc (.cells A 23)).cell? ⟨w.heap.size,4,none⟩=some (.int .i64 (ea:Nat)):=((Wr.refl Nil Y.drew).alloc _).old P4
 go_region_with (first
  |(go_at_call 42;(with_reducible refine (cN _).mono ?_);intro e w2 hq;unfold Ka.NewMlPost at hq;obtain ⟨M,rfl,_,_,_,_,hW⟩:=hq;have K2:Hid (Wr Nil Y w2):=(by first|exact Lib.hid (((Wr.refl Nil Y).drew).nil hW)|exact Lib.hid ((((Wr.refl Nil Y).drew).alloc _).nil hW)|exact Lib.hid ((((Wr.refl Nil Y).alloc _).drew).nil hW));(first|(have hYr:=Lib.hid (((hrw Y).after ((Wr.refl Nil _).drew)).after hW))|(have hYr:=Lib.hid ((hrw Y.drew).after hW))|skip);have q4:=K2.out.old P4';have kL:=(K2.out.block _ (blk_lt HL.out.2.2.1) id).trans HL.out.2.2.1;have z1:=(blk_cell kL 5).trans rfl;have zf:=blk_frozen kL 5;have kL2:=(((Wr.refl Nil w2).alloc (.cells A 23)).block _ (blk_lt kL) id).trans kL;have y1:=(blk_cell kL2 5).trans rfl;have yf:=blk_frozen kL2 5;clear hW kL kL2))
 all_goals
  have kL:=(K2.out.block _ (blk_lt HL.out.2.2.1) id).trans HL.out.2.2.1
  have kR:=(K2.out.block _ (blk_lt HL.out.2.2.2) id).trans HL.out.2.2.2
  have hLw:w.heap.size≤L:=by have:=HL.out.1;omega
  have hLY:=blk_lt HL.out.2.2.1
  have hW2:=HY.out.2.2.2.2.1.nil K2.out
  first
   |(obtain ⟨Z,hZ⟩:∃ Z,Z=(w2.alloc (.cells A 23)).setCell ⟨L,5,none⟩ (.pointer (some ⟨M.r,0,none⟩)):=⟨_,rfl⟩;have K:=rz2 (i:=5) (p:= .pointer (some ⟨M.r,0,none⟩)) kL kR hLR hLw hW2 hrw;rw [←hZ] at K ⊢;clear hZ)
   |(obtain ⟨Z,hZ⟩:∃ Z,Z=(w2.setCell ⟨L,5,none⟩ (.pointer (some ⟨M.r,0,none⟩))).alloc (.cells A 23):=⟨_,rfl⟩;have K:=rz3 (i:=5) (p:= .pointer (some ⟨M.r,0,none⟩)) kL kR hLR hLw hW2 hrw;rw [←hZ] at K ⊢;clear hZ)
   |(obtain ⟨Z,hZ⟩:∃ Z,Z=w2.setCell ⟨L,5,none⟩ (.pointer (some ⟨M.r,0,none⟩)):=⟨_,rfl⟩;have K:=rz1 (i:=5) (p:= .pointer (some ⟨M.r,0,none⟩)) kL kR hLR (by omega) hLw hW2 hYr.out;rw [←hZ] at K ⊢;clear hZ)
  clear z1 zf y1 yf kL kR hW2 hLY hLw
  have P0:Z.drew.cell? ⟨L,0,none⟩=some (.int .i64 5):=(blk_cell K.kZ 0).trans rfl
  have P1:Z.drew.cell? ⟨L,1,none⟩=some (.pointer none):=(blk_cell K.kZ 1).trans rfl
  have P2:Z.drew.cell? ⟨L,2,none⟩=some (.pointer none):=(blk_cell K.kZ 2).trans rfl
  have P3:Z.drew.cell? ⟨L,3,none⟩=some (.pointer none):=(blk_cell K.kZ 3).trans rfl
  have P4:Z.drew.cell? ⟨L,4,none⟩=some (.pointer none):=(blk_cell K.kZ 4).trans rfl
  have P5:Z.drew.cell? ⟨L,5,none⟩=some (.pointer (some ⟨M.r,0,none⟩)):=(blk_cell K.kZ 5).trans rfl
  have P6:Z.drew.cell? ⟨L,6,none⟩=some (.pointer none):=(blk_cell K.kZ 6).trans rfl
  have P7:Z.drew.cell? ⟨L,7,none⟩=some (.pointer none):=(blk_cell K.kZ 7).trans rfl
  have cR:=λW (k:Wr Nil Z W)=>rnew_any (n:=n) (c:=3*(n*ea)+1) (K.row.after k) hwf n2 (by omega)
  have KZ:=Lib.hid (And.intro K.kR K.wr)
  clear K K2
  go_upto_region 20 with fail
  go_region_held3 (λw'=>w'.cell? ⟨L,0,none⟩=some (.int .i64 5)∧w'.cell? ⟨L,1,none⟩=some (.pointer none)∧w'.cell? ⟨L,2,none⟩=some (.pointer none)∧w'.cell? ⟨L,3,none⟩=some (.pointer none)∧w'.cell? ⟨L,4,none⟩=some (.pointer none)∧w'.cell? ⟨L,5,none⟩=some (.pointer (some ⟨M.r,0,none⟩))∧w'.cell? ⟨L,6,none⟩=some (.pointer none)∧w'.cell? ⟨L,7,none⟩=some (.pointer none))
   (first|with_reducible exact ⟨q0,q1,q2,q3,q4,q5,q6,q7⟩|with_reducible exact ⟨P0,P1,P2,P3,P4,P5,P6,P7⟩|with_reducible exact ⟨oth8 hLR q0,oth8 hLR q1,oth8 hLR q2,oth8 hLR q3,oth8 hLR q4,oth8 hLR q5,oth8 hLR q6,oth8 hLR q7⟩)
   (first
   |(go_at_call 46;(with_reducible refine (cR _ ((Wr.refl Nil Z).drew)).mono ?_);intro e w5 hq;unfold RNewPost at hq;obtain ⟨r,rfl,⟨bk,so,c9,dv,hRf⟩,hW⟩:=hq;have q0:=hW.old P0;have q1:=hW.old P1;have q2:=hW.old P2;have q3:=hW.old P3;have q4:=hW.old P4;have q5:=hW.old P5;have q6:=hW.old P6;have q7:=hW.old P7;have y8:=(hW.block _ (blk_lt KZ.out.1) id).trans KZ.out.1;have y0:=blk_cell y8 0;have x0:=blk_frozen y8 0;have y1:=blk_cell y8 1;have x1:=blk_frozen y8 1;have y2:=blk_cell y8 2;have x2:=blk_frozen y8 2;have y3:=blk_cell y8 3;have x3:=blk_frozen y8 3;have y4:=blk_cell y8 4;have x4:=blk_frozen y8 4;have y5:=blk_cell y8 5;have x5:=blk_frozen y8 5;have y6:=blk_cell y8 6;have x6:=blk_frozen y8 6;have y7:=blk_cell y8 7;have x7:=blk_frozen y8 7;have H5:=Lib.hid (And.intro hRf (And.intro hW y8));clear hRf hW y8))
  go_wp2
  refine bodyPost_ret (results_cell_tmp rfl _ _ R 44 _ (0,0) _ rfl (set8 H5.out.2.2 rfl _ _ _ _ _ _ _ _) underlying44 rfl i_rwl) rfl ?_
  obtain ⟨hRf,hW,y8⟩:=H5.out
  have hrR:r≠R:=ty_off y8 hRf.obj (by decide)
  exact ⟨λi=>if i=4 then (some ⟨M.r,0,none⟩) else none,r,so,c9,rfl,oth8 hrR hRf.cell0,((KZ.out.2.nil ((Wr.refl Nil Z).drew)).nil hW).trans wr8 λb' hb' h=>by unfold One at h;have:=HL.out.2.1;unfold Nil;omega⟩
theorem rw_co {w:World} {sa:Option Addr} {n cap:Nat} {v sz pl B G D:Int} {b o:Nat} {zs:List Int} (hr:RowAt .i64 w (some ⟨b,o,none⟩) n zs) (hsa:sa=some ⟨b,o,none⟩) (n1:1≤n) (n2:n≤64) (hn:zs.length=n) (ho:homesOK zs=true) (hG:G=1∨G=3∨G=4) (hD:D=1∨D=3∨D=4):
  Calls prog 14 #[.agg #[.int .i64 7,.slice sa n cap,.int .u32 v,.int .i64 sz,.int .i64 pl,.int .i64 B,.int .i64 G,.int .i64 D]] w (RwPost w 7 (wordsC zs n G D).length):=by
 subst hsa
 obtain ⟨Y,hY⟩:∃ Y,Y=((w.alloc (.cells #[.int .i64 7,.slice (some ⟨b,o,none⟩) n cap,.int .u32 v,.int .i64 sz,.int .i64 pl,.int .i64 B,.int .i64 G,.int .i64 D] 34)).alloc (.cells #[.int .i64 0,.pointer none,.pointer none,.pointer none,.pointer none,.pointer none,.pointer none,.pointer none] 44)).alloc (.cells #[.int .i64 7,.pointer none,.pointer none,.pointer none,.pointer none,.pointer none,.pointer none,.pointer none] 44):=⟨_,rfl⟩
 have b0:Y.heap[w.heap.size]? =some (.cells #[.int .i64 7,.slice (some ⟨b,o,none⟩) n cap,.int .u32 v,.int .i64 sz,.int .i64 pl,.int .i64 B,.int .i64 G,.int .i64 D] 34 (0,0)):=by rw [hY];exact th_0 w _ _ _
 have b1:Y.heap[w.heap.size+1]? =some (.cells #[.int .i64 0,.pointer none,.pointer none,.pointer none,.pointer none,.pointer none,.pointer none,.pointer none] 44 (0,0)):=by rw [hY];exact th_1 w _ _ _
 have b2:Y.heap[w.heap.size+2]? =some (.cells #[.int .i64 7,.pointer none,.pointer none,.pointer none,.pointer none,.pointer none,.pointer none,.pointer none] 44 (0,0)):=by rw [hY];exact th_2 w _ _ _
 have hWY:Wr Nil w Y:=by rw [hY];exact (((Wr.refl Nil w).alloc _).alloc _).alloc _
 have hsY:Y.heap.size=w.heap.size+3:=by rw [hY,nblk_alloc,nblk_alloc,nblk_alloc]
 have HY:=Lib.hid (And.intro hY (And.intro b0 (And.intro b1 (And.intro b2 (And.intro hWY hsY)))))
 clear hY b0 b1 b2 hWY hsY
 go_enter func14,ntmps14
 go_upto_region 18 with fail
 rw [←HY.out.1]
 obtain ⟨L,hL⟩:∃ L,L=w.heap.size+1+1:=⟨_,rfl⟩
 obtain ⟨R,hR⟩:∃ R,R=w.heap.size+1:=⟨_,rfl⟩
 rw [←hL,←hR]
 have hLR:L≠R:=by omega
 have hRL:R≠L:=by omega
 have hBL:w.heap.size≠L:=by omega
 have hLB:L≠w.heap.size:=by omega
 have bL:Y.heap[L]? =some (.cells #[.int .i64 7,.pointer none,.pointer none,.pointer none,.pointer none,.pointer none,.pointer none,.pointer none] 44 (0,0)):=by rw [hL];exact HY.out.2.2.2.1
 have bR:Y.heap[R]? =some (.cells #[.int .i64 0,.pointer none,.pointer none,.pointer none,.pointer none,.pointer none,.pointer none,.pointer none] 44 (0,0)):=by rw [hR];exact HY.out.2.2.1
 have HL:=Lib.hid (And.intro hL (And.intro hR (And.intro bL bR)))
 clear hL hR bL bR
 obtain ⟨NS,hNS⟩:∃ NS,NS=8+inZ G 8+lZ D (cntC zs n) 8:=⟨_,rfl⟩
 have hle:NS≤1200:=by rw [hNS];exact sizeC_le G D n2
 obtain ⟨i0,hi,hz0,hz1,hz2⟩:=info_parts info_u32
 have hmk:∀ w:World,(Instr.makeSlice 53 (.int .i64 (NS:Nat)) (.int .i64 (NS:Nat))).run prog w= .ok (.slice (some ⟨w.heap.size,0,none⟩) NS NS) (w.alloc (.cells (Kc.rowA NS λ_=> .int .u32 0) 23)):=by
  intro w
  have h:=Go.run_make (P:=prog) w 53 23 i0 _ underlying53 hi hz0 .i64 .i64 (NS:Nat) (NS:Nat) (by omega) (by omega) (by rw [hz2];omega) (by omega)
  rw [hz1] at h
  rw [show ((NS:Nat):Int).toNat=NS by omega] at h
  rw [show madeCells (Value.int .u32 0).cells (NS*1)=Kc.rowA NS (λ_=> .int .u32 0) from Kc.made_row (.int .u32 0) NS] at h
  exact h
 have hrw:∀ W:World,RowAt .u32 (W.alloc (.cells (Kc.rowA NS λ_=> .int .u32 0) 23)) (some ⟨W.heap.size,0,none⟩) NS (wordsC zs n G D):=λW=>zrow_at (by rw [hNS];exact List.length_replicate) (λj=>by unfold wordsC;rw [List.getD_eq_getElem?_getD,List.getElem?_replicate];split<;>rfl) W
 generalize hA:Kc.rowA NS (λ_=> .int .u32 0)=A at hmk hrw
 clear hA hi hz0 hz1 hz2 i0
 have P1:Y.cell? ⟨w.heap.size,1,none⟩=some (.slice (some ⟨b,o,none⟩) n cap):=(blk_cell HY.out.2.1 1).trans rfl
 have P5:Y.cell? ⟨w.heap.size,5,none⟩=some (.int .i64 B):=(blk_cell HY.out.2.1 5).trans rfl
 have P6:Y.cell? ⟨w.heap.size,6,none⟩=some (.int .i64 G):=(blk_cell HY.out.2.1 6).trans rfl
 have P7:Y.cell? ⟨w.heap.size,7,none⟩=some (.int .i64 D):=(blk_cell HY.out.2.1 7).trans rfl
 have cN:=λW (k:Wr Nil w W)=>ml_new (cp:=cap) (B:=B) (hr.after k) (hNo_of hn ho) n1 n2 hG hD
 have hwf:∀ y∈wordsC zs n G D,0≤y∧y<4294967296:=lst_rng (wordsC_rng zs n G D)
 have HS:=Lib.hid hNS
 clear hNS hG hD ho hn hr
 go_upto_region 20 with (first
  |(go_at_call 45;(with_reducible refine (cN _ HY.out.2.2.2.2.1).mono ?_);intro e w2 hq;unfold NewMlPost at hq;obtain ⟨M,rfl,hMl,_,_,hsz,_,_,_,_,hW⟩:=hq;have K2:=Lib.hid (HY.out.2.2.2.2.1.nil hW);have kL:=(hW.block _ (blk_lt HL.out.2.2.1) id).trans HL.out.2.2.1;have kR:=(hW.block _ (blk_lt HL.out.2.2.2) id).trans HL.out.2.2.2;have hML:=ty_off kL (hMl (newS 0 [])).obj (by decide);have c43:w2.cell? ⟨M.r,43,none⟩=some (.int .i64 (NS:Nat)):=(blk_cell (hMl (newS 0 [])).obj 43).trans ((rowB_at _ (by decide)).trans (by rw [HS.out];exact congrArg (λz=>some (Value.int .i64 z)) hsz));have d43:(w2.setCell ⟨L,7,none⟩ (.pointer (some ⟨M.r,0,none⟩))).cell? ⟨M.r,43,none⟩=some (.int .i64 (NS:Nat)):=(show Wr (One L) w2 (w2.setCell ⟨L,7,none⟩ (.pointer (some ⟨M.r,0,none⟩))) from (Wr.refl _ w2).setCell _ _ λ_=>rfl).cell c43 (λe=>hML e);have z1:=(blk_cell kL 7).trans rfl;have zf:=blk_frozen kL 7;have KL:=Lib.hid (And.intro kL kR);clear hW hMl hsz kL kR cN))
 have hLw:w.heap.size≤L:=by have:=HL.out.1;omega
 obtain ⟨Z,hZ⟩:∃ Z,Z=(w2.setCell ⟨L,7,none⟩ (.pointer (some ⟨M.r,0,none⟩))).alloc (.cells A 23):=⟨_,rfl⟩
 have K:=rz3 (i:=7) (p:= .pointer (some ⟨M.r,0,none⟩)) KL.out.1 KL.out.2 hLR hLw K2.out hrw
 rw [←hZ] at K
 try rw [nblk_setCell]
 rw [←hZ]
 clear hZ z1 zf c43 d43 hML hLw P1 P5 P6 P7
 have P0:Z.drew.cell? ⟨L,0,none⟩=some (.int .i64 7):=(blk_cell K.kZ 0).trans rfl
 have P1:Z.drew.cell? ⟨L,1,none⟩=some (.pointer none):=(blk_cell K.kZ 1).trans rfl
 have P2:Z.drew.cell? ⟨L,2,none⟩=some (.pointer none):=(blk_cell K.kZ 2).trans rfl
 have P3:Z.drew.cell? ⟨L,3,none⟩=some (.pointer none):=(blk_cell K.kZ 3).trans rfl
 have P4:Z.drew.cell? ⟨L,4,none⟩=some (.pointer none):=(blk_cell K.kZ 4).trans rfl
 have P5:Z.drew.cell? ⟨L,5,none⟩=some (.pointer none):=(blk_cell K.kZ 5).trans rfl
 have P6:Z.drew.cell? ⟨L,6,none⟩=some (.pointer none):=(blk_cell K.kZ 6).trans rfl
 have P7:Z.drew.cell? ⟨L,7,none⟩=some (.pointer (some ⟨M.r,0,none⟩)):=(blk_cell K.kZ 7).trans rfl
 have cR:=λW (k:Wr Nil Z W)=>rnew_any (n:=n) (c:=NS) (K.row.after k) hwf n2 (by omega)
 have KZ:=Lib.hid (And.intro K.kR K.wr)
 clear K K2
 go_region_held3 (λw'=>w'.cell? ⟨L,0,none⟩=some (.int .i64 7)∧w'.cell? ⟨L,1,none⟩=some (.pointer none)∧w'.cell? ⟨L,2,none⟩=some (.pointer none)∧w'.cell? ⟨L,3,none⟩=some (.pointer none)∧w'.cell? ⟨L,4,none⟩=some (.pointer none)∧w'.cell? ⟨L,5,none⟩=some (.pointer none)∧w'.cell? ⟨L,6,none⟩=some (.pointer none)∧w'.cell? ⟨L,7,none⟩=some (.pointer (some ⟨M.r,0,none⟩)))
  (first|with_reducible exact ⟨q0,q1,q2,q3,q4,q5,q6,q7⟩|with_reducible exact ⟨P0,P1,P2,P3,P4,P5,P6,P7⟩|with_reducible exact ⟨oth8 hLR q0,oth8 hLR q1,oth8 hLR q2,oth8 hLR q3,oth8 hLR q4,oth8 hLR q5,oth8 hLR q6,oth8 hLR q7⟩)
  (first
  |(go_at_call 46;(with_reducible refine (cR _ ((Wr.refl Nil Z).drew)).mono ?_);intro e w5 hq;unfold RNewPost at hq;obtain ⟨r,rfl,⟨bk,so,c9,dv,hRf⟩,hW⟩:=hq;have q0:=hW.old P0;have q1:=hW.old P1;have q2:=hW.old P2;have q3:=hW.old P3;have q4:=hW.old P4;have q5:=hW.old P5;have q6:=hW.old P6;have q7:=hW.old P7;have y8:=(hW.block _ (blk_lt KZ.out.1) id).trans KZ.out.1;have y0:=blk_cell y8 0;have x0:=blk_frozen y8 0;have y1:=blk_cell y8 1;have x1:=blk_frozen y8 1;have y2:=blk_cell y8 2;have x2:=blk_frozen y8 2;have y3:=blk_cell y8 3;have x3:=blk_frozen y8 3;have y4:=blk_cell y8 4;have x4:=blk_frozen y8 4;have y5:=blk_cell y8 5;have x5:=blk_frozen y8 5;have y6:=blk_cell y8 6;have x6:=blk_frozen y8 6;have y7:=blk_cell y8 7;have x7:=blk_frozen y8 7;have H5:=Lib.hid (And.intro hRf (And.intro hW y8));clear hRf hW y8))
 go_wp2
 refine bodyPost_ret (results_cell_tmp rfl _ _ R 44 _ (0,0) _ rfl (set8 H5.out.2.2 rfl _ _ _ _ _ _ _ _) underlying44 rfl i_rwl) rfl ?_
 obtain ⟨hRf,hW,y8⟩:=H5.out
 have hrR:r≠R:=ty_off y8 hRf.obj (by decide)
 exact ⟨λi=>if i=6 then (some ⟨M.r,0,none⟩) else none,r,so,c9,rfl,oth8 hrR hRf.cell0,((KZ.out.2.nil ((Wr.refl Nil Z).drew)).nil hW).trans wr8 λb' hb' h=>by unfold One at h;have:=HL.out.2.1;unfold Nil;omega⟩
open _root_.Go.Proofs.Tryz
theorem chk_ok {kd:Int} {n:Nat} {zs:List Int} {sz pl B G D:Int} (h:chk kd n zs sz pl B G D=0):homesOK zs=true∧1≤n∧n≤64:=by
 unfold chk at h
 split at h
 ·cases h
 ·split at h
  ·cases h
  ·next hx=>
   refine ⟨?_,by omega,by omega⟩
   cases e:homesOK zs with
   |false=>exact absurd (.inl e) hx
   |true=>rfl
theorem rw_any {w:World} {b o n cap:Nat} {zs:List Int} {kd v sz pl B G D:Int} {a:Any} (hx:chk kd n zs sz pl B G D=0) (hr:RowAt .i64 w (some ⟨b,o,none⟩) n zs) (hb:b<w.heap.size) (hv:0≤v∧v<4294967296) (hk:a.kd=kd) (hN:NewA n zs v sz pl B G D a):
  Calls prog 14 #[.agg #[.int .i64 kd,.slice (some ⟨b,o,none⟩) n cap,.int .u32 v,.int .i64 sz,.int .i64 pl,.int .i64 B,.int .i64 G,.int .i64 D]] w (RwPost w kd a.ps.ws.length):=by
 obtain ⟨ho,n1,n2⟩:=chk_ok hx
 cases a with
 |tk L f=>obtain ⟨rfl,_⟩:=hN;obtain rfl:kd=1:=hk.symm;exact rw_tk n2 hv
 |sl L f=>
  obtain ⟨m,z,hsz,siz,hnm,hz,rfl,_⟩:=hN
  obtain rfl:kd=2:=hk.symm
  have hm:m≤64:=by unfold sizeB at siz;simp at siz;omega
  exact rw_sl n2 hv (by omega) hm hz hsz
 |cl L f=>obtain ⟨rfl,_⟩:=hN;obtain rfl:kd=3:=hk.symm;exact rw_cl n1 n2
 |mc L f=>obtain ⟨rfl,_⟩:=hN;obtain rfl:kd=4:=hk.symm;exact rw_mc n1 n2
 |ab L f=>obtain ⟨ea,hp,e1,e2,rfl,_⟩:=hN;obtain rfl:kd=5:=hk.symm;exact rw_ab n1 n2 e2 hp
 |hi L f=>obtain ⟨rfl,_⟩:=hN;obtain rfl:kd=6:=hk.symm;exact rw_hi hr hb n1 n2 rfl
 |co L f=>
  obtain ⟨rfl,_,_,hR⟩:=hN
  obtain rfl:kd=7:=hk.symm
  have hg:(G=1∨G=3∨G=4)∧(D=1∨D=3∨D=4):=by unfold rightB at hR;simp at hR;omega
  exact rw_co hr rfl n1 n2 hr.len ho hg.1 hg.2
end Go.Proofs.YtcikfcplagelaaaGreat

import Derived.Test.YtkmikkjjnbikdaaGreatCohRhom
import Derived.Test.YtkmikkjjnbikdaaGreatCohMay
import Derived.Test.YtkmikkjjnbikdaaGreatLockPlays
namespace Go.Proofs.YtkmikkjjnbikdaaGreat.cohortPlays
set_option maxHeartbeats 8000000
open _root_.Go.Proofs.Tryz
open Go.ChangeShapes Go.WideShapes Go.ChangeAt Go.RowKit
set_option linter.unusedVariables false
theorem own:ownKnob prog.godebug=none:=by kernel_rfl
theorem laidOut:laidOutB prog=true:=by kernel_rfl
def mover (M:Mp) (p b:Nat):Mp:={M with g:=M.g.over p b,l:=λc=>(M.l c).over p b,pr:=p,base:=b}
theorem over_Pt (M:Mp) (p b i k:Nat):(mover M p b).Pt i k→M.Pt i k:=by
 intro h
 match i,h with
 |0,h=>exact h
 |1,h=>exact h
 |2,h=>exact h
 |3,h=>exact h
 |4,h=>exact h
 |5,h=>exact h
 |6,h=>
  obtain ⟨_,e2,e3,_⟩:=Rp.over_eq M.g p b
  have h:k=(M.g.over p b).r∨(M.g.over p b).F k:=h
  rw [e2,e3] at h
  exact h
 |7,h=>exact h
 |c+8,h=>
  obtain ⟨_,e2,e3,_⟩:=Rp.over_eq (M.l c) p b
  obtain ⟨c8,hh,h⟩:=h
  have h:k=((M.l c).over p b).r∨((M.l c).over p b).F k:=h
  rw [e2,e3] at h
  exact ⟨c8,hh,h⟩
theorem over_raw {w:World} {M:Mp} {f:FL} (h:MlRaw w M f) {p b:Nat} (hb:∀ i k,M.Pt i k→k<b):MlRaw w (mover M p b) f:=by
 have eo:(mover M p b).oc' f.s.n=M.oc' f.s.n:=by
  unfold Mp.oc' mover
  dsimp only
  rw [(Rp.over_eq M.g p b).1]
  congr 1
  funext c
  unfold Mp.lc
  dsimp only
  rw [(Rp.over_eq (M.l c) p b).1]
 refine ⟨?_,h.seat,h.rN,h.rO,h.rP,h.rG,h.gat.over (hb 6 _ (.inl rfl)) λk hk=>hb 6 k (.inr hk),λc c8 hh=>(h.lat c c8 hh).over (hb (c+8) _ ⟨c8,hh,.inl rfl⟩) λk hk=>hb (c+8) k ⟨c8,hh,.inr hk⟩,h.has,⟨λi j k hi hj=>h.ap.ap i j k (over_Pt M p b i k hi) (over_Pt M p b j k hj),λ_ _ _=>Nat.zero_le _,λi k hk=>hb i k (over_Pt M p b i k hk)⟩⟩
 show w.heap[M.r]? =some (.cells (rowB 44 ((mover M p b).oc' f.s.n)) _ _)
 rw [eo]
 exact h.obj
theorem ls_a2 {w0 w:World} {L:Lp} {f:FL} (h:LkS w0 w L f) (x:Int):LkS w0 w {L with a2:=x} f:=by
 obtain ⟨⟨⟨r,p,fa,t⟩,i,a1⟩,lo,wr⟩:=h
 exact ⟨⟨⟨⟨r.obj,r.seat,r.tick,r.glo,r.loc,r.ne,r.low,r.sep,r.nod,r.adr,r.rng⟩,p,fa,t⟩,i,a1⟩,lo,wr⟩
theorem duo_made {w0 X w4 w5 w6:World} {L:Lp} {M0:Mp} {zs:List Int} {n pr:Nat} {G K B:Int} (hP:LkS w0 X L (newC zs n G K B n)) (hM:MlRaw w4 M0 (newC zs n G K B n)) (ha:M0.a=0) (hB:M0.B=B) (hga:M0.g.a=8) (hla:∀ c,c<8→M0.has c=true→(M0.l c).a=((8+inZ G 8+lZ K (λc=>cntH (hNo zs) c n) c:Nat):Int))
  (hn:∀ i k,M0.Pt i k→X.heap.size≤k) (h4:Wr Nil X w4) (h5:Wr Nil w4 w5) (hr:RefSt w6 w5.heap.size pr (newC zs n G K B n).ps) (h6:Wr Nil w5 w6):
  DuoP w0 w6 {L with a2:=1} (mover M0 pr w5.heap.size) (newC zs n G K B n):=by
 have s5:=h5.size
 have s6:=h6.size
 have s4:=h4.size
 have ht:=hP.lk.lk.top
 have hM5:=hM.after h5
 have hlt:∀ i k,M0.Pt i k→k<w5.heap.size:=λi k hk=>hM5.lt hk
 have hM6:=over_raw (p:=pr) (hM5.after h6) hlt
 obtain ⟨_,_,_,e4,e5,e6⟩:=Rp.over_eq M0.g pr w5.heap.size
 refine ⟨ls_a2 (hP.after ((h4.nil h5).nil h6)) 1,⟨hM6,⟨ha,hB,⟨e6,e5,e4.trans hga⟩,λc c8 hh=> ?_⟩⟩,hr,⟨?_,λk hk=> ?_⟩,⟨hlt 0 _ rfl,λk hk=> ?_⟩,⟨?_,s6⟩⟩
 ·obtain ⟨_,_,_,f4,f5,f6⟩:=Rp.over_eq (M0.l c) pr w5.heap.size
  refine ⟨f6,f5,f4.trans ((hla c c8 hh).trans ?_)⟩
  show _=((0+8+inZ G 8+lZ K (λc=>cntH (hNo zs) c n) c:Nat):Int)
  rw [Nat.zero_add]
 ·have:=hn 0 M0.r rfl
  show L.q.k3≤M0.r
  omega
 ·obtain ⟨i,_,hk⟩:=hk
  have:=hn i k (over_Pt _ _ _ i k hk)
  show L.q.k3≤k
  omega
 ·obtain ⟨i,_,hk⟩:=hk
  exact hlt i k (over_Pt _ _ _ i k hk)
 ·show L.q.k3≤w5.heap.size
  omega
set_option maxRecDepth 100000 in
theorem walk (s0:Option Addr) (len0 cap0:Nat) (z0:List Int) (a1_0 a1_1 a1_2:Int) (s2:Option Addr) (len2 cap2:Nat) (z2:Nat→Nat→Int) (w:World) (l0:len0≤cap0∧cap0≤maxLen∧(s0=none→cap0=0)) (r0:RowAt .i64 w s0 len0 z0) (w0:∀ z∈z0,(Lit.int .i64 z).wf=true) (w1_0:(Lit.int .i64 a1_0).wf=true) (w1_1:(Lit.int .i64 a1_1).wf=true) (w1_2:(Lit.int .i64 a1_2).wf=true) (l2:len2≤cap2∧cap2≤maxLen∧(s2=none→cap2=0)) (r2:Structs w [.i64,.i64,.i64,.i64] s2 len2 z2):
  Calls prog 3 #[.slice s0 len0 cap0,.agg #[.int .i64 a1_0,.int .i64 a1_1,.int .i64 a1_2],.slice s2 len2 cap2] w λe w'=>e= .returned (.bool true)∧Below w.heap.size w w':=by
 have hm0:len0≤9223372036854775807:=by have:=l0.1;have:=l0.2.1;unfold maxLen at this;omega
 have hm2:len2≤9223372036854775807:=by have:=l2.1;have:=l2.2.1;unfold maxLen at this;omega
 have hat:OpsAt w s2 len2 z2:=by
  rcases r2.at (by decide) with e|⟨b2,o2,rfl,hc2⟩
  ·exact .inl e
  ·exact .inr ⟨b2,o2,rfl,λi hi j hj=>(hc2 i hi j .i64 (by match j,hj with|0,_=>rfl|1,_=>rfl|2,_=>rfl|3,_=>rfl)).1⟩
 obtain ⟨X,hX⟩:∃ X,X=w.alloc (.cells #[.int .i64 a1_0,.int .i64 a1_1,.int .i64 a1_2] 24):=⟨_,rfl⟩
 have hWX:Wr Nil w X:=by rw [hX];exact (Wr.refl _ w).alloc _
 have hblk:X.heap[w.heap.size]? =some (.cells #[.int .i64 a1_0,.int .i64 a1_1,.int .i64 a1_2] 24 (0,0)):=by rw [hX];exact Go.Deep.blk_alloc_new _ _
 have x0:X.cell? ⟨w.heap.size,0,none⟩=some (.int .i64 a1_0):=(blk_cell hblk 0).trans rfl
 have x1:X.cell? ⟨w.heap.size,1,none⟩=some (.int .i64 a1_1):=(blk_cell hblk 1).trans rfl
 have x2:X.cell? ⟨w.heap.size,2,none⟩=some (.int .i64 a1_2):=(blk_cell hblk 2).trans rfl
 have cF:=fine_any (cap:=cap0) (r0.after hWX) hm0 s2 len2 cap2 hm2
 have cK:=fl_may a1_0 a1_1 a1_2
 have HX:=Lib.hid hX
 cases hf:fineB len0 z0 len2
 ·rw [hf] at cF
  have HW:=Lib.hid hWX
  clear r0 hf w0 l0 l2 r2 hat w1_0 w1_1 w1_2 hWX hblk hX
  go_enter func3,ntmps3
  go_wp2_with (first
   |(go_at_call 8;rw [←HX.out];with_reducible refine cF.mono ?_;rintro e w2 ⟨rfl,hw2⟩;subst w2)
   |(go_at_call 10;with_reducible refine (fl_awake _).mono ?_;intro e w2 hq;unfold AwakePost at hq;obtain ⟨rfl,hW⟩:=hq))
  go_ret
  exact ⟨rfl,(HW.out.nil hW).law⟩
 cases hk:rightB a1_0 a1_1 a1_2
 ·rw [hf] at cF
  rw [hk] at cK
  have HW:=Lib.hid hWX
  clear r0 hf hk w0 l0 l2 r2 hat w1_0 w1_1 w1_2 hWX hblk hX
  go_enter func3,ntmps3
  go_wp2_with (first
   |(go_at_call 8;rw [←HX.out];with_reducible refine cF.mono ?_;rintro e w2 ⟨rfl,hw2⟩;subst w2)
   |(go_at_call 9;(with_reducible refine (cK _).mono ?_);rintro e w3 ⟨rfl,hW3⟩;have HM:=Lib.hid hW3;clear hW3 cK)
   |(go_at_call 10;with_reducible refine (fl_awake _).mono ?_;intro e w4 hq;unfold AwakePost at hq;obtain ⟨rfl,hW⟩:=hq))
  go_ret
  exact ⟨rfl,(HW.out.nil (HM.out.nil hW)).law⟩
 ·rw [hf] at cF
  rw [hk] at cK
  obtain ⟨n1,n8,ho,hm⟩:=fineB_no hf
  rcases r0.at with e0|⟨b,o,rfl,hc⟩
  ·omega
  have hb:b<w.heap.size:=World.block_lt_of_cell? w _ (hc 0 (by omega))
  have HM:=Lib.hid (λ(W:World) (k:Wr Nil w W)=>fl_made (cap:=cap0) (r0.after k) (Nat.lt_of_lt_of_le hb k.size) ho n1 n8 hk)
  have HH:=Lib.hid (And.intro ho hat)
  have HS:=Lib.hid r0.len
  have HR0:=Lib.hid (And.intro r0 hk)
  have HB:=Lib.hid (right_B hk)
  have hGK:(a1_0=1∨a1_0=3∨a1_0=4)∧(a1_1=1∨a1_1=3∨a1_1=4):=by
   unfold rightB at hk
   simp only [Bool.and_eq_true,decide_eq_true_eq,List.mem_cons,List.not_mem_nil,or_false] at hk
   omega
  have HGK:=Lib.hid hGK
  obtain ⟨sz,hsz⟩:∃ sz:Nat,sz=8+inZ a1_0 8+lZ a1_1 (λc=>cntH (hNo z0) c len0) 8:=⟨_,rfl⟩
  have hsz2:sz≤4096:=by
   have:=inZ_le a1_0 8
   have:=lZ_le a1_1 (λc=>cntH (hNo z0) c len0) 8 λc=>Nat.le_trans (cntH_le _ c len0) (by omega)
   omega
  have hsz0:1≤sz:=by omega
  have HSZ:=Lib.hid hsz
  obtain ⟨jj0,gi,gz0,gz1,gz2⟩:=info_parts (show (prog.info? 62).map (λi=>(i.zero,i.size,i.bytes))=some (some (.int .u32 0),1,4) by kernel_rfl)
  have hmu:∀ w:World,(Instr.makeSlice 54 (.int .i64 (sz:Int)) (.int .i64 (sz:Int))).run prog w= .ok (.slice (some ⟨w.heap.size,0,none⟩) sz sz) (w.alloc (.cells (rowB sz λ_=> .int .u32 0) 62)):=by
   intro w
   have h:=Go.run_make (P:=prog) w 54 62 jj0 _ underlying54 gi gz0 .i64 .i64 sz sz (by omega) (by omega) (by rw [gz2];omega) (by omega)
   rw [gz1] at h
   simp only [Int.toNat_natCast] at h
   rw [show madeCells (Value.int .u32 0).cells (sz*1)=rowB sz λ_=> .int .u32 0 from made_rowB (.int .u32 0) sz] at h
   exact h
  generalize hUA:(rowB sz λ_=>Value.int .u32 0)=U at hmu
  have HU:=Lib.hid hUA
  clear gi gz0 gz1 gz2 hUA hsz hGK
  have HW:=Lib.hid hWX
  clear r0 hf hk w0 l0 l2 r2 hat hc ho hb w1_0 w1_1 w1_2 hWX hblk hX
  go_enter func3,ntmps3
  go_wp2_with (first
   |(go_at_call 8;rw [←HX.out];with_reducible refine cF.mono ?_;rintro e w2 ⟨rfl,hw2⟩;subst w2)
   |(go_at_call 9;(with_reducible refine (cK _).mono ?_);rintro e w3 ⟨rfl,hW3⟩;have y0:=hW3.old x0;have y1:=hW3.old x1;have y2:=hW3.old x2;have H3:=Lib.hid (HW.out.nil hW3);clear hW3 cK x0 x1 x2)
   |(go_at_call 11;(with_reducible refine (HM.out _ H3.out).mono ?_);intro e w1 hq;unfold MdPost at hq;obtain ⟨L,rfl,hL,h1,hhs⟩:=hq;have v0:=(hL.wr).old y0;have v1:=(hL.wr).old y1;have v2:=(hL.wr).old y2;have HA:=Lib.hid (And.intro h1 hhs);have H2:=Lib.hid (ls_old H3.out hL);clear hL h1 hhs y0 y1 y2)
   |(go_at_call 12;have cc:=ml_new (cp:=cap0) (B:=a1_2) (HR0.out.1.after H2.out.wr) (hNo_of HR0.out.1.len HH.out.1) n1 (by omega) HGK.out.1 HGK.out.2;(with_reducible refine cc.mono ?_);intro e w4 hq;unfold NewMlPost at hq;obtain ⟨M0,he,hM0,ham,hBm,hzm,hgm,hlm,hbm,hnm,hW4⟩:=hq;obtain ⟨mr,hmr⟩:∃ mr,mr=M0.r:=⟨_,rfl⟩;rw [←hmr] at he;subst he;have cz:=(hM0 ⟨[],[],[],[],[]⟩).obj;have cz:w4.cell? ⟨mr,43,none⟩=some (.int .i64 (sz:Int)):=(by rw [hmr,blk_cell cz,rowB_at _ (by decide)];show some (Value.int .i64 M0.sz)=_;rw [hzm,HSZ.out]);have HMR:=Lib.hid hmr;have u0:=hW4.old v0;have u1:=hW4.old v1;have H4:=Lib.hid (And.intro hM0 (And.intro ham (And.intro hBm (And.intro hgm (And.intro hlm (And.intro hnm hW4))))));clear hmr hM0 ham hBm hzm hgm hlm hbm hnm hW4 cc v0 v1 v2)
   |(go_at_call 13;have cc:=ml_homes (cp:=cap0) (HR0.out.1.after (H2.out.wr.nil H4.out.2.2.2.2.2.2)) (hNo_of HR0.out.1.len HH.out.1) (by omega) HGK.out.1 HGK.out.2;(with_reducible refine cc.mono ?_);intro e w5 hq;unfold HomesNewPost at hq;obtain ⟨hg,hcap,he,hrow,hW5⟩:=hq;rw [←HSZ.out] at he hrow;subst he;have dz:=hW5.old cz;have H5:=Lib.hid (And.intro hrow (And.intro hW5 (H2.out.after (H4.out.2.2.2.2.2.2.nil hW5))));clear hrow hW5 cc cz u0 u1))
  clear cF
  go_upto_region 8 with fail
  have p0:=H5.out.2.2.lk.lk.port.cell0
  have esz:(newC z0 len0 a1_0 a1_1 a1_2 len0).ps.ws.length=sz:=by rw [HSZ.out];exact List.length_replicate
  have cLn:=λq=>(len_any (H5.out.2.2.after ((Wr.refl Nil w5).drewN q)).lk.lk.port.mem)
  rw [esz] at cLn
  have HE:=Lib.hid esz
  clear esz
  go_big_quiet ((go_at_call 14;with_reducible exact Calls.quiet_of_same ((cLn _).mono λ_ _ q=>⟨q.1,q.2.symm⟩)))
  generalize hY:w5.drewN _=Y
  have hWY:Wr Nil w5 Y:=by rw [←hY];exact (Wr.refl Nil w5).drewN _
  have q0:=hWY.old p0
  have qz:=hWY.old dz
  have HY:=Lib.hid (And.intro (H5.out.1.after hWY) (And.intro (H5.out.2.1.nil hWY) (H5.out.2.2.after hWY)))
  clear hY hWY p0 dz cLn H5
  go_wp2
  go_loopw [70] (λi wr=>wr=Y∧∃ k:Nat,k≤sz∧i= .int .i64 k) (λi _=>sz-(intOf i).toNat)
  case atStart=>exact ⟨by first|rfl|trivial,0,Nat.zero_le _,rfl⟩
  case round=>
   obtain ⟨rfl,k,hk,rfl⟩:=hrel
   by_cases hlt2:k<sz
   ·have c0:wr.cell? ⟨hg,0+k,none⟩=some (.int .i64 ((gH a1_0++lH a1_1 (λc=>cntH (hNo z0) c len0) 8).getD k 0)):=by
     rcases HY.out.1.at with h0|⟨b',o',e,hc⟩
     ·omega
     ·cases e;exact hc k hlt2
    rw [Nat.zero_add] at c0
    have cH:=home_any HY.out.2.2.lk.lk.port.mem (k:Int)
    rw [HA.out.2,load_at] at cH
    have cH:Calls prog 15 _ wr λe w'=>e= .returned (.int .i64 ((gH a1_0++lH a1_1 (λc=>cntH (hNo z0) c len0) 8).getD k 0))∧wr=w':=cH
    generalize (gH a1_0++lH a1_1 (λc=>cntH (hNo z0) c len0) 8).getD k 0=y at c0 cH
    go_wp2_with (first|(go_at_call 15;(with_reducible refine cH.mono ?_);rintro e w6 ⟨rfl,rfl⟩))
    go_roundw
    case rel=>exact ⟨by first|rfl|trivial,k+1,by omega,by go_num⟩
    case measure=>simp [intOf];omega
   ·obtain rfl:k=sz:=by omega
    have hUr:RowAt .u32 (wr.alloc (.cells U 62)) (some ⟨wr.heap.size,0,none⟩) k (wordsC z0 len0 a1_0 a1_1):=by
     refine ⟨by rw [HSZ.out];exact List.length_replicate,λe=>(by cases e),λa ha j hj=> ?_⟩
     cases ha
     have hb:=Go.Deep.blk_alloc_new wr (.cells U 62)
     rw [Go.Addr.add_lit,Nat.zero_add,blk_cell hb,←HU.out,rowB_at _ hj]
     unfold wordsC
     rw [List.getD_eq_getElem?_getD,List.getElem?_replicate]
     split<;>rfl
    have hwf:∀ z∈wordsC z0 len0 a1_0 a1_1,0≤z∧z<4294967296:=λz hz=>by
     have:=List.eq_of_mem_replicate hz
     omega
    have cR:=rnew_any (c:=k) (n:=len0) hUr hwf (by omega) hsz2
    have hO:OrdI (newC z0 len0 a1_0 a1_1 a1_2 len0) []:=⟨by rw [HE.out];exact hsz2,_,_,_,_,_,_,ord_new z0 len0 HS.out n8 HH.out.1 HB.out⟩
    have HO:=Lib.hid hO
    have hkU:Wr Nil wr (wr.alloc (.cells U 62)):=(Wr.refl _ wr).alloc _
    have HKU:=Lib.hid hkU
    clear hUr hwf hO hkU
    go_wp2_with (first
     |(go_at_call 17;(with_reducible refine cR.mono ?_);intro e w7 hq;unfold RNewPost at hq;obtain ⟨pr,rfl,hrs,hW7⟩:=hq;have hDP:=duo_made H2.out (H4.out.1 _) H4.out.2.1 H4.out.2.2.1 H4.out.2.2.2.1 H4.out.2.2.2.2.1 H4.out.2.2.2.2.2.1 H4.out.2.2.2.2.2.2 (HY.out.2.1.nil HKU.out) hrs hW7;have cPl:=plays_any hDP HO.out H4.out.2.1 HA.out.1 rfl n1 rfl (cap:=cap2) HH.out.2 hm;dsimp only [mover] at cPl;rw [←HMR.out] at cPl;clear hDP hrs hW7 cR)
     |(go_at_call 16;(with_reducible refine cPl.mono ?_);intro e w8 hq;have hq8:=hq.wr;unfold PlaysPost at hq;obtain ⟨rfl,f,W,hD8,hO8,hf8⟩:=hq;have H8:=Lib.hid hq8;clear hq8 hD8 hO8 hf8 cPl)
     |(go_at_call 10;(with_reducible refine (fl_awake _).mono ?_);intro e w9 hq;unfold AwakePost at hq;obtain ⟨rfl,hW9⟩:=hq))
    go_ret
    exact ⟨rfl,(H8.out.nil hW9).law⟩
set_option maxRecDepth 100000 in
theorem lifted (os:Os) (started:os.Started) (H:Type) (enc:TypeId×Value→H):
  ReturnsInHanded {} checked os 3 .any (Rows.cohortPlaysSpec.pre6 enc prog f3 Rows.cohortPlaysRow.domain false) (Rows.cohortPlaysSpec.post enc prog f3 false true false false):=by
 refine returnsInHanded_of_change (C:=checked) own started (by kernel_rfl) func3
  (ChangeSpec.witness6 (enc:=enc) (C:=checked) false ⟨#[],#[.slice none 0 0,.agg #[.int .i64 0,.int .i64 0,.int .i64 0],.slice none 0 0],[]⟩ 8 (by kernel_rfl) (by kernel_rfl) (by kernel_rfl) (by kernel_rfl)) ?_
 intro W base args ds gs before hval0 hW hcnd _
 have hval:∀ (j:Nat) t v,f3.params[j]? =some t→args[j]? =some v→Value.okWide prog W .any base t v:=hval0
 have hW':=hW
 obtain ⟨p,q,hA0,hV,rfl,hfz,hnd⟩:=hW
 have hA:DataW.TrodAll enc prog W 0 (λ_=>true) true f3.params.toList args.toList ds p:=hA0
 rw [params3] at hA hval
 obtain ⟨v0,vs0,d0,ds0,p0,q0,hargs,rfl,rfl,h0,r0'⟩:=trodAll_cons hA
 obtain ⟨v1,vs1,d1,ds1,p1,q1,rfl,rfl,rfl,h1,r1'⟩:=trodAll_cons r0'
 obtain ⟨v2,vs2,d2,ds2,p2,q2,rfl,rfl,rfl,h2,r2'⟩:=trodAll_cons r1'
 obtain ⟨rfl,rfl,rfl⟩:=trodAll_nil r2'
 obtain rfl:args= #[v0,v1,v2]:=by cases args;simp_all
 obtain ⟨rfl,rfl⟩:=trodVars_none hV
 have k0:=h0
 have lt0:∀ x∈p0,x.block<W.heap.size:=by obtain ⟨m,hm⟩:=k0;exact DataW.trod_lt m _ _ _ hm
 obtain ⟨s0,len0,cap0,rfl⟩:=okWide_slice underlying22 (hval 0 22 v0 rfl rfl)
 obtain ⟨l0,z0,r0,w0⟩:=open_slice_row underlying22 underlying3 (by kernel_rfl) h0
 have k1:=h1
 have lt1:∀ x∈p1,x.block<W.heap.size:=by obtain ⟨m,hm⟩:=k1;exact DataW.trod_lt m _ _ _ hm
 obtain ⟨zs1,rfl,hl1,hz1⟩:=open_struct_list (ks:=[.i64,.i64,.i64]) underlying24 (by kernel_rfl) (by kernel_rfl) (hval 1 24 v1 rfl rfl) h1
 obtain ⟨a1_0,a1_1,a1_2,rfl⟩:=list3 hl1
 have k2:=h2
 have lt2:∀ x∈p2,x.block<W.heap.size:=by obtain ⟨m,hm⟩:=k2;exact DataW.trod_lt m _ _ _ hm
 obtain ⟨s2,len2,cap2,rfl⟩:=okWide_slice underlying25 (hval 2 25 v2 rfl rfl)
 obtain ⟨l2,z2,r2⟩:=open_slice_ints (ks:=[.i64,.i64,.i64,.i64]) underlying25 underlying58 (by kernel_rfl) (by kernel_rfl) h2
 clear hA0 hval0
 refine (walk s0 len0 cap0 z0 a1_0 a1_1 a1_2 s2 len2 cap2 z2 W l0 r0 w0 (hz1 0 _ rfl) (hz1 1 _ rfl) (hz1 2 _ rfl) l2 r2).mono λe W' ⟨he,bel⟩=> ?_
 subst he
 exact ⟨_,rfl,_,_,_,[],_,[],hW',trodAll_mk1 (shut_bool underlying4 _),(trodAll_cons_mk (Below.trod laidOut (by kernel_rfl) (of_decide_eq_true (by kernel_rfl)) k0 bel lt0) (trodAll_cons_mk (Below.trod laidOut (by kernel_rfl) (of_decide_eq_true (by kernel_rfl)) k1 bel lt1) (trodAll_cons_mk (Below.trod laidOut (by kernel_rfl) (of_decide_eq_true (by kernel_rfl)) k2 bel lt2) trodAll_mk0))),rfl,bel.frame _,λh=>by cases h⟩
theorem over:Rows.cohortPlaysRow.holds Tryz.pinned (OpenSpec.ofChange Rows.cohortPlaysSpec):=
 OpenClaim.holds_of_wide 3 f3 rfl rfl rfl rfl rfl rfl rfl ⟨rfl,rfl,rfl,rfl,rfl⟩ rfl rfl rfl rfl rfl (by kernel_rfl) func3 (by kernel_rfl)
  (of_decide_eq_true (by kernel_rfl)) (by unfold Func.isWrapper;first|(rw [if_pos (by decide+kernel)];kernel_rfl)|(rw [if_neg (by decide+kernel)];exact ⟨rfl,rfl⟩))
  (λos started H enc _=>lifted os started H enc)
theorem proved:Rows.CohortPlaysSaid:=over
#print axioms proved
end Go.Proofs.YtkmikkjjnbikdaaGreat.cohortPlays

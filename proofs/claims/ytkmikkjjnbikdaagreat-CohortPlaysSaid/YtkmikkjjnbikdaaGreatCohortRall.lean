import Derived.Test.YtkmikkjjnbikdaaGreatCohRl
import Derived.Test.YtkmikkjjnbikdaaGreatCohRu
namespace Go.Proofs.YtkmikkjjnbikdaaGreat
set_option maxHeartbeats 8000000
open _root_.Go.Proofs.Tryz Go.Deep
open Go.RowKit Go.BigFrame
set_option linter.unusedVariables false
set_option maxRecDepth 100000
theorem Inn.ev_rng (x:Inn) (a t u:Int):0≤(x.did a t u).ev∧(x.did a t u).ev≤5:=by
 cases x with
 |tk f=>
  show 0≤(f.did (Kf.lp a) t u).ev∧(f.did (Kf.lp a) t u).ev≤5
  unfold Kf.FL.did Kf.FL.acqD Kf.FL.askD Dd.no
  repeat' split
  all_goals exact ⟨by decide,by decide⟩
 |cl f=>
  show 0≤(f.did (Kc.lp a) t u).ev∧(f.did (Kc.lp a) t u).ev≤5
  unfold Kc.FL.did Kc.FL.acqD Kc.FL.askD Dd.no
  repeat' split
  all_goals exact ⟨by decide,by decide⟩
 |mc f=>
  show 0≤(f.did (Km.lp a) t u).ev∧(f.did (Km.lp a) t u).ev≤5
  unfold Km.FL.did Km.FL.acqD Km.FL.relD Km.FL.askD Dd.no
  repeat' split
  all_goals exact ⟨by decide,by decide⟩
section
variable {w:World} {M:Mp} {bk:Nat} {so:Option Addr} {cap:Nat} {dv:Value} {f:FL} {L:Lp}
theorem rl_lock (h:MmIn w M bk so cap dv f L) (k:Nat) (hk:k<f.s.n) (u:Int) (hs:f.s.st k=1):
  Calls prog 126 #[.pointer (some ⟨M.r,0,none⟩),.pointer (some ⟨M.pr,0,none⟩),.int .i64 (k:Int),.int .i64 u] w (RkPost w M bk dv (f.acq L k u) (Dd.rval (f.acqD L k u))):=by
 rcases h.phl k hk hs with hp|hp|hp|hp
 ·unfold FL.acq FL.acqD FL.ask
  rw [if_pos hp,if_pos hp]
  by_cases q:(f.Lc (f.nd k)).s.st (f.own k)=0
  ·rw [if_pos q]
   exact rl_lock0a h k hk u hp q
  ·rw [if_neg q]
   exact rl_lock0b h k hk u hp q
 ·unfold FL.acq FL.acqD
  rw [if_neg (show ¬ f.ph k=0 by omega),if_pos hp,if_neg (show ¬ f.ph k=0 by omega),if_pos hp]
  by_cases q:tellS f.ps u 1 (L.pA (f.nd k))=0
  ·rw [if_pos q,if_pos q]
   exact rl_lock1a h k hk u hp q
  ·rw [if_neg q,if_neg q]
   exact rl_lock1b h k hk u hp q
 ·unfold FL.acq FL.acqD
  rw [if_neg (show ¬ f.ph k=0 by omega),if_neg (show ¬ f.ph k=1 by omega),if_pos hp,if_neg (show ¬ f.ph k=0 by omega),if_neg (show ¬ f.ph k=1 by omega),if_pos hp]
  exact rl_lock2 h k hk u hp (Inn.ev_rng _ _ _ _)
 ·unfold FL.acq FL.acqD
  rw [if_neg (show ¬ f.ph k=0 by omega),if_neg (show ¬ f.ph k=1 by omega),if_neg (show ¬ f.ph k=2 by omega),if_neg (show ¬ f.ph k=0 by omega),if_neg (show ¬ f.ph k=1 by omega),if_neg (show ¬ f.ph k=2 by omega)]
  exact rl_lock3 h k hk u hp
theorem rl_unl (h:MmIn w M bk so cap dv f L) (k:Nat) (hk:k<f.s.n) (u:Int) (hs:f.s.st k=3):
  Calls prog 127 #[.pointer (some ⟨M.r,0,none⟩),.pointer (some ⟨M.pr,0,none⟩),.int .i64 (k:Int),.int .i64 u] w (RkPost w M bk dv (f.rel L k u) (Dd.rval (f.relD L k u))):=by
 rcases h.phu k hk hs with hp|hp|hp|hp|hp|hp
 ·unfold FL.rel FL.relD
  rw [if_pos hp,if_pos hp]
  by_cases q:tellS f.ps u 1 (L.pA (f.nd k))<f.bud
  ·rw [if_pos q]
   exact rl_unl0a h k hk u hp q
  ·rw [if_neg q]
   exact rl_unl0b h k hk u hp q
 ·unfold FL.rel FL.relD
  rw [if_neg (show ¬ f.ph k=0 by omega),if_pos hp,if_neg (show ¬ f.ph k=0 by omega),if_pos hp]
  by_cases q:((f.lk (f.nd k)).did (f.la (f.nd k):Nat) (f.own k:Nat) u).ev=5
  ·rw [if_pos q]
   exact rl_unl1a h k hk u hp q
  ·rw [if_neg q]
   exact rl_unl1b h k hk u hp q
 ·unfold FL.rel FL.relD
  rw [if_neg (show ¬ f.ph k=0 by omega),if_neg (show ¬ f.ph k=1 by omega),if_pos hp,if_neg (show ¬ f.ph k=0 by omega),if_neg (show ¬ f.ph k=1 by omega),if_pos hp]
  exact rl_unl2 h k hk u hp (h.got k hk hs hp)
 ·unfold FL.rel FL.relD
  rw [if_neg (show ¬ f.ph k=0 by omega),if_neg (show ¬ f.ph k=1 by omega),if_neg (show ¬ f.ph k=2 by omega),if_pos hp,if_neg (show ¬ f.ph k=0 by omega),if_neg (show ¬ f.ph k=1 by omega),if_neg (show ¬ f.ph k=2 by omega),if_pos hp]
  exact rl_unl3 h k hk u hp
 ·unfold FL.rel FL.relD
  rw [if_neg (show ¬ f.ph k=0 by omega),if_neg (show ¬ f.ph k=1 by omega),if_neg (show ¬ f.ph k=2 by omega),if_neg (show ¬ f.ph k=3 by omega),if_pos hp,if_neg (show ¬ f.ph k=0 by omega),if_neg (show ¬ f.ph k=1 by omega),if_neg (show ¬ f.ph k=2 by omega),if_neg (show ¬ f.ph k=3 by omega),if_pos hp]
  by_cases q:(f.gl.did (f.ga:Nat) (f.nd k:Nat) u).ev=3
  ·rw [if_pos q]
   exact rl_unl4a h k hk u hp q
  ·rw [if_neg q]
   exact rl_unl4b h k hk u hp q
 ·unfold FL.rel FL.relD
  rw [if_neg (show ¬ f.ph k=0 by omega),if_neg (show ¬ f.ph k=1 by omega),if_neg (show ¬ f.ph k=2 by omega),if_neg (show ¬ f.ph k=3 by omega),if_neg (show ¬ f.ph k=4 by omega),if_neg (show ¬ f.ph k=0 by omega),if_neg (show ¬ f.ph k=1 by omega),if_neg (show ¬ f.ph k=2 by omega),if_neg (show ¬ f.ph k=3 by omega),if_neg (show ¬ f.ph k=4 by omega)]
  exact rl_unl5 h k hk u hp
end
theorem MlRaw.c5 {X:World} {M:Mp} {f:FL} (h:MlRaw X M f) {k:Nat} (hk:k<f.s.n):X.cell? ⟨M.r,0,none⟩=some (.pointer (some ⟨M.sr,0,none⟩))∧X.cell? ⟨M.r,39,none⟩=some (.slice (some ⟨M.nd,M.no,none⟩) f.s.n M.nc)∧X.cell? ⟨M.r,41,none⟩=some (.slice (some ⟨M.ph,0,none⟩) f.s.n f.s.n)∧X.cell? ⟨M.ph,k,none⟩=some (.int .i64 (f.ph k))∧X.frozen? ⟨M.ph,k,none⟩=false:=by
 obtain ⟨κ,p1,p2,p3,hcl⟩:=(M.l (f.nd k)).four
 obtain ⟨κ',q1,q2,q3,hcg⟩:=M.g.four
 have q:=h.cs hk hcl hcg
 exact ⟨q.c0,q.c39,q.c41,q.rp,q.zp⟩
theorem MlRaw.c39 {X:World} {M:Mp} {f:FL} (h:MlRaw X M f):X.cell? ⟨M.r,39,none⟩=some (.slice (some ⟨M.nd,M.no,none⟩) f.s.n M.nc)∧X.cell? ⟨M.r,0,none⟩=some (.pointer (some ⟨M.sr,0,none⟩)):=by
 constructor
 ·rw [blk_cell h.obj,rowB_at _ (by decide)];rfl
 ·rw [blk_cell h.obj,rowB_at _ (by decide)];rfl
theorem end_no {s:SS} {k:Nat} (hk:k<s.n):endI s k 0=0∧s.fin k 0=s∧endB s k 0=false:=by
 have hb:behindI (s.st (k:Int).toNat) 0=none:=by
  unfold behindI
  repeat' split
  all_goals first|rfl|(exfalso;omega)
 have ho:endO s k 0=none:=by unfold endO;rw [if_pos (show 0≤(k:Int)∧(k:Int)<s.n by omega)];exact hb
 have hB:endB s k 0=false:=by unfold endB;rw [ho];rfl
 exact ⟨by unfold endI;rw [hB];rfl,by unfold SS.fin;rw [ho],hB⟩
theorem ml_locke {w:World} {M:Mp} {bk:Nat} {so:Option Addr} {cap:Nat} {dv:Value} {f:FL} {L:Lp} (h:MmIn w M bk so cap dv f L) (k:Nat) (hk:k<f.s.n) (u x:Int) (hs:f.s.st k=1) (he:endI f.s k (f.acqD L k u).ev=1):
  Calls prog 125 #[.pointer (some ⟨M.r,0,none⟩),.pointer (some ⟨M.pr,0,none⟩),.int .i64 (k:Int),.int .i64 u,.int .i64 x] w (RkPost w M bk dv {f.acq L k u with s:=f.s.fin k (f.acqD L k u).ev,ph:=upd (f.acq L k u).ph k 0} (Dd.rval (f.acqD L k u))):=by
 obtain ⟨Z,hZ⟩:∃ Z,Z=(w.alloc (.cells #[.int .i64 0,.int .i64 0,.int .i64 0,.int .i64 0] 136)).alloc (.cells #[.int .i64 0,.int .i64 0,.int .i64 0,.int .i64 0] 136):=⟨_,rfl⟩
 obtain ⟨hF0,hR0,hWZ⟩:=h.start Z hZ
 have i0:(0:Int)≤(k:Int):=by omega
 have i1:(k:Int)<f.s.n:=by omega
 have i2:¬ (k:Int)<0:=by omega
 have i3:¬ (f.s.n:Int)≤(k:Int):=by omega
 have iN:decide (f.s.n≤k)=false:=decide_eq_false (by omega)
 have n1:=h.n1
 have n2:=h.n2
 have b3:=(h.ml.raw.after ((Wr.refl Nil w).alloc (.cells #[.int .i64 0,.int .i64 0,.int .i64 0,.int .i64 0] 136))).c39.1
 obtain ⟨g,cg,hgv,hg⟩:=SrAt.stV hF0.raw.seat (show 0<f.s.n by omega)
 have c0:=hF0.raw.c39.2
 have cs:Z.cell? ⟨M.sr,0,none⟩=some (.slice (some ⟨g,0,none⟩) f.s.n cg):=(SrAt.cell0 hF0.raw.seat).trans (by rw [hgv])
 have ct:=(hg k _ (stL_at f.s hk)).1
 rw [hs] at ct
 have cL:=rl_lock (h.after hWZ) k hk u hs
 have hGs:=(f.acq_s L k u).1
 generalize hGe:f.acq L k u=G at*
 generalize hDe:f.acqD L k u=d at*
 have y0:=blk_frozen hF0.did 0
 have y1:=blk_frozen hF0.did 1
 have y2:=blk_frozen hF0.did 2
 have y3:=blk_frozen hF0.did 3
 obtain ⟨p0,p1,p2,p3⟩:=hF0.dcell
 have HE:=Lib.hid hF0
 have HZ:=Lib.hid hZ
 have HG:=Lib.hid hGs
 have HI:=Lib.hid he
 have HK:=Lib.hid hk
 clear h hF0 hR0 hWZ hs hZ hgv hg hGs hGe hDe he hk
 go_enter func125,ntmps125
 go_upto_region 4 with fail
 rw [←HZ.out]
 clear b3
 go_upto_region 9 with (first|(go_at_call 126;(with_reducible refine cL.mono ?_);intro e w2 hq;unfold RkPost at hq;obtain ⟨rfl,hP⟩:=hq;dsimp only [Dd.rval];have hM:=HE.out.keep (Y:=w2) ⟨hP.raw,hP.ref,HE.out.fp.wr.trans hP.wr (λ_ _ e=>e),HE.out.fp.old,HE.out.fp.bs,HE.out.fp.bw⟩ hP.wr (λ_ e=>e);obtain ⟨p0,p1,p2,p3⟩:=hM.dcell;obtain ⟨y0,y1,y2,y3⟩:=hM.dfrz;have HM:=Lib.hid (hM.setAll d);clear hM hP cL))
 obtain ⟨V,hV⟩:∃ V,V=((((w2.setCell ⟨w.heap.size+1,0,none⟩ (.int .i64 d.ev)).setCell ⟨w.heap.size+1,1,none⟩ (.int .i64 (b2i d.enq))).setCell ⟨w.heap.size+1,2,none⟩ (.int .i64 (b2i d.arr))).setCell ⟨w.heap.size+1,3,none⟩ (.int .i64 (b2i d.lead))):=⟨_,rfl⟩
 rw [←hV]
 have gV:=HM.out
 rw [←hV] at gV
 clear hV HM c0 cs ct p0 p1 p2 p3 y0 y1 y2 y3
 have n0:V.drew.cell? ⟨M.r,0,none⟩=some (.pointer (some ⟨M.sr,0,none⟩)):=gV.raw.c39.2
 have e0:V.drew.cell? ⟨w.heap.size+1,0,none⟩=some (.int .i64 d.ev):=gV.dcell.1
 have cE:=rs_end gV.drew.raw.seat (by show 1≤G.s.n;rw [HG.out];exact n1) (by show G.s.n≤64;rw [HG.out];exact n2) (k:Int) d.ev
 rw [HG.out,HI.out] at cE
 have HX:=Lib.hid gV
 clear gV
 go_region_held3 (λw'=>w'.cell? ⟨M.r,0,none⟩=some (.pointer (some ⟨M.sr,0,none⟩))∧w'.cell? ⟨w.heap.size+1,0,none⟩=some (.int .i64 d.ev)) (first|with_reducible exact ⟨a0,q0⟩|exact ⟨n0,e0⟩) (first|(go_at_call 128;(with_reducible refine cE.mono ?_);intro e w4 hq;have hF4:=HX.out.drew.ends (s':=f.s.fin (k:Int) d.ev) ((SS.fin_n f.s (k:Int) d.ev).trans (congrArg SS.n HG.out.symm)) hq;unfold RsPost at hq;obtain ⟨rfl,_,_⟩:=hq;obtain ⟨q0,q1,q2,q3⟩:=hF4.dcell;have hk4:k<(f.s.fin (k:Int) d.ev).n:=(by rw [SS.fin_n];exact HK.out);obtain ⟨a0,-,a41,ap,az⟩:=hF4.raw.c5 hk4;have a41:w4.cell? ⟨M.r,41,none⟩=some (.slice (some ⟨M.ph,0,none⟩) f.s.n f.s.n):=(by rw [←SS.fin_n f.s (k:Int) d.ev];exact a41);have HT4:=Lib.hid hF4;clear hF4 cE))
 go_upto_region 11 with fail
 clear a0 a41 ap az q0 q1 q2 q3 n0 e0
 generalize hX:World.setCell _ _ _=X at*
 have hT:=HT4.out.setP k 0
 try rw [hX] at hT
 obtain ⟨d0,d1,d2,d3⟩:=(hT).dcell;obtain ⟨y0,y1,y2,y3⟩:=(hT).dfrz;obtain ⟨r0,r1,r2,r3⟩:=(hT).rcell;obtain ⟨t0,t1,t2,t3⟩:=(hT).rfrz
 have HT:=Lib.hid hT
 clear hX hT
 go_wp2
 refine bodyPost_ret (v:=Dd.rval d) (results_cell_row rfl _ _ w.heap.size 136 _ (0,0) _ rfl (set4 HT.out.res rfl _ _ _ _) underlying136 rfl i_did10) rfl HT.out.told
theorem ml_lockn {w:World} {M:Mp} {bk:Nat} {so:Option Addr} {cap:Nat} {dv:Value} {f:FL} {L:Lp} (h:MmIn w M bk so cap dv f L) (k:Nat) (hk:k<f.s.n) (u x:Int) (hs:f.s.st k=1) (he:endI f.s k (f.acqD L k u).ev=0):
  Calls prog 125 #[.pointer (some ⟨M.r,0,none⟩),.pointer (some ⟨M.pr,0,none⟩),.int .i64 (k:Int),.int .i64 u,.int .i64 x] w (RkPost w M bk dv {f.acq L k u with s:=f.s.fin k (f.acqD L k u).ev} (Dd.rval (f.acqD L k u))):=by
 obtain ⟨Z,hZ⟩:∃ Z,Z=(w.alloc (.cells #[.int .i64 0,.int .i64 0,.int .i64 0,.int .i64 0] 136)).alloc (.cells #[.int .i64 0,.int .i64 0,.int .i64 0,.int .i64 0] 136):=⟨_,rfl⟩
 obtain ⟨hF0,hR0,hWZ⟩:=h.start Z hZ
 have i0:(0:Int)≤(k:Int):=by omega
 have i1:(k:Int)<f.s.n:=by omega
 have i2:¬ (k:Int)<0:=by omega
 have i3:¬ (f.s.n:Int)≤(k:Int):=by omega
 have iN:decide (f.s.n≤k)=false:=decide_eq_false (by omega)
 have n1:=h.n1
 have n2:=h.n2
 have b3:=(h.ml.raw.after ((Wr.refl Nil w).alloc (.cells #[.int .i64 0,.int .i64 0,.int .i64 0,.int .i64 0] 136))).c39.1
 obtain ⟨g,cg,hgv,hg⟩:=SrAt.stV hF0.raw.seat (show 0<f.s.n by omega)
 have c0:=hF0.raw.c39.2
 have cs:Z.cell? ⟨M.sr,0,none⟩=some (.slice (some ⟨g,0,none⟩) f.s.n cg):=(SrAt.cell0 hF0.raw.seat).trans (by rw [hgv])
 have ct:=(hg k _ (stL_at f.s hk)).1
 rw [hs] at ct
 have cL:=rl_lock (h.after hWZ) k hk u hs
 have hGs:=(f.acq_s L k u).1
 generalize hGe:f.acq L k u=G at*
 generalize hDe:f.acqD L k u=d at*
 have y0:=blk_frozen hF0.did 0
 have y1:=blk_frozen hF0.did 1
 have y2:=blk_frozen hF0.did 2
 have y3:=blk_frozen hF0.did 3
 obtain ⟨p0,p1,p2,p3⟩:=hF0.dcell
 have HE:=Lib.hid hF0
 have HZ:=Lib.hid hZ
 have HG:=Lib.hid hGs
 have HI:=Lib.hid he
 have HK:=Lib.hid hk
 clear h hF0 hR0 hWZ hs hZ hgv hg hGs hGe hDe he hk
 go_enter func125,ntmps125
 go_upto_region 4 with fail
 rw [←HZ.out]
 clear b3
 go_upto_region 9 with (first|(go_at_call 126;(with_reducible refine cL.mono ?_);intro e w2 hq;unfold RkPost at hq;obtain ⟨rfl,hP⟩:=hq;dsimp only [Dd.rval];have hM:=HE.out.keep (Y:=w2) ⟨hP.raw,hP.ref,HE.out.fp.wr.trans hP.wr (λ_ _ e=>e),HE.out.fp.old,HE.out.fp.bs,HE.out.fp.bw⟩ hP.wr (λ_ e=>e);obtain ⟨p0,p1,p2,p3⟩:=hM.dcell;obtain ⟨y0,y1,y2,y3⟩:=hM.dfrz;have HM:=Lib.hid (hM.setAll d);clear hM hP cL))
 obtain ⟨V,hV⟩:∃ V,V=((((w2.setCell ⟨w.heap.size+1,0,none⟩ (.int .i64 d.ev)).setCell ⟨w.heap.size+1,1,none⟩ (.int .i64 (b2i d.enq))).setCell ⟨w.heap.size+1,2,none⟩ (.int .i64 (b2i d.arr))).setCell ⟨w.heap.size+1,3,none⟩ (.int .i64 (b2i d.lead))):=⟨_,rfl⟩
 rw [←hV]
 have gV:=HM.out
 rw [←hV] at gV
 clear hV HM c0 cs ct p0 p1 p2 p3 y0 y1 y2 y3
 have n0:V.drew.cell? ⟨M.r,0,none⟩=some (.pointer (some ⟨M.sr,0,none⟩)):=gV.raw.c39.2
 have e0:V.drew.cell? ⟨w.heap.size+1,0,none⟩=some (.int .i64 d.ev):=gV.dcell.1
 have cE:=rs_end gV.drew.raw.seat (by show 1≤G.s.n;rw [HG.out];exact n1) (by show G.s.n≤64;rw [HG.out];exact n2) (k:Int) d.ev
 rw [HG.out,HI.out] at cE
 have HX:=Lib.hid gV
 clear gV
 go_region_held3 (λw'=>w'.cell? ⟨M.r,0,none⟩=some (.pointer (some ⟨M.sr,0,none⟩))∧w'.cell? ⟨w.heap.size+1,0,none⟩=some (.int .i64 d.ev)) (first|with_reducible exact ⟨a0,q0⟩|exact ⟨n0,e0⟩) (first|(go_at_call 128;(with_reducible refine cE.mono ?_);intro e w4 hq;have hF4:=HX.out.drew.ends (s':=f.s.fin (k:Int) d.ev) ((SS.fin_n f.s (k:Int) d.ev).trans (congrArg SS.n HG.out.symm)) hq;unfold RsPost at hq;obtain ⟨rfl,_,_⟩:=hq;obtain ⟨q0,q1,q2,q3⟩:=hF4.dcell;have a0:=hF4.raw.c39.2;obtain ⟨d0,d1,d2,d3⟩:=(hF4).dcell;obtain ⟨y0,y1,y2,y3⟩:=(hF4).dfrz;obtain ⟨r0,r1,r2,r3⟩:=(hF4).rcell;obtain ⟨t0,t1,t2,t3⟩:=(hF4).rfrz;have HT:=Lib.hid hF4;clear hF4 cE))
 go_wp2
 refine bodyPost_ret (v:=Dd.rval d) (results_cell_row rfl _ _ w.heap.size 136 _ (0,0) _ rfl (set4 HT.out.res rfl _ _ _ _) underlying136 rfl i_did10) rfl HT.out.told
theorem ml_unle {w:World} {M:Mp} {bk:Nat} {so:Option Addr} {cap:Nat} {dv:Value} {f:FL} {L:Lp} (h:MmIn w M bk so cap dv f L) (k:Nat) (hk:k<f.s.n) (u x:Int) (hs:f.s.st k=3) (he:endI f.s k (f.relD L k u).ev=1):
  Calls prog 125 #[.pointer (some ⟨M.r,0,none⟩),.pointer (some ⟨M.pr,0,none⟩),.int .i64 (k:Int),.int .i64 u,.int .i64 x] w (RkPost w M bk dv {f.rel L k u with s:=f.s.fin k (f.relD L k u).ev,ph:=upd (f.rel L k u).ph k 0} (Dd.rval (f.relD L k u))):=by
 obtain ⟨Z,hZ⟩:∃ Z,Z=(w.alloc (.cells #[.int .i64 0,.int .i64 0,.int .i64 0,.int .i64 0] 136)).alloc (.cells #[.int .i64 0,.int .i64 0,.int .i64 0,.int .i64 0] 136):=⟨_,rfl⟩
 obtain ⟨hF0,hR0,hWZ⟩:=h.start Z hZ
 have i0:(0:Int)≤(k:Int):=by omega
 have i1:(k:Int)<f.s.n:=by omega
 have i2:¬ (k:Int)<0:=by omega
 have i3:¬ (f.s.n:Int)≤(k:Int):=by omega
 have iN:decide (f.s.n≤k)=false:=decide_eq_false (by omega)
 have n1:=h.n1
 have n2:=h.n2
 have b3:=(h.ml.raw.after ((Wr.refl Nil w).alloc (.cells #[.int .i64 0,.int .i64 0,.int .i64 0,.int .i64 0] 136))).c39.1
 obtain ⟨g,cg,hgv,hg⟩:=SrAt.stV hF0.raw.seat (show 0<f.s.n by omega)
 have c0:=hF0.raw.c39.2
 have cs:Z.cell? ⟨M.sr,0,none⟩=some (.slice (some ⟨g,0,none⟩) f.s.n cg):=(SrAt.cell0 hF0.raw.seat).trans (by rw [hgv])
 have ct:=(hg k _ (stL_at f.s hk)).1
 rw [hs] at ct
 have cL:=rl_unl (h.after hWZ) k hk u hs
 have hGs:=(f.rel_s L k u).1
 generalize hGe:f.rel L k u=G at*
 generalize hDe:f.relD L k u=d at*
 have y0:=blk_frozen hF0.did 0
 have y1:=blk_frozen hF0.did 1
 have y2:=blk_frozen hF0.did 2
 have y3:=blk_frozen hF0.did 3
 obtain ⟨p0,p1,p2,p3⟩:=hF0.dcell
 have HE:=Lib.hid hF0
 have HZ:=Lib.hid hZ
 have HG:=Lib.hid hGs
 have HI:=Lib.hid he
 have HK:=Lib.hid hk
 clear h hF0 hR0 hWZ hs hZ hgv hg hGs hGe hDe he hk
 go_enter func125,ntmps125
 go_upto_region 4 with fail
 rw [←HZ.out]
 clear b3
 go_upto_region 9 with (first|(go_at_call 127;(with_reducible refine cL.mono ?_);intro e w2 hq;unfold RkPost at hq;obtain ⟨rfl,hP⟩:=hq;dsimp only [Dd.rval];have hM:=HE.out.keep (Y:=w2) ⟨hP.raw,hP.ref,HE.out.fp.wr.trans hP.wr (λ_ _ e=>e),HE.out.fp.old,HE.out.fp.bs,HE.out.fp.bw⟩ hP.wr (λ_ e=>e);obtain ⟨p0,p1,p2,p3⟩:=hM.dcell;obtain ⟨y0,y1,y2,y3⟩:=hM.dfrz;have HM:=Lib.hid (hM.setAll d);clear hM hP cL))
 obtain ⟨V,hV⟩:∃ V,V=((((w2.setCell ⟨w.heap.size+1,0,none⟩ (.int .i64 d.ev)).setCell ⟨w.heap.size+1,1,none⟩ (.int .i64 (b2i d.enq))).setCell ⟨w.heap.size+1,2,none⟩ (.int .i64 (b2i d.arr))).setCell ⟨w.heap.size+1,3,none⟩ (.int .i64 (b2i d.lead))):=⟨_,rfl⟩
 rw [←hV]
 have gV:=HM.out
 rw [←hV] at gV
 clear hV HM c0 cs ct p0 p1 p2 p3 y0 y1 y2 y3
 have n0:V.drew.cell? ⟨M.r,0,none⟩=some (.pointer (some ⟨M.sr,0,none⟩)):=gV.raw.c39.2
 have e0:V.drew.cell? ⟨w.heap.size+1,0,none⟩=some (.int .i64 d.ev):=gV.dcell.1
 have cE:=rs_end gV.drew.raw.seat (by show 1≤G.s.n;rw [HG.out];exact n1) (by show G.s.n≤64;rw [HG.out];exact n2) (k:Int) d.ev
 rw [HG.out,HI.out] at cE
 have HX:=Lib.hid gV
 clear gV
 go_region_held3 (λw'=>w'.cell? ⟨M.r,0,none⟩=some (.pointer (some ⟨M.sr,0,none⟩))∧w'.cell? ⟨w.heap.size+1,0,none⟩=some (.int .i64 d.ev)) (first|with_reducible exact ⟨a0,q0⟩|exact ⟨n0,e0⟩) (first|(go_at_call 128;(with_reducible refine cE.mono ?_);intro e w4 hq;have hF4:=HX.out.drew.ends (s':=f.s.fin (k:Int) d.ev) ((SS.fin_n f.s (k:Int) d.ev).trans (congrArg SS.n HG.out.symm)) hq;unfold RsPost at hq;obtain ⟨rfl,_,_⟩:=hq;obtain ⟨q0,q1,q2,q3⟩:=hF4.dcell;have hk4:k<(f.s.fin (k:Int) d.ev).n:=(by rw [SS.fin_n];exact HK.out);obtain ⟨a0,-,a41,ap,az⟩:=hF4.raw.c5 hk4;have a41:w4.cell? ⟨M.r,41,none⟩=some (.slice (some ⟨M.ph,0,none⟩) f.s.n f.s.n):=(by rw [←SS.fin_n f.s (k:Int) d.ev];exact a41);have HT4:=Lib.hid hF4;clear hF4 cE))
 go_upto_region 11 with fail
 clear a0 a41 ap az q0 q1 q2 q3 n0 e0
 generalize hX:World.setCell _ _ _=X at*
 have hT:=HT4.out.setP k 0
 try rw [hX] at hT
 obtain ⟨d0,d1,d2,d3⟩:=(hT).dcell;obtain ⟨y0,y1,y2,y3⟩:=(hT).dfrz;obtain ⟨r0,r1,r2,r3⟩:=(hT).rcell;obtain ⟨t0,t1,t2,t3⟩:=(hT).rfrz
 have HT:=Lib.hid hT
 clear hX hT
 go_wp2
 refine bodyPost_ret (v:=Dd.rval d) (results_cell_row rfl _ _ w.heap.size 136 _ (0,0) _ rfl (set4 HT.out.res rfl _ _ _ _) underlying136 rfl i_did10) rfl HT.out.told
theorem ml_unln {w:World} {M:Mp} {bk:Nat} {so:Option Addr} {cap:Nat} {dv:Value} {f:FL} {L:Lp} (h:MmIn w M bk so cap dv f L) (k:Nat) (hk:k<f.s.n) (u x:Int) (hs:f.s.st k=3) (he:endI f.s k (f.relD L k u).ev=0):
  Calls prog 125 #[.pointer (some ⟨M.r,0,none⟩),.pointer (some ⟨M.pr,0,none⟩),.int .i64 (k:Int),.int .i64 u,.int .i64 x] w (RkPost w M bk dv {f.rel L k u with s:=f.s.fin k (f.relD L k u).ev} (Dd.rval (f.relD L k u))):=by
 obtain ⟨Z,hZ⟩:∃ Z,Z=(w.alloc (.cells #[.int .i64 0,.int .i64 0,.int .i64 0,.int .i64 0] 136)).alloc (.cells #[.int .i64 0,.int .i64 0,.int .i64 0,.int .i64 0] 136):=⟨_,rfl⟩
 obtain ⟨hF0,hR0,hWZ⟩:=h.start Z hZ
 have i0:(0:Int)≤(k:Int):=by omega
 have i1:(k:Int)<f.s.n:=by omega
 have i2:¬ (k:Int)<0:=by omega
 have i3:¬ (f.s.n:Int)≤(k:Int):=by omega
 have iN:decide (f.s.n≤k)=false:=decide_eq_false (by omega)
 have n1:=h.n1
 have n2:=h.n2
 have b3:=(h.ml.raw.after ((Wr.refl Nil w).alloc (.cells #[.int .i64 0,.int .i64 0,.int .i64 0,.int .i64 0] 136))).c39.1
 obtain ⟨g,cg,hgv,hg⟩:=SrAt.stV hF0.raw.seat (show 0<f.s.n by omega)
 have c0:=hF0.raw.c39.2
 have cs:Z.cell? ⟨M.sr,0,none⟩=some (.slice (some ⟨g,0,none⟩) f.s.n cg):=(SrAt.cell0 hF0.raw.seat).trans (by rw [hgv])
 have ct:=(hg k _ (stL_at f.s hk)).1
 rw [hs] at ct
 have cL:=rl_unl (h.after hWZ) k hk u hs
 have hGs:=(f.rel_s L k u).1
 generalize hGe:f.rel L k u=G at*
 generalize hDe:f.relD L k u=d at*
 have y0:=blk_frozen hF0.did 0
 have y1:=blk_frozen hF0.did 1
 have y2:=blk_frozen hF0.did 2
 have y3:=blk_frozen hF0.did 3
 obtain ⟨p0,p1,p2,p3⟩:=hF0.dcell
 have HE:=Lib.hid hF0
 have HZ:=Lib.hid hZ
 have HG:=Lib.hid hGs
 have HI:=Lib.hid he
 have HK:=Lib.hid hk
 clear h hF0 hR0 hWZ hs hZ hgv hg hGs hGe hDe he hk
 go_enter func125,ntmps125
 go_upto_region 4 with fail
 rw [←HZ.out]
 clear b3
 go_upto_region 9 with (first|(go_at_call 127;(with_reducible refine cL.mono ?_);intro e w2 hq;unfold RkPost at hq;obtain ⟨rfl,hP⟩:=hq;dsimp only [Dd.rval];have hM:=HE.out.keep (Y:=w2) ⟨hP.raw,hP.ref,HE.out.fp.wr.trans hP.wr (λ_ _ e=>e),HE.out.fp.old,HE.out.fp.bs,HE.out.fp.bw⟩ hP.wr (λ_ e=>e);obtain ⟨p0,p1,p2,p3⟩:=hM.dcell;obtain ⟨y0,y1,y2,y3⟩:=hM.dfrz;have HM:=Lib.hid (hM.setAll d);clear hM hP cL))
 obtain ⟨V,hV⟩:∃ V,V=((((w2.setCell ⟨w.heap.size+1,0,none⟩ (.int .i64 d.ev)).setCell ⟨w.heap.size+1,1,none⟩ (.int .i64 (b2i d.enq))).setCell ⟨w.heap.size+1,2,none⟩ (.int .i64 (b2i d.arr))).setCell ⟨w.heap.size+1,3,none⟩ (.int .i64 (b2i d.lead))):=⟨_,rfl⟩
 rw [←hV]
 have gV:=HM.out
 rw [←hV] at gV
 clear hV HM c0 cs ct p0 p1 p2 p3 y0 y1 y2 y3
 have n0:V.drew.cell? ⟨M.r,0,none⟩=some (.pointer (some ⟨M.sr,0,none⟩)):=gV.raw.c39.2
 have e0:V.drew.cell? ⟨w.heap.size+1,0,none⟩=some (.int .i64 d.ev):=gV.dcell.1
 have cE:=rs_end gV.drew.raw.seat (by show 1≤G.s.n;rw [HG.out];exact n1) (by show G.s.n≤64;rw [HG.out];exact n2) (k:Int) d.ev
 rw [HG.out,HI.out] at cE
 have HX:=Lib.hid gV
 clear gV
 go_region_held3 (λw'=>w'.cell? ⟨M.r,0,none⟩=some (.pointer (some ⟨M.sr,0,none⟩))∧w'.cell? ⟨w.heap.size+1,0,none⟩=some (.int .i64 d.ev)) (first|with_reducible exact ⟨a0,q0⟩|exact ⟨n0,e0⟩) (first|(go_at_call 128;(with_reducible refine cE.mono ?_);intro e w4 hq;have hF4:=HX.out.drew.ends (s':=f.s.fin (k:Int) d.ev) ((SS.fin_n f.s (k:Int) d.ev).trans (congrArg SS.n HG.out.symm)) hq;unfold RsPost at hq;obtain ⟨rfl,_,_⟩:=hq;obtain ⟨q0,q1,q2,q3⟩:=hF4.dcell;have a0:=hF4.raw.c39.2;obtain ⟨d0,d1,d2,d3⟩:=(hF4).dcell;obtain ⟨y0,y1,y2,y3⟩:=(hF4).dfrz;obtain ⟨r0,r1,r2,r3⟩:=(hF4).rcell;obtain ⟨t0,t1,t2,t3⟩:=(hF4).rfrz;have HT:=Lib.hid hF4;clear hF4 cE))
 go_wp2
 refine bodyPost_ret (v:=Dd.rval d) (results_cell_row rfl _ _ w.heap.size 136 _ (0,0) _ rfl (set4 HT.out.res rfl _ _ _ _) underlying136 rfl i_did10) rfl HT.out.told
theorem ml_idle {w:World} {M:Mp} {bk:Nat} {so:Option Addr} {cap:Nat} {dv:Value} {f:FL} {L:Lp} (h:MmIn w M bk so cap dv f L) (k:Nat) (hk:k<f.s.n) (u x:Int) (s1:f.s.st k≠1) (s3:f.s.st k≠3):
  Calls prog 125 #[.pointer (some ⟨M.r,0,none⟩),.pointer (some ⟨M.pr,0,none⟩),.int .i64 (k:Int),.int .i64 u,.int .i64 x] w (RkPost w M bk dv {f with s:=f.s.fin k Dd.no.ev} (Dd.rval Dd.no)):=by
 obtain ⟨Z,hZ⟩:∃ Z,Z=(w.alloc (.cells #[.int .i64 0,.int .i64 0,.int .i64 0,.int .i64 0] 136)).alloc (.cells #[.int .i64 0,.int .i64 0,.int .i64 0,.int .i64 0] 136):=⟨_,rfl⟩
 obtain ⟨hF0,hR0,hWZ⟩:=h.start Z hZ
 have i0:(0:Int)≤(k:Int):=by omega
 have i1:(k:Int)<f.s.n:=by omega
 have i2:¬ (k:Int)<0:=by omega
 have i3:¬ (f.s.n:Int)≤(k:Int):=by omega
 have iN:decide (f.s.n≤k)=false:=decide_eq_false (by omega)
 have n1:=h.n1
 have n2:=h.n2
 have b3:=(h.ml.raw.after ((Wr.refl Nil w).alloc (.cells #[.int .i64 0,.int .i64 0,.int .i64 0,.int .i64 0] 136))).c39.1
 obtain ⟨g,cg,hgv,hg⟩:=SrAt.stV hF0.raw.seat (show 0<f.s.n by omega)
 have c0:=hF0.raw.c39.2
 have cs:Z.cell? ⟨M.sr,0,none⟩=some (.slice (some ⟨g,0,none⟩) f.s.n cg):=(SrAt.cell0 hF0.raw.seat).trans (by rw [hgv])
 have ct:=(hg k _ (stL_at f.s hk)).1
 generalize f.s.st k=sv at*
 have sd1:decide (sv=1)=false:=decide_eq_false s1
 have sd3:decide (sv=3)=false:=decide_eq_false s3
 have HZ:=Lib.hid hZ
 have gV:=hF0
 have HG:=Lib.hid (show f.s=f.s from rfl)
 have he:endI f.s k 0=0:=(end_no hk).1
 obtain ⟨d,hd⟩:∃ d:Dd,d=Dd.no:=⟨_,rfl⟩
 have HK:=Lib.hid hk
 clear h hF0 hR0 hWZ hZ hgv hg hk
 go_enter func125,ntmps125
 go_upto_region 4 with fail
 rw [←HZ.out]
 clear b3
 go_upto_region 9 with fail
 clear c0 cs ct
 obtain ⟨V,hV⟩:∃ V,V=Z:=⟨_,rfl⟩
 rw [←hV] at gV ⊢
 clear hV
 have n0:V.drew.cell? ⟨M.r,0,none⟩=some (.pointer (some ⟨M.sr,0,none⟩)):=gV.raw.c39.2
 have e0:V.drew.cell? ⟨w.heap.size+1,0,none⟩=some (.int .i64 0):=gV.dcell.1
 have cE:=rs_end gV.drew.raw.seat n1 n2 (k:Int) 0
 rw [he] at cE
 have HX:=Lib.hid gV
 clear gV he hd
 go_region_held3 (λw'=>w'.cell? ⟨M.r,0,none⟩=some (.pointer (some ⟨M.sr,0,none⟩))∧w'.cell? ⟨w.heap.size+1,0,none⟩=some (.int .i64 0)) (first|with_reducible exact ⟨a0,q0⟩|exact ⟨n0,e0⟩) (first|(go_at_call 128;(with_reducible refine cE.mono ?_);intro e w4 hq;have hF4:=HX.out.drew.ends (s':=f.s.fin (k:Int) 0) ((SS.fin_n f.s (k:Int) 0)) hq;unfold RsPost at hq;obtain ⟨rfl,_,_⟩:=hq;obtain ⟨q0,q1,q2,q3⟩:=hF4.dcell;have q0:w4.cell? ⟨w.heap.size+1,0,none⟩=some (.int .i64 0):=q0;have a0:=hF4.raw.c39.2;obtain ⟨d0,d1,d2,d3⟩:=(hF4).dcell;obtain ⟨y0,y1,y2,y3⟩:=(hF4).dfrz;obtain ⟨r0,r1,r2,r3⟩:=(hF4).rcell;obtain ⟨t0,t1,t2,t3⟩:=(hF4).rfrz;have HT:=Lib.hid hF4;clear hF4 cE))
 go_wp2
 refine bodyPost_ret (v:=Dd.rval Dd.no) (results_cell_row rfl _ _ w.heap.size 136 _ (0,0) _ rfl (set4 HT.out.res rfl _ _ _ _) underlying136 rfl i_did10) rfl HT.out.told
theorem ml_out {w:World} {M:Mp} {bk:Nat} {so:Option Addr} {cap:Nat} {dv:Value} {f:FL} {L:Lp} (h:MmIn w M bk so cap dv f L) (t:Int) (ht:¬ (0≤t∧t<f.s.n)) (u x:Int):
  Calls prog 125 #[.pointer (some ⟨M.r,0,none⟩),.pointer (some ⟨M.pr,0,none⟩),.int .i64 t,.int .i64 u,.int .i64 x] w (RkPost w M bk dv f Dd.no.rval):=by
 have n2:=h.n2
 have kk:Wr Nil w (w.alloc (.cells #[.int .i64 0,.int .i64 0,.int .i64 0,.int .i64 0] 136)):=(Wr.refl _ w).alloc _
 have b2:=(h.ml.raw.after kk).c39.1
 have hB:=blk_alloc_new w (.cells #[.int .i64 0,.int .i64 0,.int .i64 0,.int .i64 0] 136)
 have HE:=Lib.hid (And.intro (h.fp.after kk) hB)
 clear h kk hB
 by_cases h0:t<0
 ·go_enter func125,ntmps125
  go_wp2
  refine bodyPost_ret (v:=Dd.rval Dd.no) (results_cell_row rfl _ _ w.heap.size 136 _ (0,0) _ rfl HE.out.2 underlying136 rfl i_did10) rfl ⟨rfl,HE.out.1⟩
 ·have h1:(f.s.n:Int)≤t:=by omega
  clear ht
  generalize f.s.n=n at*
  go_enter func125,ntmps125
  go_wp2
  refine bodyPost_ret (v:=Dd.rval Dd.no) (results_cell_row rfl _ _ w.heap.size 136 _ (0,0) _ rfl HE.out.2 underlying136 rfl i_did10) rfl ⟨rfl,HE.out.1⟩
def MmPost (w:World) (M:Mp) (bk:Nat) (dv:Value) (f:FL) (d:Dd) (e:Ending) (w':World):Prop:=
 e= .returned d.rval∧MlAt w' M f∧RefSt w' M.base M.pr f.ps∧Wr (MG M bk dv) w w'
theorem rk_mm {w w':World} {M:Mp} {bk:Nat} {dv:Value} {f g:FL} {d:Dd} {e:Ending} (hs:StM M f) (hg:g.bud=f.bud∧g.ga=f.ga∧g.la=f.la) (h:RkPost w M bk dv g d.rval e w'):MmPost w M bk dv g d e w':=
 ⟨h.1,⟨h.2.raw,⟨hs.a0,by rw [hg.1];exact hs.bud,by rw [hg.2.1];exact hs.gq,by rw [hg.2.2];exact hs.lq⟩⟩,h.2.ref,h.2.wr⟩
theorem acq_st (f:FL) (L:Lp) (t:Nat) (u:Int):(f.acq L t u).bud=f.bud∧(f.acq L t u).ga=f.ga∧(f.acq L t u).la=f.la:=by unfold FL.acq;repeat' split<;>try exact ⟨rfl,rfl,rfl⟩
theorem rel_st (f:FL) (L:Lp) (t:Nat) (u:Int):(f.rel L t u).bud=f.bud∧(f.rel L t u).ga=f.ga∧(f.rel L t u).la=f.la:=by unfold FL.rel;repeat' split<;>try exact ⟨rfl,rfl,rfl⟩
theorem endI_B (s:SS) (t ev:Int):(endB s t ev=true→endI s t ev=1)∧(endB s t ev=false→endI s t ev=0):=by
 unfold endI
 constructor
 ·intro e;rw [if_pos e]
 ·intro e;rw [if_neg (by rw [e];decide)]
theorem mm_step {w:World} {M:Mp} {bk:Nat} {so:Option Addr} {cap:Nat} {dv:Value} {f:FL} {L:Lp} (h:MmIn w M bk so cap dv f L) (t u x:Int):
  Calls prog 125 #[.pointer (some ⟨M.r,0,none⟩),.pointer (some ⟨M.pr,0,none⟩),.int .i64 t,.int .i64 u,.int .i64 x] w (MmPost w M bk dv (f.step L t u) (f.did L t u)):=by
 by_cases ht:0≤t∧t<f.s.n
 ·obtain ⟨k,rfl⟩:=Int.eq_ofNat_of_zero_le ht.1
  have hk:k<f.s.n:=by omega
  by_cases s1:f.s.st k=1
  ·have ed:f.did L k u=f.acqD L k u:=by unfold FL.did;rw [if_pos ht,Int.toNat_natCast,if_pos s1]
   have em:f.mid L k u=f.acq L k u:=by unfold FL.mid;rw [if_pos ht,Int.toNat_natCast,if_pos s1]
   cases hB:endB f.s k (f.acqD L k u).ev
   ·have es:f.step L k u={f.acq L k u with s:=f.s.fin k (f.acqD L k u).ev}:=by unfold FL.step;rw [ed,em,if_neg (by rw [hB];decide)]
    rw [ed,es]
    exact (ml_lockn h k hk u x s1 ((endI_B _ _ _).2 hB)).mono λe w' q=>rk_mm h.ml.st (acq_st f L k u) q
   ·have es:f.step L k u={f.acq L k u with s:=f.s.fin k (f.acqD L k u).ev,ph:=upd (f.acq L k u).ph k 0}:=by unfold FL.step;rw [ed,em,if_pos hB,Int.toNat_natCast]
    rw [ed,es]
    exact (ml_locke h k hk u x s1 ((endI_B _ _ _).1 hB)).mono λe w' q=>rk_mm h.ml.st (acq_st f L k u) q
  ·by_cases s3:f.s.st k=3
   ·have ed:f.did L k u=f.relD L k u:=by unfold FL.did;rw [if_pos ht,Int.toNat_natCast,if_neg s1,if_pos s3]
    have em:f.mid L k u=f.rel L k u:=by unfold FL.mid;rw [if_pos ht,Int.toNat_natCast,if_neg s1,if_pos s3]
    cases hB:endB f.s k (f.relD L k u).ev
    ·have es:f.step L k u={f.rel L k u with s:=f.s.fin k (f.relD L k u).ev}:=by unfold FL.step;rw [ed,em,if_neg (by rw [hB];decide)]
     rw [ed,es]
     exact (ml_unln h k hk u x s3 ((endI_B _ _ _).2 hB)).mono λe w' q=>rk_mm h.ml.st (rel_st f L k u) q
    ·have es:f.step L k u={f.rel L k u with s:=f.s.fin k (f.relD L k u).ev,ph:=upd (f.rel L k u).ph k 0}:=by unfold FL.step;rw [ed,em,if_pos hB,Int.toNat_natCast]
     rw [ed,es]
     exact (ml_unle h k hk u x s3 ((endI_B _ _ _).1 hB)).mono λe w' q=>rk_mm h.ml.st (rel_st f L k u) q
   ·have ed:f.did L k u=Dd.no:=by unfold FL.did;rw [if_pos ht,Int.toNat_natCast,if_neg s1,if_neg s3]
    have em:f.mid L k u=f:=by unfold FL.mid;rw [if_pos ht,Int.toNat_natCast,if_neg s1,if_neg s3]
    have es:f.step L k u={f with s:=f.s.fin k Dd.no.ev}:=by unfold FL.step;rw [ed,em,if_neg (by rw [show Dd.no.ev=0 from rfl,(end_no hk).2.2];decide)]
    rw [ed,es]
    exact (ml_idle h k hk u x s1 s3).mono λe w' q=>rk_mm h.ml.st ⟨rfl,rfl,rfl⟩ q
 ·have ed:f.did L t u=Dd.no:=by unfold FL.did;rw [if_neg ht]
  have em:f.mid L t u=f:=by unfold FL.mid;rw [if_neg ht]
  have e0:endO f.s t Dd.no.ev=none:=by unfold endO;rw [if_neg ht]
  have es:f.step L t u=f:=by
   unfold FL.step
   rw [ed,em,if_neg (by unfold endB;rw [e0];decide)]
   unfold SS.fin
   rw [e0]
  rw [ed,es]
  exact (ml_out h t ht u x).mono λe w' q=>rk_mm h.ml.st ⟨rfl,rfl,rfl⟩ q
theorem ml_seats {w:World} {M:Mp} {f:FL} (h:MlRaw w M f):Calls prog 124 #[.pointer (some ⟨M.r,0,none⟩)] w λe w'=>e= .returned (.pointer (some ⟨M.sr,0,none⟩))∧w=w':=by
 have c0:=h.c39.2
 clear h
 go_enter func124,ntmps124
 go_wp2
 go_ret
 exact ⟨rfl,rfl⟩
theorem mm_in {w:World} {M:Mp} {bk:Nat} {so:Option Addr} {cap:Nat} {dv:Value} {f:FL} {L:Lp} {W:List Nat} (hl:LkAt w L f) (ml:MlAt w M f) (hr:RefAt w M.base M.pr bk so cap dv f.ps) (hO:OrdI f W)
  (n1:1≤f.s.n) (hD:f.ps.D.length<1000000) (hws:f.ps.ws.length≤4096) (hb:M.base≤w.heap.size) (ha:M.a=0) (l1:L.a1=0) (l2:L.a2=1):MmIn w M bk so cap dv f L:=by
 obtain ⟨_,ga,la,H,V,gg,Wg,ho⟩:=hO
 have hac:=ho.ac
 have h8:=ho.n8
 have hbud:=ho.bud
 refine ⟨ml,hr,n1,by omega,hD,hws,by omega,hb,l1,by omega,⟨⟨gg,Wg,by rw [ho.adr.1];exact ho.glo⟩,hl.lk.raw.glo.rng',ho.gn,hl.lk.raw.glo.pr⟩,λt ht=> ?_,λt ht hs=> ?_,λt ht hs=> ?_,λt ht hs hp=> ?_⟩
 ·obtain ⟨c8,hh⟩:=hl.lk.raw.nod t ht
  exact ⟨⟨H (f.nd t),V (f.nd t),by rw [ho.adr.2];exact ho.loc t ht⟩,(hl.lk.raw.loc _ c8 hh).rng',ho.own t ht,(hl.lk.raw.loc _ c8 hh).pr⟩
 ·have:=ho.cor.cx t ht
  cases this<;>omega
 ·have:=ho.cor.cx t ht
  cases this<;>omega
 ·have:=ho.cor.cx t ht
  cases this<;>omega
theorem two_1 (w:World) (A B:Obj):((w.alloc A).alloc B).heap[w.heap.size+1]? =some B:=by
 rw [←nblk_alloc w A,blk_alloc_new]
theorem i_rid:(prog.info? 136).map (·.size)=some 4:=i_did10
theorem acc_do (s:PSta) (t K a old v:Int):cntI (doS s t K a old v).ac t≤cntI s.ac t+1∧cntI s.ac t≤cntI (doS s t K a old v).ac t:=by
 unfold doS
 split
 ·show cntI (bump s.ac t.toNat true) t≤_∧_≤cntI (bump s.ac t.toNat true) t
  unfold cntI bump
  by_cases h0:0≤t
  ·rw [if_pos h0,if_pos h0,if_pos rfl]
   by_cases hl:t.toNat<s.ac.length
   ·rw [show (s.ac.set t.toNat (s.ac.getD t.toNat 0+1)).getD t.toNat 0=s.ac.getD t.toNat 0+1 by simp [hl]]
    omega
   ·rw [List.set_eq_of_length_le (by omega)]
    omega
  ·rw [if_neg h0,if_neg h0];omega
 ·omega
theorem acc_mid (f:FL) (L:Lp) (t:Int):cntI (f.mid L t t).ps.ac t≤cntI f.ps.ac t+1∧cntI f.ps.ac t≤cntI (f.mid L t t).ps.ac t:=by
 have h:=f.step_one L t t
 have h:OneS f.ps (f.mid L t t).ps t:=h
 rcases h with e|⟨K,a,o,v,e⟩
 ·rw [e];omega
 ·rw [e];exact acc_do _ _ _ _ _ _
end Go.Proofs.YtkmikkjjnbikdaaGreat

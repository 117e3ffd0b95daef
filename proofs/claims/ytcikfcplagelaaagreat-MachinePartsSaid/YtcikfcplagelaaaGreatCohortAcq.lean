import Derived.Test.YtcikfcplagelaaaGreatRow8
import Derived.Laws.EntriesVeiled
namespace Go.Proofs.YtcikfcplagelaaaGreat
set_option maxHeartbeats 8000000
open _root_.Go.Proofs.Tryz
open Go.RowKit Go.BigFrame
set_option linter.unusedVariables false
set_option maxRecDepth 100000
structure Fd (w:World) (B:Nat) (X:World) (L:Lp) (f:FL) (nx:Nat→Value) (C:Nat) (d:Dd):Prop where
 fr:Fr w B X L f nx
 did:X.heap[C]? =some (.cells (didC d) 228 (0,0))
 far:w.heap.size≤C
 ne:C≠B
section
variable {w X Y:World} {B C:Nat} {L:Lp} {f g f0:FL} {nx nx' nx0:Nat→Value} {d:Dd}
theorem Fd.cell (h:Fd w B X L f nx C d):X.cell? ⟨C,0,none⟩=some (.int .i64 d.ev)∧X.cell? ⟨C,1,none⟩=some (.bool d.enq)∧X.cell? ⟨C,2,none⟩=some (.bool d.arr)∧X.cell? ⟨C,3,none⟩=some (.bool d.lead):=by
 rw [blk_cell h.did,blk_cell h.did,blk_cell h.did,blk_cell h.did];exact ⟨rfl,rfl,rfl,rfl⟩
theorem Fd.frz (h:Fd w B X L f nx C d):X.frozen? ⟨C,0,none⟩=false∧X.frozen? ⟨C,1,none⟩=false∧X.frozen? ⟨C,2,none⟩=false∧X.frozen? ⟨C,3,none⟩=false:=
 ⟨blk_frozen h.did 0,blk_frozen h.did 1,blk_frozen h.did 2,blk_frozen h.did 3⟩
theorem Fd.call (h0:LkM w L f0 nx0) (h:Fd w B X L f nx C d) (hl:LkM Y L g nx') (k:Wr (LF L) X Y):Fd w B Y L g nx' C d:=
 ⟨Fr.call h0 h.fr hl k,(k.block C (blk_lt h.did) (λe=>by have:=h0.lf_lt e;have:=h.far;omega)).trans h.did,h.far,h.ne⟩
theorem Fd.keep (h0:LkM w L f0 nx0) (h:Fd w B X L f nx C d) (d':Dd):
  Fd w B ((((X.setCell ⟨C,0,none⟩ (.int .i64 d'.ev)).setCell ⟨C,1,none⟩ (.bool d'.enq)).setCell ⟨C,2,none⟩ (.bool d'.arr)).setCell ⟨C,3,none⟩ (.bool d'.lead)) L f nx C d':=by
 have k:=wrote4 X C (.int .i64 d'.ev) (.bool d'.enq) (.bool d'.arr) (.bool d'.lead)
 have hf:=h.far
 have hC:∀ j,j<w.heap.size→¬ One C j:=λj hj e=>by cases e;omega
 refine ⟨⟨h.fr.lk.wrote k (λb b2=>hC b (Nat.lt_of_lt_of_le b2 h0.top)),h.fr.wr.trans k λb hb e=>(hC b hb e).elim,(k.block B (blk_lt h.fr.res) λe=>h.ne e.symm).trans h.fr.res,h.fr.new⟩,set4 h.did rfl _ _ _ _,h.far,h.ne⟩
theorem Fr.did {C:Nat} (h:Fr w B X L f nx) (hC:X.heap.size=C):Fd w B (X.alloc (.cells #[.int .i64 0,.bool false,.bool false,.bool false] 228)) L f nx C Dd.no:=by
 subst hC
 exact ⟨h.after ((Wr.refl _ X).alloc _),Go.Deep.blk_alloc_new X _,h.wr.size,λe=>by have:=blk_lt h.res;omega⟩
theorem Fr.laid (h:Fr w B X L f nx) (d:Dd):Fd w B (X.alloc (.cells #[.int .i64 d.ev,.bool d.enq,.bool d.arr,.bool d.lead] 228)) L f nx X.heap.size d:=
 ⟨h.after ((Wr.refl _ X).alloc _),Go.Deep.blk_alloc_new X _,h.wr.size,λe=>by have:=blk_lt h.res;omega⟩
theorem Fd.after (h:Fd w B X L f nx C d) (k:Wr Nil X Y):Fd w B Y L f nx C d:=⟨h.fr.after k,(k.block C (blk_lt h.did) id).trans h.did,h.far,h.ne⟩
end
theorem lm_lstep {w X:World} {L:Lp} {f:FL} {nx:Nat→Value} (h:LkM w L f nx) {k:Nat} (hk:k<f.s.n) (u y:Int) (hD:f.ps.D.length<4611686018427387904):
  Calls prog (f.Lc (f.nd k)).stepF #[.pointer (some ⟨(L.li (f.nd k)).lb,0,none⟩),.int .i64 (f.own k:Nat),.int .i64 u,.int .i64 y] w
   (LmPost w L {f with Lc:=upd f.Lc (f.nd k) ((f.lk (f.nd k)).step (f.la (f.nd k):Nat) (f.own k:Nat) u),ps:=((f.lk (f.nd k)).step (f.la (f.nd k):Nat) (f.own k:Nat) u).ps} nx ((f.lk (f.nd k)).did (f.la (f.nd k):Nat) (f.own k:Nat) u).val):=by
 obtain ⟨n1,n2⟩:=h.raw.nod k hk
 have ha:=h.raw.adr.2.2 _ n1 n2
 refine (in_step (h.raw.loc _ n1 n2) h.port (h.far.2 _ n1 n2) h.top (f.own k:Nat) u y hD).mono ?_
 rintro e w' ⟨rfl,h1,h2,h3⟩
 rw [ha] at h1 h2 ⊢
 exact ⟨rfl,h.loclS n1 n2 h1 h2 h3,lf_lq h n1 n2 h3⟩
theorem fl_queues {w:World} {L:Lp} {f:FL} {nx:Nat→Value} (h:LkM w L f nx) {k:Nat} (hk:k<f.s.n) (u:Int) (hD:f.ps.D.length<4611686018427387904):
  Calls prog 138 #[.pointer (some ⟨L.lb,0,none⟩),.pointer (some ⟨L.tb,k*4,none⟩),.int .i64 u] w
   (LmPost w L {f with Lc:=upd f.Lc (f.nd k) ((f.lk (f.nd k)).step (f.la (f.nd k):Nat) (f.own k:Nat) u),ps:=((f.lk (f.nd k)).step (f.la (f.nd k):Nat) (f.own k:Nat) u).ps}
     (if ((f.lk (f.nd k)).did (f.la (f.nd k):Nat) (f.own k:Nat) u).ev=1 then upd nx k (.func (.func 143) #[] #[]) else nx)
     (Dd.val ⟨0,((f.lk (f.nd k)).did (f.la (f.nd k):Nat) (f.own k:Nat) u).enq,false,false⟩)):=by
 have hF:=Fr.start h
 obtain ⟨n1,n2⟩:=h.raw.nod k hk
 obtain ⟨Z,hZ⟩:∃ Z,Z=w.alloc (.cells #[.int .i64 0,.bool false,.bool false,.bool false] 228):=⟨_,rfl⟩
 rw [←hZ] at hF
 have r1:=hF.lk.raw.cx1 hk
 have ne1:¬ Z.heap.size=L.tb:=by have:=blk_lt hF.lk.raw.tick;omega
 have ne2:¬ L.tb=Z.heap.size:=by have:=blk_lt hF.lk.raw.tick;omega
 have cL:=λW (q:Wr Nil Z W)=>fl_local (hF.lk.after q) hk
 have vS:=(hF.lk.raw.loc _ n1 n2).via_step
 have nS:=(hF.lk.raw.loc _ n1 n2).nil_step
 have cI:=λW (q:Wr Nil Z W)=>lm_lstep (X:=w) (hF.lk.after q) hk u 0 hD
 generalize ((f.lk (f.nd k)).step (f.la (f.nd k):Nat) (f.own k:Nat) u)=x' at*
 generalize ((f.lk (f.nd k)).did (f.la (f.nd k):Nat) (f.own k:Nat) u)=d at*
 have hF3:=(f.Lc (f.nd k)).step_enter
 generalize (f.Lc (f.nd k)).stepF=F at*
 unfold Ip.val at cL
 have HE:=Lib.hid (And.intro h (And.intro hk hF))
 have HZ:=Lib.hid hZ
 clear h hF hZ n1 n2
 obtain ⟨f',hf'⟩:∃ f',f'=({f with Lc:=upd f.Lc (f.nd k) x',ps:=x'.ps}:FL):=⟨_,rfl⟩
 rw [←hf'] at cI
 rw [←hf']
 have hk':k<f'.s.n:=by rw [hf'];exact hk
 have how:f'.own=f.own:=by rw [hf']
 clear hf'
 obtain ⟨nx',hnx⟩:∃ nx',nx'=(if d.ev=1 then upd nx k (.func (.func 143) #[] #[]) else nx):=⟨_,rfl⟩
 rw [←hnx]
 have HH:=Lib.hid (And.intro hk' (And.intro how hnx))
 clear hk' how hnx
 go_enter func138,ntmps138
 go_wp2
 rw [←HZ.out]
 go_cut [7] from 8 to 19 (λv7 wx=>∃ C,v7= .pointer (some ⟨C,0,none⟩)∧Fd w w.heap.size wx L f' nx C d)
 case first=>
  go_region_held3 (λw'=>w'.cell? ⟨L.tb,k*4+1,none⟩=some (.int .i64 (f.own k:Nat))) (first|exact r1|go_keep) (first
   |(go_at_call 137;(first|(with_reducible refine (cL _ ((Wr.refl _ _).drew)).mono ?_)|(with_reducible refine (cL _ (((Wr.refl _ _).alloc _).drew)).mono ?_));rintro e w1 ⟨rfl,n,rfl⟩)
   |((first|(with_reducible refine (cI _ ((Wr.refl _ _).drewN _)).mono ?_)|(with_reducible refine (cI _ (((Wr.refl _ _).drewN _).alloc _)).mono ?_)|(with_reducible refine (cI _ (((Wr.refl _ _).alloc _).drewN _)).mono ?_));intro e w2 hq;unfold LmPost at hq;obtain ⟨rfl,hA,hW⟩:=hq;dsimp only [Dd.val];have r1:=hA.raw.cx1 HH.out.1;rw [HH.out.2.1] at r1;first
    |(have hT:=Fd.call (C:=Z.heap.size) HE.out.1 (Fd.after (Fr.did HE.out.2.2 rfl) ((Wr.refl _ _).drewN _)) hA hW;obtain ⟨p0,p1,p2,p3⟩:=hT.cell;obtain ⟨y0,y1,y2,y3⟩:=hT.frz;have HT:=Lib.hid hT;clear hT)
    |(have hT:=Fd.call (C:=Z.heap.size) HE.out.1 (Fr.did (HE.out.2.2.after ((Wr.refl _ _).drewN _)) rfl) hA hW;obtain ⟨p0,p1,p2,p3⟩:=hT.cell;obtain ⟨y0,y1,y2,y3⟩:=hT.frz;have HT:=Lib.hid hT;clear hT)
    |have HT:=Lib.hid (Fr.call HE.out.1 (HE.out.2.2.after ((Wr.refl _ _).drewN _)) hA hW)))
  all_goals
   go_wp2
   go_meet
   first
    |exact ⟨_,rfl,HT.out.keep HE.out.1 d⟩
    |exact ⟨_,rfl,HT.out.laid d⟩
 case rest=>
  obtain ⟨C,rfl,hK⟩:=hcut
  obtain ⟨p0,p1,p2,p3⟩:=hK.cell
  obtain ⟨v0,v1,v2,v3⟩:=hK.fr.cell
  obtain ⟨x0,x1,x2,x3⟩:=hK.fr.frz
  by_cases e1:d.ev=1
  ·have e2:=HH.out.2.2
   rw [if_pos e1] at e2
   rw [e1] at p0
   have cN:=hK.fr.lk.raw.cx2 HH.out.1
   have zN:=hK.fr.lk.raw.cxz (k*4+2)
   obtain ⟨hN,hW⟩:=hK.fr.lk.setN k (.func (.func 143) #[] #[])
   have hK2:=hK.call HE.out.1 hN (lf_t hK.fr.lk hW)
   rw [←e2] at hK2
   clear e2
   obtain ⟨P0,P1,P2,P3⟩:=hK2.cell
   obtain ⟨V0,V1,V2,V3⟩:=hK2.fr.cell
   obtain ⟨X0,X1,X2,X3⟩:=hK2.fr.frz
   have HT:=Lib.hid hK2
   clear hK hK2 hN hW
   go_wp2
   refine bodyPost_ret (v:=Dd.val ⟨0,d.enq,false,false⟩) (results_cell_row rfl _ _ w.heap.size 228 _ (0,0) _ rfl (set4 HT.out.fr.res rfl _ _ _ _) underlying228 rfl i_did) rfl (HT.out.fr.told HE.out.1 ⟨0,d.enq,false,false⟩)
  ·have e2:=HH.out.2.2
   rw [if_neg e1] at e2
   rw [←e2] at hK
   clear e2
   have b1:(d.ev==1)=false:=by rw [←Bool.not_eq_true];exact λq=>e1 (by simpa using q)
   have HT:=Lib.hid hK
   clear hK
   go_wp2
   refine bodyPost_ret (v:=Dd.val ⟨0,d.enq,false,false⟩) (results_cell_row rfl _ _ w.heap.size 228 _ (0,0) _ rfl (set4 HT.out.fr.res rfl _ _ _ _) underlying228 rfl i_did) rfl (HT.out.fr.told HE.out.1 ⟨0,d.enq,false,false⟩)
end Go.Proofs.YtcikfcplagelaaaGreat

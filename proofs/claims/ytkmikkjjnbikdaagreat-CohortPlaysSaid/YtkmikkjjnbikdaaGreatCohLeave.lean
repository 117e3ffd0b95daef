
import Derived.Test.YtkmikkjjnbikdaaGreatRow8
import Derived.Laws.EntriesVeiled
namespace Go.Proofs.YtkmikkjjnbikdaaGreat
set_option maxHeartbeats 8000000
open _root_.Go.Proofs.Tryz
open Go.RowKit Go.BigFrame
set_option linter.unusedVariables false
set_option maxRecDepth 100000
theorem fl_looks {w:World} {L:Lp} {f:FL} {nx:Nat→Value} (h:LkM w L f nx) {k:Nat} (hk:k<f.s.n) (u:Int) (hD:f.ps.D.length<4611686018427387904):
  Calls prog 88 #[.pointer (some ⟨L.lb,0,none⟩),.pointer (some ⟨L.tb,k*4,none⟩),.int .i64 u] w
   (LmPost w L (if (tellS f.ps u 1 (L.pA (f.nd k)))=0 then {f with G:=f.G.lock (f.nd k:Nat) (-1),ps:=(doS f.ps u 1 (L.pA (f.nd k)) 0 0)} else {f with ps:=(doS f.ps u 1 (L.pA (f.nd k)) 0 0)})
     (if (tellS f.ps u 1 (L.pA (f.nd k)))=0 then upd nx k (.func (.func 92) #[] #[]) else upd nx k (.func (.func 91) #[] #[]))
     (if (tellS f.ps u 1 (L.pA (f.nd k)))=0 then Dd.no else ⟨1,false,false,false⟩:Dd).val):=by
 have hF:=Fr.start h
 obtain ⟨n1,n2⟩:=h.raw.nod k hk
 obtain ⟨Z,hZ⟩:∃ Z,Z=w.alloc (.cells #[.int .i64 0,.bool false,.bool false,.bool false] 71):=⟨_,rfl⟩
 rw [←hZ] at hF
 have c1:=hF.lk.raw.cell1
 have cP:=λW (q:Wr Nil Z W)=>fl_pass (hF.lk.after q) hk
 have cA:=λW (q:Wr Nil Z W)=>pload_any (hF.lk.after q).port u (L.pA (f.nd k)) hD
 have vL:=λm=>(hF.lk.after ((Wr.refl _ Z).drewN m)).raw.glo.via_lock
 have nL:=hF.lk.raw.glo.nil_lock
 generalize tellS f.ps u 1 (L.pA (f.nd k))=v at*
 generalize doS f.ps u 1 (L.pA (f.nd k)) 0 0=ps' at*
 have hk':k<({f with ps:=ps'}:FL).s.n:=hk
 have HK:=Lib.hid hk
 have HE:=Lib.hid (And.intro h (And.intro hk hF))
 have HZ:=Lib.hid hZ
 clear h hF hZ
 by_cases e1:v=0
 ·rw [if_pos e1,if_pos e1,if_pos e1]
  subst e1
  go_enter func88,ntmps88
  go_wp2
  rw [←HZ.out]
  go_region_held3 (λw'=>w'.cell? ⟨L.lb,1,none⟩=some (.pointer (some ⟨L.q.p,0,none⟩))) (first|exact c1|exact d1|go_keep) (first|(go_at_call 90;(with_reducible refine (cP _ ((Wr.refl _ _).drew)).mono ?_);rintro e w1 ⟨rfl,n,rfl⟩)|(go_at_call 89;(with_reducible refine (cA _ ((Wr.refl _ _).drewN _)).mono ?_);intro e w2 hq;unfold AccPost at hq;obtain ⟨rfl,hP,hW⟩:=hq;have hZ2:=HE.out.2.2.after ((Wr.refl _ Z).drewN (1+n));have hA:=hZ2.lk.ports hP hW;have d1:=hA.raw.cell1;have HX:=Lib.hid (Fr.call HE.out.1 hZ2 hA (lf_q hZ2.lk hW));clear hZ2 hA hP hW))
  have q0:=HX.out.lk.raw.cx0 hk
  have q4:=HX.out.lk.raw.cell4
  unfold Ip.val at q4
  have cI:=in_lock (HX.out.after ((Wr.refl _ w2).drew)).lk.raw.glo (f.nd k:Nat) (-1)
  have vL:=(HX.out.after ((Wr.refl _ w2).drew)).lk.raw.glo.via_lock
  go_wp2
  go_still_tail 10,(by kernel_rfl)
  change wpList _ _ _ _ _ w2.drew
  generalize hY:w2.drew=Y at*
  have HY:=Lib.hid hY
  clear hY
  go_wp2_with (go_at_call 18;(with_reducible refine cI.mono ?_);intro e w3 hq;unfold InPost at hq;obtain ⟨rfl,hI,hW⟩:=hq;have hX2:=HX.out.after ((Wr.refl _ w2).drew);rw [HY.out] at hX2;have hG:=hX2.lk.glob hI hW;have HX:=Lib.hid (Fr.call HE.out.1 hX2 hG (lf_g hX2.lk hW));clear hX2 hG hI hW;have cN:=HX.out.lk.raw.cx2 HK.out;have zN:=HX.out.lk.raw.cxz (k*4+2);have hN:=HX.out.lk.setN k (.func (.func 92) #[] #[]);have h2:=Fr.call HE.out.1 HX.out hN.1 (lf_t HX.out.lk hN.2);obtain ⟨v0,v1,v2,v3⟩:=h2.cell;obtain ⟨x0,x1,x2,x3⟩:=h2.frz;have HT:=Lib.hid h2;clear h2 hN)
  refine bodyPost_ret (v:=Dd.val Dd.no) (results_cell_row rfl _ _ w.heap.size 71 _ (0,0) _ rfl (set4 HT.out.res rfl _ _ _ _) underlying71 rfl i_did) rfl (HT.out.told HE.out.1 Dd.no)
 ·rw [if_neg e1,if_neg e1,if_neg e1]
  have b1:(v != 0)=true:=by simpa using e1
  go_enter func88,ntmps88
  go_wp2
  rw [←HZ.out]
  go_region_held3 (λw'=>w'.cell? ⟨L.lb,1,none⟩=some (.pointer (some ⟨L.q.p,0,none⟩))) (first|exact c1|exact d1|go_keep) (first|(go_at_call 90;(with_reducible refine (cP _ ((Wr.refl _ _).drew)).mono ?_);rintro e w1 ⟨rfl,n,rfl⟩)|(go_at_call 89;(with_reducible refine (cA _ ((Wr.refl _ _).drewN _)).mono ?_);intro e w2 hq;unfold AccPost at hq;obtain ⟨rfl,hP,hW⟩:=hq;have hZ2:=HE.out.2.2.after ((Wr.refl _ Z).drewN (1+n));have hA:=hZ2.lk.ports hP hW;have d1:=hA.raw.cell1;have HX:=Lib.hid (Fr.call HE.out.1 hZ2 hA (lf_q hZ2.lk hW));clear hZ2 hA hP hW))
  have cN:=HX.out.lk.raw.cx2 HK.out
  have zN:=HX.out.lk.raw.cxz (k*4+2)
  have hN:=HX.out.lk.setN k (.func (.func 91) #[] #[])
  have h2:=Fr.call HE.out.1 HX.out hN.1 (lf_t HX.out.lk hN.2)
  obtain ⟨v0,v1,v2,v3⟩:=h2.cell
  obtain ⟨x0,x1,x2,x3⟩:=h2.frz
  have HT:=Lib.hid h2
  clear h2 hN
  go_wp2
  refine bodyPost_ret (v:=Dd.val ⟨1,false,false,false⟩) (results_cell_row rfl _ _ w.heap.size 71 _ (0,0) _ rfl (set4 HT.out.res rfl _ _ _ _) underlying71 rfl i_did) rfl (HT.out.told HE.out.1 ⟨1,false,false,false⟩)
theorem fl_leads {w:World} {L:Lp} {f:FL} {nx:Nat→Value} (h:LkM w L f nx) {k:Nat} (hk:k<f.s.n) (u:Int) (hD:f.ps.D.length<4611686018427387904):
  Calls prog 97 #[.pointer (some ⟨L.lb,0,none⟩),.pointer (some ⟨L.tb,k*4,none⟩),.int .i64 u] w
   (LmPost w L {f with ps:=(doS f.ps u 2 (L.pA (f.nd k)) 0 1)}
     (upd nx k (.func (.func 91) #[] #[]))
     (Dd.val ⟨1,false,false,true⟩)):=by
 have hF:=Fr.start h
 obtain ⟨n1,n2⟩:=h.raw.nod k hk
 obtain ⟨Z,hZ⟩:∃ Z,Z=w.alloc (.cells #[.int .i64 0,.bool false,.bool false,.bool false] 71):=⟨_,rfl⟩
 rw [←hZ] at hF
 have c1:=hF.lk.raw.cell1
 have cP:=λW (q:Wr Nil Z W)=>fl_pass (hF.lk.after q) hk
 have cA:=λW (q:Wr Nil Z W)=>pstore_any (hF.lk.after q).port u (L.pA (f.nd k)) 1 (by decide) (by decide) hD
 generalize doS f.ps u 2 (L.pA (f.nd k)) 0 1=ps' at*
 have HK:=Lib.hid hk
 have HE:=Lib.hid (And.intro h (And.intro hk hF))
 have HZ:=Lib.hid hZ
 clear h hF hZ
 go_enter func97,ntmps97
 go_wp2
 rw [←HZ.out]
 go_region_held3 (λw'=>w'.cell? ⟨L.lb,1,none⟩=some (.pointer (some ⟨L.q.p,0,none⟩))) (first|exact c1|exact d1|go_keep) (first|(go_at_call 90;(with_reducible refine (cP _ ((Wr.refl _ _).drew)).mono ?_);rintro e w1 ⟨rfl,n,rfl⟩)|(go_at_call 100;(with_reducible refine (cA _ ((Wr.refl _ _).drewN _)).mono ?_);intro e w2 hq;unfold AccPost at hq;obtain ⟨rfl,hP,hW⟩:=hq;have hZ2:=HE.out.2.2.after ((Wr.refl _ Z).drewN (1+n));have hA:=hZ2.lk.ports hP hW;have d1:=hA.raw.cell1;have HX:=Lib.hid (Fr.call HE.out.1 hZ2 hA (lf_q hZ2.lk hW));clear hZ2 hA hP hW))
 have cN:=HX.out.lk.raw.cx2 HK.out
 have zN:=HX.out.lk.raw.cxz (k*4+2)
 have hN:=HX.out.lk.setN k (.func (.func 91) #[] #[])
 have h2:=Fr.call HE.out.1 HX.out hN.1 (lf_t HX.out.lk hN.2)
 obtain ⟨v0,v1,v2,v3⟩:=h2.cell
 obtain ⟨x0,x1,x2,x3⟩:=h2.frz
 have HT:=Lib.hid h2
 clear h2 hN
 go_wp2
 refine bodyPost_ret (v:=Dd.val ⟨1,false,false,true⟩) (results_cell_row rfl _ _ w.heap.size 71 _ (0,0) _ rfl (set4 HT.out.res rfl _ _ _ _) underlying71 rfl i_did) rfl (HT.out.told HE.out.1 ⟨1,false,false,true⟩)
theorem fl_leave {w:World} {L:Lp} {f:FL} {nx:Nat→Value} (h:LkM w L f nx) {k:Nat} (hk:k<f.s.n):
  Calls prog 105 #[.pointer (some ⟨L.lb,0,none⟩),.pointer (some ⟨L.tb,k*4,none⟩)] w
   (LmPost w L {f with Lc:=upd f.Lc (f.nd k) ((f.Lc (f.nd k)).turn (f.own k:Nat) 3)} (upd nx k (.func (.func 106) #[] #[])) (.tuple #[])):=by
 obtain ⟨n1,n2⟩:=h.raw.nod k hk
 have r1:=h.raw.cx1 hk
 have cL:=λW (q:Wr Nil w W)=>fl_local (h.after q) hk
 unfold Ip.val at cL
 have cI:=λW (q:Wr Nil w W)=>in_unlock ((h.after q).raw.loc _ n1 n2) (f.own k:Nat)
 have vL:=λm=>((h.after ((Wr.refl _ w).drewN m)).raw.loc _ n1 n2).via_unlock
 have nL:=(h.raw.loc _ n1 n2).nil_unlock
 have HE:=Lib.hid (And.intro h (And.intro hk (And.intro n1 n2)))
 clear h
 go_enter func105,ntmps105
 go_wp2
 go_region_held3 (λw'=>w'.cell? ⟨L.tb,k*4+1,none⟩=some (.int .i64 (f.own k:Nat))) (first|exact r1|go_keep) (first
  |(go_at_call 85;(first|(with_reducible refine (cL _ ((Wr.refl _ _).drew)).mono ?_)|(with_reducible refine (cL _ (((Wr.refl _ _).alloc _).drew)).mono ?_));rintro e w1 ⟨rfl,n,rfl⟩)
  |(go_at_call 19;(with_reducible refine (cI _ ((Wr.refl _ _).drewN _)).mono ?_);intro e w2 hq;unfold InPost at hq;obtain ⟨rfl,hI,hW⟩:=hq;have hX2:=HE.out.1.after ((Wr.refl _ w).drewN (1+n));have hG:=hX2.locl HE.out.2.2.1 HE.out.2.2.2 hI hW;have r1:=hG.raw.cx1 hk;have hW2:=((Wr.refl (LF L) w).drewN (1+n)).trans (lf_l hX2 HE.out.2.2.1 HE.out.2.2.2 hW) λ_ _ e=>e;have HX:=Lib.hid (And.intro hG hW2);clear hX2 hG hI hW hW2))
 have cN:=HX.out.1.raw.cx2 hk
 have zN:=HX.out.1.raw.cxz (k*4+2)
 have hN:=HX.out.1.setN k (.func (.func 106) #[] #[])
 have HN:=Lib.hid (And.intro hN.1 (HX.out.2.trans (lf_t HX.out.1 hN.2) λ_ _ e=>e))
 clear hN
 go_wp2
 go_end0
 exact ⟨rfl,HN.out.1,HN.out.2⟩
end Go.Proofs.YtkmikkjjnbikdaaGreat

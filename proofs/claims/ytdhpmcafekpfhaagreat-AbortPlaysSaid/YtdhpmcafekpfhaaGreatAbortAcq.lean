/- A call for an abortable lock: its stores and its swap: what each tells, and what it leaves. -/
import Derived.Test.YtdhpmcafekpfhaaGreatAbortDo
import Derived.WalkLawsBesides
import Derived.Outline
import Derived.Deep.QuietTactic
import Derived.Deep.RegionHeld3
import Derived.BigQuiet
import Derived.BigFrame
import Derived.Handy
import Derived.OpenShut
import Derived.Lib.Walk
import Derived.WalkKit
import Derived.Lib.Hide
namespace Go.Proofs.YtdhpmcafekpfhaaGreat
open Go.RowKit Go.BigFrame
set_option linter.unusedVariables false
set_option maxRecDepth 100000

set_option maxHeartbeats 1000000 in
theorem fl_acq2 {w : World} {L : Lp} {f : FL} (h : LkAt w L f) (k : Nat) (hk : k < f.s.n) (u x : Int) (hs : f.s.st k = 1) (hd : f.pc k = 2) (hD : f.ps.D.length < 4611686018427387904) :
    Calls Tryz.prog 29 #[.pointer (some ⟨L.lb, 0, none⟩), .int .i64 (k : Int), .int .i64 u, .int .i64 x] w (LmPost w L (f.acq L k u x) (upd f.s.st k (finS 1 (f.acqD L k u x).ev)) (f.acqD L k u x).val) := by
  have e1 : f.acq L k u x = { f with pc := upd f.pc k 3, nd := upd f.nd k (f.nd k), oth := upd f.oth k (f.oth k), tr := upd f.tr k (f.tr k), ps := doS f.ps u 2 (L.oA (f.nd k)) 0 1 } := by unfold FL.acq; rw [if_neg (by omega), if_pos hd, upd_id f.nd k rfl, upd_id f.oth k rfl, upd_id f.tr k rfl]
  have e2 : f.acqD L k u x = Dd.no := by unfold FL.acqD; rw [if_neg (by omega), if_pos hd]
  rw [e1, e2]
  rw [show finS 1 (Dd.ev Dd.no) = 1 from by decide]
  clear e1 e2
  have hF := Fr.start h
  obtain ⟨Z, hZ⟩ : ∃ Z, Z = w.alloc (.cells #[.int .i64 0, .bool false, .bool false, .bool false] 52) := ⟨_, rfl⟩
  rw [← hZ] at hF
  have hkI : (k : Int) < f.s.n := by omega
  have c4 := hF.lk.raw.cell4
  obtain ⟨p, hp, t0, t1, t2, t3⟩ := hF.lk.raw.place4 hk
  rw [hs, hd] at hp
  rw [hd] at t0
  have n2 : Z.drew.cell? ⟨L.tb, k * 4 + 2, none⟩ = some (.int .u32 (f.nd k)) := by rw [← hp.n0 (by decide)]; exact t2
  have c1 := hF.drew.lk.raw.cell1
  have c3 := hF.drew.lk.raw.cell3
  rw [hZ] at c4 t0
  have cG := fl_out hF.drew.lk (f.nd k) hp.nr
  have cA := pstore_any hF.drew.lk.port u (L.oA (f.nd k)) 1 (by decide) (by decide) hD
  have HT0 := Lib.hid (fun (W : World) (g : LkM W L { f with ps := doS f.ps u 2 (L.oA (f.nd k)) 0 1 } f.s.st) => g.turns (g.raw.set1 k 1 3 (f.nd k) (f.oth k) (f.tr k) (fun p hp => by rw [hs, hd] at hp; exact hp.next (by decide) (by decide) (by decide)) 2 rfl))
  have HN := Lib.hid (fun (q : Pc) (hq : PlI (f.s.st k) (f.pc k) (f.nd k) (f.oth k) (f.tr k) f.ea q) => hq.n0 (by omega))
  have HO := Lib.hid (fun (q : Pc) (hq : PlI (f.s.st k) (f.pc k) (f.nd k) (f.oth k) (f.tr k) f.ea q) (h6 : 6 ≤ f.pc k) => hq.o1 hs h6)
  have H6 := Lib.hid hd
  have HE := Lib.hid (And.intro h (And.intro hk hF))
  clear h hF hs hd hp t1 t2 t3
  go_enter Tryz.func29, Tryz.ntmps29
  go_wp2
  rw [← hZ]
  clear hZ
  go_region_held3 (fun w' => w'.cell? ⟨L.lb, 1, none⟩ = some (.pointer (some ⟨L.q.p, 0, none⟩)) ∧ w'.cell? ⟨L.tb, k * 4 + 2, none⟩ = some (.int .u32 (f.nd k))) (first | exact ⟨c1, n2⟩ | exact ⟨d1, y2⟩) (first | (go_at_call 34; (with_reducible refine cG.mono ?_); rintro e w' ⟨rfl, rfl⟩) | (go_at_call 51; (with_reducible refine cA.mono ?_); intro e w2 hq; unfold AccPost at hq; obtain ⟨rfl, hP, hW⟩ := hq; have hA := HE.out.2.2.drew.lk.ports hP hW; have hA3 := Fr.call HE.out.1 HE.out.2.2.drew hA (lf_q hW); have d1 := hA.raw.cell1; have d3 := hA.raw.cell3; obtain ⟨p', hp', y0, y1, y2, y3⟩ := hA.raw.place4 HE.out.2.1; rw [(show p'.nd = f.nd k from HN.out _ hp')] at y2; have z0 := hA.raw.tkz (k * 4); have hT := HT0.out _ hA; have hA4 := Fr.call HE.out.1 hA3 hT.1 (lf_t hT.2); obtain ⟨v0, v1, v2, v3⟩ := hA4.cell; obtain ⟨x0, x1, x2, x3⟩ := hA4.frz; have HT := Lib.hid hA4; clear hA4 hT; clear hA hA3 hP hW hp'))
  go_wp2
  refine bodyPost_ret (v := Dd.val ⟨0, false, false, false⟩) (results_cell_row rfl _ _ w.heap.size 52 _ (0, 0) _ rfl (set4 HT.out.res rfl _ _ _ _) Tryz.underlying52 rfl i_did) rfl (HT.out.told HE.out.1 ⟨0, false, false, false⟩)
set_option maxHeartbeats 1000000 in
theorem fl_acq3 {w : World} {L : Lp} {f : FL} (h : LkAt w L f) (k : Nat) (hk : k < f.s.n) (u x : Int) (hs : f.s.st k = 1) (hd : f.pc k = 3) (hD : f.ps.D.length < 4611686018427387904) :
    Calls Tryz.prog 29 #[.pointer (some ⟨L.lb, 0, none⟩), .int .i64 (k : Int), .int .i64 u, .int .i64 x] w (LmPost w L (f.acq L k u x) (upd f.s.st k (finS 1 (f.acqD L k u x).ev)) (f.acqD L k u x).val) := by
  have e1 : f.acq L k u x = { f with pc := upd f.pc k 4, nd := upd f.nd k (f.nd k), oth := upd f.oth k (f.oth k), tr := upd f.tr k (f.tr k), ps := doS f.ps u 2 (L.sA (f.nd k)) 0 0 } := by unfold FL.acq; rw [if_neg (by omega), if_neg (by omega), if_pos hd, upd_id f.nd k rfl, upd_id f.oth k rfl, upd_id f.tr k rfl]
  have e2 : f.acqD L k u x = Dd.no := by unfold FL.acqD; rw [if_neg (by omega), if_neg (by omega), if_pos hd]
  rw [e1, e2]
  rw [show finS 1 (Dd.ev Dd.no) = 1 from by decide]
  clear e1 e2
  have hF := Fr.start h
  obtain ⟨Z, hZ⟩ : ∃ Z, Z = w.alloc (.cells #[.int .i64 0, .bool false, .bool false, .bool false] 52) := ⟨_, rfl⟩
  rw [← hZ] at hF
  have hkI : (k : Int) < f.s.n := by omega
  have c4 := hF.lk.raw.cell4
  obtain ⟨p, hp, t0, t1, t2, t3⟩ := hF.lk.raw.place4 hk
  rw [hs, hd] at hp
  rw [hd] at t0
  have n2 : Z.drew.cell? ⟨L.tb, k * 4 + 2, none⟩ = some (.int .u32 (f.nd k)) := by rw [← hp.n0 (by decide)]; exact t2
  have c1 := hF.drew.lk.raw.cell1
  have c3 := hF.drew.lk.raw.cell3
  rw [hZ] at c4 t0
  have cG := fl_state hF.drew.lk (f.nd k) hp.nr
  have cA := pstore_any hF.drew.lk.port u (L.sA (f.nd k)) 0 (by decide) (by decide) hD
  have HT0 := Lib.hid (fun (W : World) (g : LkM W L { f with ps := doS f.ps u 2 (L.sA (f.nd k)) 0 0 } f.s.st) => g.turns (g.raw.set1 k 1 4 (f.nd k) (f.oth k) (f.tr k) (fun p hp => by rw [hs, hd] at hp; exact hp.next (by decide) (by decide) (by decide)) 3 rfl))
  have HN := Lib.hid (fun (q : Pc) (hq : PlI (f.s.st k) (f.pc k) (f.nd k) (f.oth k) (f.tr k) f.ea q) => hq.n0 (by omega))
  have HO := Lib.hid (fun (q : Pc) (hq : PlI (f.s.st k) (f.pc k) (f.nd k) (f.oth k) (f.tr k) f.ea q) (h6 : 6 ≤ f.pc k) => hq.o1 hs h6)
  have H6 := Lib.hid hd
  have HE := Lib.hid (And.intro h (And.intro hk hF))
  clear h hF hs hd hp t1 t2 t3
  go_enter Tryz.func29, Tryz.ntmps29
  go_wp2
  rw [← hZ]
  clear hZ
  go_region_held3 (fun w' => w'.cell? ⟨L.lb, 1, none⟩ = some (.pointer (some ⟨L.q.p, 0, none⟩)) ∧ w'.cell? ⟨L.tb, k * 4 + 2, none⟩ = some (.int .u32 (f.nd k))) (first | exact ⟨c1, n2⟩ | exact ⟨d1, y2⟩) (first | (go_at_call 52; (with_reducible refine cG.mono ?_); rintro e w' ⟨rfl, rfl⟩) | (go_at_call 51; (with_reducible refine cA.mono ?_); intro e w2 hq; unfold AccPost at hq; obtain ⟨rfl, hP, hW⟩ := hq; have hA := HE.out.2.2.drew.lk.ports hP hW; have hA3 := Fr.call HE.out.1 HE.out.2.2.drew hA (lf_q hW); have d1 := hA.raw.cell1; have d3 := hA.raw.cell3; obtain ⟨p', hp', y0, y1, y2, y3⟩ := hA.raw.place4 HE.out.2.1; rw [(show p'.nd = f.nd k from HN.out _ hp')] at y2; have z0 := hA.raw.tkz (k * 4); have hT := HT0.out _ hA; have hA4 := Fr.call HE.out.1 hA3 hT.1 (lf_t hT.2); obtain ⟨v0, v1, v2, v3⟩ := hA4.cell; obtain ⟨x0, x1, x2, x3⟩ := hA4.frz; have HT := Lib.hid hA4; clear hA4 hT; clear hA hA3 hP hW hp'))
  go_wp2
  refine bodyPost_ret (v := Dd.val ⟨0, false, false, false⟩) (results_cell_row rfl _ _ w.heap.size 52 _ (0, 0) _ rfl (set4 HT.out.res rfl _ _ _ _) Tryz.underlying52 rfl i_did) rfl (HT.out.told HE.out.1 ⟨0, false, false, false⟩)
set_option maxHeartbeats 1000000 in
theorem fl_acq4 {w : World} {L : Lp} {f : FL} (h : LkAt w L f) (k : Nat) (hk : k < f.s.n) (u x : Int) (hs : f.s.st k = 1) (hd : f.pc k = 4) (hD : f.ps.D.length < 4611686018427387904) :
    Calls Tryz.prog 29 #[.pointer (some ⟨L.lb, 0, none⟩), .int .i64 (k : Int), .int .i64 u, .int .i64 x] w (LmPost w L (f.acq L k u x) (upd f.s.st k (finS 1 (f.acqD L k u x).ev)) (f.acqD L k u x).val) := by
  have e1 : f.acq L k u x = { f with pc := upd f.pc k 5, nd := upd f.nd k (f.nd k), oth := upd f.oth k (f.oth k), tr := upd f.tr k (f.tr k), ps := doS f.ps u 2 (L.nA (f.nd k)) 0 0 } := by unfold FL.acq; rw [if_neg (by omega), if_neg (by omega), if_neg (by omega), if_pos hd, upd_id f.nd k rfl, upd_id f.oth k rfl, upd_id f.tr k rfl]
  have e2 : f.acqD L k u x = Dd.no := by unfold FL.acqD; rw [if_neg (by omega), if_neg (by omega), if_neg (by omega), if_pos hd]
  rw [e1, e2]
  rw [show finS 1 (Dd.ev Dd.no) = 1 from by decide]
  clear e1 e2
  have hF := Fr.start h
  obtain ⟨Z, hZ⟩ : ∃ Z, Z = w.alloc (.cells #[.int .i64 0, .bool false, .bool false, .bool false] 52) := ⟨_, rfl⟩
  rw [← hZ] at hF
  have hkI : (k : Int) < f.s.n := by omega
  have c4 := hF.lk.raw.cell4
  obtain ⟨p, hp, t0, t1, t2, t3⟩ := hF.lk.raw.place4 hk
  rw [hs, hd] at hp
  rw [hd] at t0
  have n2 : Z.drew.cell? ⟨L.tb, k * 4 + 2, none⟩ = some (.int .u32 (f.nd k)) := by rw [← hp.n0 (by decide)]; exact t2
  have c1 := hF.drew.lk.raw.cell1
  have c3 := hF.drew.lk.raw.cell3
  rw [hZ] at c4 t0
  have cG := fl_next hF.drew.lk (f.nd k) hp.nr
  have cA := pstore_any hF.drew.lk.port u (L.nA (f.nd k)) 0 (by decide) (by decide) hD
  have HT0 := Lib.hid (fun (W : World) (g : LkM W L { f with ps := doS f.ps u 2 (L.nA (f.nd k)) 0 0 } f.s.st) => g.turns (g.raw.set1 k 1 5 (f.nd k) (f.oth k) (f.tr k) (fun p hp => by rw [hs, hd] at hp; exact hp.next (by decide) (by decide) (by decide)) 4 rfl))
  have HN := Lib.hid (fun (q : Pc) (hq : PlI (f.s.st k) (f.pc k) (f.nd k) (f.oth k) (f.tr k) f.ea q) => hq.n0 (by omega))
  have HO := Lib.hid (fun (q : Pc) (hq : PlI (f.s.st k) (f.pc k) (f.nd k) (f.oth k) (f.tr k) f.ea q) (h6 : 6 ≤ f.pc k) => hq.o1 hs h6)
  have H6 := Lib.hid hd
  have HE := Lib.hid (And.intro h (And.intro hk hF))
  clear h hF hs hd hp t1 t2 t3
  go_enter Tryz.func29, Tryz.ntmps29
  go_wp2
  rw [← hZ]
  clear hZ
  go_region_held3 (fun w' => w'.cell? ⟨L.lb, 1, none⟩ = some (.pointer (some ⟨L.q.p, 0, none⟩)) ∧ w'.cell? ⟨L.tb, k * 4 + 2, none⟩ = some (.int .u32 (f.nd k))) (first | exact ⟨c1, n2⟩ | exact ⟨d1, y2⟩) (first | (go_at_call 53; (with_reducible refine cG.mono ?_); rintro e w' ⟨rfl, rfl⟩) | (go_at_call 51; (with_reducible refine cA.mono ?_); intro e w2 hq; unfold AccPost at hq; obtain ⟨rfl, hP, hW⟩ := hq; have hA := HE.out.2.2.drew.lk.ports hP hW; have hA3 := Fr.call HE.out.1 HE.out.2.2.drew hA (lf_q hW); have d1 := hA.raw.cell1; have d3 := hA.raw.cell3; obtain ⟨p', hp', y0, y1, y2, y3⟩ := hA.raw.place4 HE.out.2.1; rw [(show p'.nd = f.nd k from HN.out _ hp')] at y2; have z0 := hA.raw.tkz (k * 4); have hT := HT0.out _ hA; have hA4 := Fr.call HE.out.1 hA3 hT.1 (lf_t hT.2); obtain ⟨v0, v1, v2, v3⟩ := hA4.cell; obtain ⟨x0, x1, x2, x3⟩ := hA4.frz; have HT := Lib.hid hA4; clear hA4 hT; clear hA hA3 hP hW hp'))
  go_wp2
  refine bodyPost_ret (v := Dd.val ⟨0, false, false, false⟩) (results_cell_row rfl _ _ w.heap.size 52 _ (0, 0) _ rfl (set4 HT.out.res rfl _ _ _ _) Tryz.underlying52 rfl i_did) rfl (HT.out.told HE.out.1 ⟨0, false, false, false⟩)
set_option maxHeartbeats 1000000 in
theorem fl_acq6 {w : World} {L : Lp} {f : FL} (h : LkAt w L f) (k : Nat) (hk : k < f.s.n) (u x : Int) (hs : f.s.st k = 1) (hd : f.pc k = 6) (hD : f.ps.D.length < 4611686018427387904) :
    Calls Tryz.prog 29 #[.pointer (some ⟨L.lb, 0, none⟩), .int .i64 (k : Int), .int .i64 u, .int .i64 x] w (LmPost w L (f.acq L k u x) (upd f.s.st k (finS 1 (f.acqD L k u x).ev)) (f.acqD L k u x).val) := by
  have e1 : f.acq L k u x = { f with pc := upd f.pc k 7, nd := upd f.nd k (f.nd k), oth := upd f.oth k (f.oth k), tr := upd f.tr k (f.tr k), ps := doS f.ps u 2 (L.nA (f.oth k)) 0 (f.nd k) } := by unfold FL.acq; rw [if_neg (by omega), if_neg (by omega), if_neg (by omega), if_neg (by omega), if_neg (by omega), if_pos hd, upd_id f.nd k rfl, upd_id f.oth k rfl, upd_id f.tr k rfl]
  have e2 : f.acqD L k u x = Dd.no := by unfold FL.acqD; rw [if_neg (by omega), if_neg (by omega), if_neg (by omega), if_neg (by omega), if_neg (by omega), if_pos hd]
  rw [e1, e2]
  rw [show finS 1 (Dd.ev Dd.no) = 1 from by decide]
  clear e1 e2
  have hF := Fr.start h
  obtain ⟨Z, hZ⟩ : ∃ Z, Z = w.alloc (.cells #[.int .i64 0, .bool false, .bool false, .bool false] 52) := ⟨_, rfl⟩
  rw [← hZ] at hF
  have hkI : (k : Int) < f.s.n := by omega
  have c4 := hF.lk.raw.cell4
  obtain ⟨p, hp, t0, t1, t2, t3⟩ := hF.lk.raw.place4 hk
  rw [hs, hd] at hp
  rw [hd] at t0
  have n2 : Z.drew.cell? ⟨L.tb, k * 4 + 2, none⟩ = some (.int .u32 (f.nd k)) := by rw [← hp.n0 (by decide)]; exact t2
  have c1 := hF.drew.lk.raw.cell1
  have c3 := hF.drew.lk.raw.cell3
  rw [hZ] at c4 t0
  have n3 : Z.drew.cell? ⟨L.tb, k * 4 + 3, none⟩ = some (.int .u32 (f.oth k)) := by rw [← hp.o1 rfl (by decide)]; exact t3
  have cG := fl_next hF.drew.lk (f.oth k) hp.orr
  have cA := pstore_any hF.drew.lk.port u (L.nA (f.oth k)) (f.nd k) hp.nr.1 hp.nr.2 hD
  have HT0 := Lib.hid (fun (W : World) (g : LkM W L { f with ps := doS f.ps u 2 (L.nA (f.oth k)) 0 (f.nd k) } f.s.st) => g.turns (g.raw.set1 k 1 7 (f.nd k) (f.oth k) (f.tr k) (fun p hp => by rw [hs, hd] at hp; exact hp.next (by decide) (by decide) (by decide)) 6 rfl))
  have HN := Lib.hid (fun (q : Pc) (hq : PlI (f.s.st k) (f.pc k) (f.nd k) (f.oth k) (f.tr k) f.ea q) => hq.n0 (by omega))
  have HO := Lib.hid (fun (q : Pc) (hq : PlI (f.s.st k) (f.pc k) (f.nd k) (f.oth k) (f.tr k) f.ea q) (h6 : 6 ≤ f.pc k) => hq.o1 hs h6)
  have H6 := Lib.hid hd
  have HE := Lib.hid (And.intro h (And.intro hk hF))
  clear h hF hs hd hp t1 t2 t3
  go_enter Tryz.func29, Tryz.ntmps29
  go_wp2
  rw [← hZ]
  clear hZ
  go_region_held3 (fun w' => w'.cell? ⟨L.lb, 1, none⟩ = some (.pointer (some ⟨L.q.p, 0, none⟩)) ∧ w'.cell? ⟨L.tb, k * 4 + 2, none⟩ = some (.int .u32 (f.nd k)) ∧ w'.cell? ⟨L.tb, k * 4 + 3, none⟩ = some (.int .u32 (f.oth k))) (first | exact ⟨c1, n2, n3⟩ | exact ⟨d1, y2, y3⟩) (first | (go_at_call 53; (with_reducible refine cG.mono ?_); rintro e w' ⟨rfl, rfl⟩) | (go_at_call 51; (with_reducible refine cA.mono ?_); intro e w2 hq; unfold AccPost at hq; obtain ⟨rfl, hP, hW⟩ := hq; have hA := HE.out.2.2.drew.lk.ports hP hW; have hA3 := Fr.call HE.out.1 HE.out.2.2.drew hA (lf_q hW); have d1 := hA.raw.cell1; have d3 := hA.raw.cell3; obtain ⟨p', hp', y0, y1, y2, y3⟩ := hA.raw.place4 HE.out.2.1; rw [(show p'.nd = f.nd k from HN.out _ hp')] at y2; rw [(show p'.ot = f.oth k from HO.out _ hp' (by rw [H6.out]; decide))] at y3; have z0 := hA.raw.tkz (k * 4); have hT := HT0.out _ hA; have hA4 := Fr.call HE.out.1 hA3 hT.1 (lf_t hT.2); obtain ⟨v0, v1, v2, v3⟩ := hA4.cell; obtain ⟨x0, x1, x2, x3⟩ := hA4.frz; have HT := Lib.hid hA4; clear hA4 hT; clear hA hA3 hP hW hp'))
  go_wp2
  refine bodyPost_ret (v := Dd.val ⟨0, false, false, false⟩) (results_cell_row rfl _ _ w.heap.size 52 _ (0, 0) _ rfl (set4 HT.out.res rfl _ _ _ _) Tryz.underlying52 rfl i_did) rfl (HT.out.told HE.out.1 ⟨0, false, false, false⟩)
set_option maxHeartbeats 1000000 in
theorem fl_acq5 {w : World} {L : Lp} {f : FL} (h : LkAt w L f) (k : Nat) (hk : k < f.s.n) (u x : Int) (hs : f.s.st k = 1) (hd : f.pc k = 5) (hD : f.ps.D.length < 4611686018427387904) :
    Calls Tryz.prog 29 #[.pointer (some ⟨L.lb, 0, none⟩), .int .i64 (k : Int), .int .i64 u, .int .i64 x] w (LmPost w L (f.acq L k u x) (upd f.s.st k (finS 1 (f.acqD L k u x).ev)) (f.acqD L k u x).val) := by
  have e1 : f.acq L k u x = { f with pc := upd f.pc k (if tellS f.ps u 3 L.a1 = 0 then 1 else 6), nd := upd f.nd k (f.nd k), oth := upd f.oth k (tellS f.ps u 3 L.a1), tr := upd f.tr k (if tellS f.ps u 3 L.a1 = 0 then 0 else f.tr k), ps := doS f.ps u 3 L.a1 0 (f.nd k) } := by unfold FL.acq; rw [if_neg (by omega), if_neg (by omega), if_neg (by omega), if_neg (by omega), if_pos hd, upd_id f.nd k rfl]
  have e2 : f.acqD L k u x = ⟨if tellS f.ps u 3 L.a1 = 0 then 1 else 0, true, false, false⟩ := by unfold FL.acqD; rw [if_neg (by omega), if_neg (by omega), if_neg (by omega), if_neg (by omega), if_pos hd]
  rw [e1, e2]
  rw [show finS 1 (Dd.ev ⟨if tellS f.ps u 3 L.a1 = 0 then 1 else 0, true, false, false⟩) = (if tellS f.ps u 3 L.a1 = 0 then 2 else 1) from by dsimp only; split <;> decide]
  clear e1 e2
  have hF := Fr.start h
  obtain ⟨Z, hZ⟩ : ∃ Z, Z = w.alloc (.cells #[.int .i64 0, .bool false, .bool false, .bool false] 52) := ⟨_, rfl⟩
  rw [← hZ] at hF
  have hkI : (k : Int) < f.s.n := by omega
  have c4 := hF.lk.raw.cell4
  obtain ⟨p, hp, t0, t1, t2, t3⟩ := hF.lk.raw.place4 hk
  rw [hs, hd] at hp
  rw [hd] at t0
  have n2 : Z.drew.cell? ⟨L.tb, k * 4 + 2, none⟩ = some (.int .u32 (f.nd k)) := by rw [← hp.n0 (by decide)]; exact t2
  have c1 := hF.drew.lk.raw.cell1
  have c3 := hF.drew.lk.raw.cell3
  rw [hZ] at c4 t0
  have cA := pswap_any hF.drew.lk.port u L.a1 (f.nd k) hp.nr.1 hp.nr.2 hD
  have hT0 := h.tell u 3 L.a1
  generalize tellS f.ps u 3 L.a1 = v at *
  obtain ⟨ev, hev⟩ : ∃ ev : Int, ev = if v = 0 then 1 else 0 := ⟨_, rfl⟩
  obtain ⟨g, hg⟩ : ∃ g : FL, g = { f with pc := upd f.pc k (if v = 0 then 1 else 6), nd := upd f.nd k (f.nd k), oth := upd f.oth k v, tr := upd f.tr k (if v = 0 then 0 else f.tr k), ps := doS f.ps u 3 L.a1 0 (f.nd k) } := ⟨_, rfl⟩
  obtain ⟨σ', hσ⟩ : ∃ σ' : Nat → Int, σ' = upd f.s.st k (if v = 0 then 2 else 1) := ⟨_, rfl⟩
  rw [← hg, ← hσ, ← hev]
  have HC : RowKit.Hid (∀ W : World, LkM W L { f with ps := doS f.ps u 3 L.a1 0 (f.nd k) } f.s.st → Calls Tryz.prog 54 #[.pointer (some ⟨L.tb, k * 4, none⟩), .int .u32 v] W (LmPost W L g σ' (Dd.val ⟨ev, true, false, false⟩))) := Lib.hid (fun W q => by
    rw [hg, hσ, hev]; exact fl_enters q k hk (show f.pc k ≠ 1 by omega) v hT0)
  have HN := Lib.hid (fun (q : Pc) (hq : PlI (f.s.st k) (f.pc k) (f.nd k) (f.oth k) (f.tr k) f.ea q) => hq.n0 (by omega))
  have HQ : RowKit.Hid (k < g.s.n ∧ ∀ q : Pc, PlI (σ' k) (g.pc k) (g.nd k) (g.oth k) (g.tr k) g.ea q → q.nd = f.nd k) := Lib.hid (by
    rw [hg, hσ]
    refine ⟨hk, fun q hq => ?_⟩
    dsimp only at hq
    rw [upd_same, upd_same, upd_same] at hq
    by_cases hv : v = 0
    · rw [if_pos hv, if_pos hv] at hq; exact hq.n1 (.inl rfl)
    · rw [if_neg hv, if_neg hv] at hq; exact hq.n0 (by decide))
  have HE := Lib.hid (And.intro h (And.intro hk hF))
  have HV := Lib.hid hev
  clear h hF hs hd hp t1 t2 t3 hT0 hev hg hσ
  go_enter Tryz.func29, Tryz.ntmps29
  go_wp2
  rw [← hZ]
  clear hZ
  go_region_held3 (fun w' => w'.cell? ⟨L.lb, 1, none⟩ = some (.pointer (some ⟨L.q.p, 0, none⟩)) ∧ w'.cell? ⟨L.lb, 3, none⟩ = some (.int .i64 L.a1) ∧ w'.cell? ⟨L.tb, k * 4 + 2, none⟩ = some (.int .u32 (f.nd k))) (first | with_reducible exact ⟨d1, d3, y2⟩ | with_reducible exact ⟨q1, q3, q2⟩ | with_reducible exact ⟨r1, r3, r2⟩ | exact ⟨c1, c3, n2⟩) (first | (go_at_call 55; (with_reducible refine cA.mono ?_); intro e w2 hq; unfold AccPost at hq; obtain ⟨rfl, hP, hW⟩ := hq; have hA := HE.out.2.2.drew.lk.ports hP hW; have hA3 := Fr.call HE.out.1 HE.out.2.2.drew hA (lf_q hW); have d1 := hA.raw.cell1; have d3 := hA.raw.cell3; obtain ⟨p', hp', y0, y1, y2, y3⟩ := hA.raw.place4 HE.out.2.1; rw [(show p'.nd = f.nd k from HN.out _ hp')] at y2; have HA := Lib.hid hA3; have cE := HC.out _ hA; clear hA hA3 hP hW hp') | (go_at_call 54; (with_reducible refine cE.mono ?_); intro e w3 hq; unfold LmPost at hq; obtain ⟨rfl, hB, hW2⟩ := hq; dsimp only [Dd.val]; have hB3 := Fr.call HE.out.1 HA.out hB hW2; obtain ⟨v0, v1, v2, v3⟩ := hB3.cell; obtain ⟨x0, x1, x2, x3⟩ := hB3.frz; have q1 := hB.raw.cell1; have q3 := hB.raw.cell3; obtain ⟨pB, hpB, _, _, q2, _⟩ := hB.raw.place4 HQ.out.1; rw [HQ.out.2 pB hpB] at q2; have hC := (hB3.told HE.out.1 ⟨ev, true, false, false⟩).2.1; have r1 := hC.raw.cell1; have r3 := hC.raw.cell3; obtain ⟨pC, hpC, _, _, r2, _⟩ := hC.raw.place4 HQ.out.1; rw [HQ.out.2 pC hpC] at r2; have HT := Lib.hid hB3; clear hB hB3 hW2 hC hpB hpC))
  go_wp2
  refine bodyPost_ret (v := Dd.val ⟨ev, true, false, false⟩) (results_cell_row rfl _ _ w.heap.size 52 _ (0, 0) _ rfl (set4 HT.out.res rfl _ _ _ _) Tryz.underlying52 rfl i_did) rfl (HT.out.told HE.out.1 ⟨ev, true, false, false⟩)
end Go.Proofs.YtdhpmcafekpfhaaGreat

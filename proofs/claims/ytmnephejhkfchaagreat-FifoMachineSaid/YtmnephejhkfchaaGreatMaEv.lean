
import Derived.Test.YtmnephejhkfchaaGreatMaGo
namespace Go.Proofs.YtmnephejhkfchaaGreat
set_option maxHeartbeats 8000000
open _root_.Go.Proofs.Tryz
open Go.RowKit Go.BigFrame
set_option linter.unusedVariables false
set_option maxRecDepth 100000
theorem Any.lock_n (a:Any) (t d:Int):(a.lock t d).s.n=a.s.n:=by cases a<;>exact SS.lock_n _ _ _
theorem Any.turn_n (a:Any) (t x:Int):(a.turn t x).s.n=a.s.n:=by cases a<;>exact SS.turn_n _ _ _
section
variable {w0 w:World} {base m sb:Nat} {s:MS} {tv:Value}
theorem McAt.put1 {w':World} {a':Any} (h:McAt w0 base w m sb s tv) (hs:s.a.Same a') (hn:a'.s.n=s.a.s.n) (hl:a'.At w0 w') (k:Wr a'.Low w w'):
  McAt w0 base w' m sb (s.put a') tv∧w'.cell? ⟨m,1,none⟩=some (.iface s.a.ty (.pointer (some ⟨s.a.lb,0,none⟩)))∧w'.cell? ⟨m,2,none⟩=some (.int .i64 s.now)∧Went a'.q m sb w tv w' tv:=by
 have h1:=h.put hs hn hl k
 have h2:=h1.c1
 have hw:Went a'.q m sb w tv w' tv:=McAt.putW hs hs.2.2.2.1 k
 obtain ⟨e1,e2,_⟩:=hs
 rw [show (s.put a').a.ty=s.a.ty from e1,show (s.put a').a.lb=s.a.lb from e2] at h2
 exact ⟨h1,h2,h1.c2,hw⟩
theorem mc_tick (h:McAt w0 base w m sb s tv) (n0:0≤s.now) (n1:s.now≤1099511627776):
  Calls prog 28 #[.pointer (some ⟨m,0,none⟩)] w (MPost w0 base m sb s.tick (.bool (decide (s.now≠1099511627776))) w tv):=by
 have c2:=h.c2
 have z2:=h.fz 2
 by_cases e:s.now=1099511627776
 ·have HP:=Lib.hid (show MPost w0 base m sb s.tick (.bool (decide (s.now≠1099511627776))) w tv (.returned (.bool false)) w from by
   unfold MS.tick
   rw [if_pos e,decide_eq_false (λx=>x e)]
   exact ⟨rfl,tv,h,Went.nil (Wr.refl _ _)⟩)
  clear h
  rw [e] at c2
  clear e n0 n1
  go_enter func28,ntmps28
  go_wp2
  go_ret
  exact HP.out
 ·have HP:=Lib.hid (show MPost w0 base m sb s.tick (.bool (decide (s.now≠1099511627776))) w tv (.returned (.bool true)) (w.setCell ⟨m,2,none⟩ (.int .i64 (s.now+1))) from by
   unfold MS.tick
   rw [if_neg e,decide_eq_true e]
   exact ⟨rfl,tv,h.setBox (s':=s.ticked) 2 _ rfl rfl rfl rfl,Went.low ((Wr.refl (One m) w).setCell _ _ λ_=>rfl) λb _ x=> .inr (.inl x)⟩)
  clear h
  generalize s.now=now at c2 HP e n0 n1 ⊢
  go_enter func28,ntmps28
  go_wp2
  go_ret
  exact HP.out
theorem mc_call (h:McAt w0 base w m sb s tv) (n0:0≤s.now) (n1:s.now≤1000000) (hl:s.tr.length≤900000) (t x:Int):
  Calls prog 29 #[.pointer (some ⟨m,0,none⟩),.int .i64 t,.int .i64 x] w (MPost w0 base m sb (s.call t x) (.bool (decide (lockE s.a.s t (s.dead x)=0))) w tv):=by
 have d1:w.drew.cell? ⟨m,1,none⟩=some (.iface s.a.ty (.pointer (some ⟨s.a.lb,0,none⟩))):=h.drew.c1
 have cD:=λW (q:Wr Nil w W)=>mc_dead (h.after q) n0 n1 x
 have vL:=Any.via_lock h.drew.lk.cell0
 have nL:=s.a.nil_lock
 have cL:=Any.any_lock h.drew.lk t (s.dead x)
 have hs:=s.a.same_lock t (s.dead x)
 have hn:=s.a.lock_n t (s.dead x)
 have HH:=Lib.hid (And.intro h (And.intro hs hn))
 have Hl:=Lib.hid hl
 clear h hs hn n0 n1 hl
 by_cases e:lockE s.a.s t (s.dead x)=0
 ·rw [e] at cL
  unfold MS.call
  rw [if_pos e,decide_eq_true e]
  clear e
  generalize s.dead x=d at*
  generalize s.a.lock t d=a' at*
  go_enter func29,ntmps29
  go_upto_region 1 with fail
  go_region_held3 (λw'=>w'.cell? ⟨m,1,none⟩=some (.iface s.a.ty (.pointer (some ⟨s.a.lb,0,none⟩)))) (first|with_reducible exact d1|with_reducible exact q1) (first
   |(go_at_call 43;(with_reducible refine (cD _ ((Wr.refl Nil w).drew)).mono ?_);rintro e w1 ⟨rfl,rfl⟩)
   |(go_at_call 127;(with_reducible refine cL.mono ?_);rintro e w2 ⟨rfl,hA,hW⟩;obtain ⟨hM,q1,_,hWe⟩:=HH.out.1.drew.put1 HH.out.2.1 HH.out.2.2 hA hW;have HM:=Lib.hid (And.intro hM hWe);clear hM hWe hA hW))
  go_wp2_with (go_at_call 44;(with_reducible refine (en_any HM.out.1 _ _ _ _ (Nat.le_trans Hl.out (by decide))).mono ?_);intro e w3 hq;unfold MPost at hq;obtain ⟨rfl,tv',hM3,hW3⟩:=hq;have H3:=Lib.hid (And.intro hM3 hW3);clear hM3 hW3)
  go_ret
  exact ⟨rfl,_,H3.out.1,((Went.nil ((Wr.refl Nil w).drew)).trans HM.out.2).trans H3.out.2⟩
 ·unfold MS.call
  rw [if_neg e,decide_eq_false e]
  generalize s.dead x=d at*
  have hne:(lockE s.a.s t d != 0)=true:=by simp [e]
  generalize lockE s.a.s t d=y at*
  clear e
  generalize s.a.lock t d=a' at*
  go_enter func29,ntmps29
  go_upto_region 1 with fail
  go_region_held3 (λw'=>w'.cell? ⟨m,1,none⟩=some (.iface s.a.ty (.pointer (some ⟨s.a.lb,0,none⟩)))) (first|with_reducible exact d1|with_reducible exact q1) (first
   |(go_at_call 43;(with_reducible refine (cD _ ((Wr.refl Nil w).drew)).mono ?_);rintro e w1 ⟨rfl,rfl⟩)
   |(go_at_call 127;(with_reducible refine cL.mono ?_);rintro e w2 ⟨rfl,hA,hW⟩;obtain ⟨hM,q1,_,hWe⟩:=HH.out.1.drew.put1 HH.out.2.1 HH.out.2.2 hA hW;have HM:=Lib.hid (And.intro hM hWe);clear hM hWe hA hW))
  go_wp2
  go_ret
  exact ⟨rfl,_,HM.out.1,(Went.nil ((Wr.refl Nil w).drew)).trans HM.out.2⟩
theorem mc_end (h:McAt w0 base w m sb s tv) (hl:s.tr.length≤900000) (t:Int):
  Calls prog 30 #[.pointer (some ⟨m,0,none⟩),.int .i64 t] w (MPost w0 base m sb (s.fin t) (.bool (decide (turnE s.a.s t=0))) w tv):=by
 have c1:=h.c1
 have vL:=Any.via_unlock h.lk.cell0
 have nL:=s.a.nil_unlock
 have cL:=Any.any_unlock h.lk t
 have hs:=s.a.same_turn t 3
 have hn:=s.a.turn_n t 3
 have HH:=Lib.hid (And.intro h (And.intro hs hn))
 have Hl:=Lib.hid hl
 clear h hs hn hl
 by_cases e:turnE s.a.s t=0
 ·rw [e] at cL
  unfold MS.fin
  rw [if_pos e,decide_eq_true e]
  clear e
  generalize s.a.turn t 3=a' at*
  go_enter func30,ntmps30
  go_wp2_with (first
   |(go_at_call 131;(with_reducible refine cL.mono ?_);rintro e w2 ⟨rfl,hA,hW⟩;obtain ⟨hM,_,_,hWe⟩:=HH.out.1.put1 HH.out.2.1 HH.out.2.2 hA hW;have HM:=Lib.hid (And.intro hM hWe);clear hM hWe hA hW)
   |(go_at_call 44;(with_reducible refine (en_any HM.out.1 _ _ _ _ (Nat.le_trans Hl.out (by decide))).mono ?_);intro e w3 hq;unfold MPost at hq;obtain ⟨rfl,tv',hM3,hW3⟩:=hq;have H3:=Lib.hid (And.intro hM3 hW3);clear hM3 hW3))
  go_ret
  exact ⟨rfl,_,H3.out.1,HM.out.2.trans H3.out.2⟩
 ·unfold MS.fin
  rw [if_neg e,decide_eq_false e]
  have hne:(turnE s.a.s t != 0)=true:=by simp [e]
  generalize turnE s.a.s t=y at*
  clear e
  generalize s.a.turn t 3=a' at*
  go_enter func30,ntmps30
  go_wp2_with (go_at_call 131;(with_reducible refine cL.mono ?_);rintro e w2 ⟨rfl,hA,hW⟩;obtain ⟨hM,_,_,hWe⟩:=HH.out.1.put1 HH.out.2.1 HH.out.2.2 hA hW;have HM:=Lib.hid (And.intro hM hWe);clear hM hWe hA hW)
  go_ret
  exact ⟨rfl,_,HM.out.1,HM.out.2⟩
end
section
variable {w0 w:World} {base m sb:Nat} {s:MS} {tv:Value}
theorem Any.step_s (a:Any) (t x:Int):(a.step t x).s=a.s.fin t (a.did t x).ev:=by cases a<;>rfl
theorem Any.step_n (a:Any) (t x:Int):(a.step t x).s.n=a.s.n:=by rw [a.step_s];exact SS.fin_n _ _ _
theorem McAt.same1 {a:Any} (h:McAt w0 base w m sb s tv) (hs:a.Same s.a):w.cell? ⟨m,1,none⟩=some (.iface a.ty (.pointer (some ⟨a.lb,0,none⟩))):=by
 obtain ⟨e1,e2,_⟩:=hs
 have h1:=h.c1
 rw [e1,e2] at h1
 exact h1
theorem mc_pick (h:McAt w0 base w m sb s tv) {j:Nat} (hF:s.Few j) (hj:j≤100000) (t:Int):
  Calls prog 27 #[.pointer (some ⟨m,0,none⟩),.int .i64 t] w (MPost w0 base m sb (s.pick t) (.bool (decide (s.busy t))) w tv):=by
 have c1:=h.c1
 have vT:=Any.via_state h.lk.cell0
 have nT:=s.a.nil_state
 have cT:=Any.any_state h.lk t
 unfold MS.pick
 by_cases hb:s.busy t
 ·rw [if_pos hb,decide_eq_true hb]
  unfold MS.busy at hb
  obtain ⟨x,hx⟩:∃ x,x=s.a.s.stI t:=⟨_,rfl⟩
  rw [←hx] at hb cT
  have ht:0≤t∧t<s.a.s.n:=by
   unfold SS.stI at hx
   split at hx
   ·assumption
   ·omega
  clear hx
  obtain ⟨i,rfl⟩:=Int.eq_ofNat_of_zero_le ht.1
  have hi:i<s.st.length:=by rw [h.len];omega
  have hiI:(i:Int)<(s.st.length:Nat):=by omega
  have c4:=h.c4
  have sc:=h.sc hi
  have sf:=h.sf i
  have hst:=hF.st i
  have hM1:McAt w0 base _ m sb (s.counts i) tv:=h.setStp i hi
  obtain ⟨Z,hZ⟩:∃ Z,Z=w.setCell ⟨sb,i,none⟩ (.int .i64 (s.st.getD i 0+1)):=⟨_,rfl⟩
  have hWZ:Went s.a.q m sb w tv Z tv:=by rw [hZ];exact Went.low ((Wr.refl (One sb) w).setCell _ _ λ_=>rfl) λb _ x=> .inr (.inr x)
  rw [←hZ] at hM1
  have d1:Z.drew.cell? ⟨m,1,none⟩=some (.iface s.a.ty (.pointer (some ⟨s.a.lb,0,none⟩))):=hM1.drew.c1
  have d2:Z.drew.cell? ⟨m,2,none⟩=some (.int .i64 s.now):=hM1.drew.c2
  have vS:=s.a.via_step
  have nS:=s.a.nil_step
  have eS:=s.a.stepF_enter
  have cS:Calls prog s.a.stepF #[.pointer (some ⟨s.a.lb,0,none⟩),.int .i64 i,.int .i64 i,.int .i64 s.now] Z.drew (Any.Post w0 Z.drew (s.a.step i s.now) (s.a.did i s.now).val):=Any.any_step hM1.drew.lk (i:Int) s.now (Nat.lt_of_le_of_lt hF.D (by omega))
  have hs:=s.a.same_step (i:Int) s.now
  have hn:=s.a.step_n (i:Int) s.now
  replace hWZ:Went (s.a.step i s.now).q m sb w tv Z tv:=by rw [hs.2.2.2.1];exact hWZ
  have HH:=Lib.hid (And.intro hM1 (And.intro hs (And.intro hn hWZ)))
  have hl:s.tr.length≤900000:=by have:=hF.tr;omega
  have Hl:=Lib.hid hl
  have HZ:=Lib.hid hZ
  unfold MS.picked
  change Calls _ _ _ _ (MPost _ _ _ _ (((s.counts i).put (s.a.step i s.now)).more (tells i s.now (s.a.did i s.now))) _ _ _)
  clear h hs hn hF hM1 hl ht hZ hWZ
  generalize s.a.step i s.now=a' at*
  generalize s.a.did i s.now=d at*
  generalize s.st.getD i 0=y at*
  generalize s.a.stepF=sF at*
  rcases hb with rfl|rfl
  all_goals
   go_enter func27,ntmps27
   go_upto_region 5 with (go_at_call 129;(with_reducible refine cT.mono ?_);rintro e w' ⟨rfl,rfl⟩)
   rw [←HZ.out]
   clear c1 c4 sc sf
   go_region_held3 (λw'=>w'.cell? ⟨m,1,none⟩=some (.iface s.a.ty (.pointer (some ⟨s.a.lb,0,none⟩)))∧w'.cell? ⟨m,2,none⟩=some (.int .i64 s.now)) (first|with_reducible exact ⟨d1,d2⟩|with_reducible exact ⟨q1,q2⟩|with_reducible exact ⟨r1,r2⟩) (first
    |(go_at_call 42;(with_reducible refine cTe.mono ?_);intro e w3 hq;unfold MPost at hq;obtain ⟨rfl,tv',hM3,hW3⟩:=hq;have r1:=hM3.same1 HH.out.2.1;have r2:w3.cell? ⟨m,2,none⟩=some (.int .i64 s.now):=hM3.c2;have H3:=Lib.hid (And.intro hM3 hW3);clear hM3 hW3)
    |((with_reducible refine cS.mono ?_);rintro e w2 ⟨rfl,hA,hW⟩;obtain ⟨hM,q1,q2,hWe⟩:=HH.out.1.drew.put1 HH.out.2.1 HH.out.2.2.1 hA hW;have cTe:=te_any hM (i:Int) d Hl.out;replace q1:w2.cell? ⟨m,1,none⟩=some (.iface s.a.ty (.pointer (some ⟨s.a.lb,0,none⟩))):=q1;replace q2:w2.cell? ⟨m,2,none⟩=some (.int .i64 s.now):=q2;have HM:=Lib.hid (And.intro hM hWe);clear hM hWe hA hW;unfold Dd.val))
   go_wp2
   go_ret
   exact ⟨rfl,_,H3.out.1,((HH.out.2.2.2.trans (Went.nil ((Wr.refl Nil Z).drew))).trans HM.out.2).trans H3.out.2⟩
 ·rw [if_neg hb,decide_eq_false hb]
  unfold MS.busy at hb
  have HP:=Lib.hid h
  clear h
  generalize s.a.s.stI t=x at*
  have h1:(x != 1)=true:=by simp;exact λe=>hb (.inl e)
  have h3:(x != 3)=true:=by simp;exact λe=>hb (.inr e)
  clear hb
  go_enter func27,ntmps27
  go_wp2_with (go_at_call 129;(with_reducible refine cT.mono ?_);rintro e w' ⟨rfl,rfl⟩)
  go_ret
  exact ⟨rfl,tv,HP.out,Went.nil (Wr.refl _ _)⟩
theorem mc_does (h:McAt w0 base w m sb s tv) {j:Nat} (hF:s.Few j) (hj:j≤100000) (k t x:Int):
  Calls prog 18 #[.pointer (some ⟨m,0,none⟩),.agg #[.int .i64 k,.int .i64 t,.int .i64 x]] w (MPost w0 base m sb (s.does k t x) (.bool (s.ok k t x)) w tv):=by
 obtain ⟨X,hX⟩:∃ X,X=w.alloc (.cells #[.int .i64 k,.int .i64 t,.int .i64 x] 34):=⟨_,rfl⟩
 have hWX:Wr Nil w X:=by rw [hX];exact (Wr.refl _ w).alloc _
 have hB:X.heap[w.heap.size]? =some (.cells #[.int .i64 k,.int .i64 t,.int .i64 x] 34 (0,0)):=by rw [hX];exact Go.Deep.blk_alloc_new _ _
 have x0:X.cell? ⟨w.heap.size,0,none⟩=some (.int .i64 k):=(blk_cell hB 0).trans rfl
 have x1:X.cell? ⟨w.heap.size,1,none⟩=some (.int .i64 t):=(blk_cell hB 1).trans rfl
 have x2:X.cell? ⟨w.heap.size,2,none⟩=some (.int .i64 x):=(blk_cell hB 2).trans rfl
 have hM:=h.after hWX
 have hl:s.tr.length≤900000:=by have:=hF.tr;omega
 have hn:=hF.now
 have c1:=mc_pick hM hF hj t
 have c2:=mc_tick hM hn.1 (by omega)
 have c3:=mc_call hM hn.1 (by omega) hl t x
 have c4:=mc_end hM hl t
 have H0:=Lib.hid h
 have HX:=Lib.hid hX
 have HW:=Lib.hid hWX
 clear hX hWX hB hM hl hn hF h
 have fin:∀ (s':MS) (v:Value) (e:Ending) (w':World),MPost w0 base m sb s' v X tv e w'→MPost w0 base m sb s' v w tv e w':=λ_ _ _ _ ⟨e1,tv',e2,e3⟩=>⟨e1,tv',e2,(Went.nil HW.out).trans e3⟩
 have HF:=Lib.hid fin
 clear fin
 unfold MS.does MS.ok
 by_cases k1:k=1
 ·subst k1
  rw [if_pos rfl,if_pos rfl]
  clear c2 c3 c4 x2
  generalize decide (s.busy t)=bv at*
  go_enter func18,ntmps18
  go_upto_region 1 with fail
  rw [←HX.out]
  go_wp2_with (go_at_call 27;(with_reducible refine c1.mono ?_);intro e w' hq;have HQ:=Lib.hid hq;obtain rfl:=hq.1;clear hq)
  go_ret
  exact HF.out _ _ _ _ HQ.out
 rw [if_neg k1,if_neg k1]
 by_cases k2:k=2
 ·subst k2
  rw [if_pos rfl,if_pos rfl]
  clear c1 c3 c4 x2 x1
  generalize decide (s.now≠1099511627776)=bv at*
  go_enter func18,ntmps18
  go_upto_region 1 with fail
  rw [←HX.out]
  go_wp2_with (go_at_call 28;(with_reducible refine c2.mono ?_);intro e w' hq;have HQ:=Lib.hid hq;obtain rfl:=hq.1;clear hq)
  go_ret
  exact HF.out _ _ _ _ HQ.out
 rw [if_neg k2,if_neg k2]
 by_cases k3:k=3
 ·subst k3
  rw [if_pos rfl,if_pos rfl]
  clear c1 c2 c4
  generalize decide (lockE s.a.s t (s.dead x)=0)=bv at*
  go_enter func18,ntmps18
  go_upto_region 1 with fail
  rw [←HX.out]
  go_wp2_with (go_at_call 29;(with_reducible refine c3.mono ?_);intro e w' hq;have HQ:=Lib.hid hq;obtain rfl:=hq.1;clear hq)
  go_ret
  exact HF.out _ _ _ _ HQ.out
 rw [if_neg k3,if_neg k3]
 by_cases k4:k=4
 ·subst k4
  rw [if_pos rfl,if_pos rfl]
  clear c1 c2 c3 x2
  generalize decide (turnE s.a.s t=0)=bv at*
  go_enter func18,ntmps18
  go_upto_region 1 with fail
  rw [←HX.out]
  go_wp2_with (go_at_call 30;(with_reducible refine c4.mono ?_);intro e w' hq;have HQ:=Lib.hid hq;obtain rfl:=hq.1;clear hq)
  go_ret
  exact HF.out _ _ _ _ HQ.out
 rw [if_neg k4,if_neg k4]
 clear c1 c2 c3 c4 x1 x2
 go_enter func18,ntmps18
 go_upto_region 1 with fail
 rw [←HX.out]
 go_wp2
 go_ret
 exact ⟨rfl,tv,H0.out.after HW.out,Went.nil HW.out⟩
theorem MS.does_idle (s:MS) (k t x:Int):(s.does k t x).idle=s.idle:=by
 unfold MS.does MS.pick MS.tick MS.call MS.fin
 repeat' split
 all_goals rfl
theorem mc_do (h:McAt w0 base w m sb s tv) {j:Nat} (hF:s.Few j) (hj:j≤100000) (k t x:Int):
  Calls prog 8 #[.pointer (some ⟨m,0,none⟩),.agg #[.int .i64 k,.int .i64 t,.int .i64 x]] w (MPost w0 base m sb (s.Do k t x) (.bool (s.ok k t x)) w tv):=by
 obtain ⟨X,hX⟩:∃ X,X=w.alloc (.cells #[.int .i64 k,.int .i64 t,.int .i64 x] 34):=⟨_,rfl⟩
 have hWX:Wr Nil w X:=by rw [hX];exact (Wr.refl _ w).alloc _
 have hB:X.heap[w.heap.size]? =some (.cells #[.int .i64 k,.int .i64 t,.int .i64 x] 34 (0,0)):=by rw [hX];exact Go.Deep.blk_alloc_new _ _
 have x0:X.cell? ⟨w.heap.size,0,none⟩=some (.int .i64 k):=(blk_cell hB 0).trans rfl
 have x1:X.cell? ⟨w.heap.size,1,none⟩=some (.int .i64 t):=(blk_cell hB 1).trans rfl
 have x2:X.cell? ⟨w.heap.size,2,none⟩=some (.int .i64 x):=(blk_cell hB 2).trans rfl
 have cD:=mc_does (h.after hWX) hF hj k t x
 have hi:=hF.idle
 have hi2:s.idle+1≤100001:=by omega
 have he:=s.does_idle k t x
 have HX:=Lib.hid hX
 have HW:=Lib.hid hWX
 clear hX hWX hB hF h
 unfold MS.Do
 cases hb:s.ok k t x
 ·rw [hb] at cD
  rw [if_neg (by decide)]
  clear hb
  generalize s.does k t x=s' at*
  have HE:=Lib.hid he
  clear he
  go_enter func8,ntmps8
  go_upto_region 1 with fail
  rw [←HX.out]
  go_wp2_with (go_at_call 18;(with_reducible refine cD.mono ?_);intro e w' hq;unfold MPost at hq;obtain ⟨rfl,tv',hM,hWe⟩:=hq;have c5:=hM.c5;rw [HE.out] at c5;have z5:=hM.fz 5;have HM:=Lib.hid (And.intro (hM.setBox (s':=s'.idles) 5 (.int .i64 (s'.idle+1)) rfl rfl rfl rfl) hWe);clear hM hWe)
  go_ret
  have e5:=HE.out
  obtain ⟨h1,h2⟩:=HM.out
  rw [e5] at h1
  exact ⟨rfl,_,h1,((Went.nil HW.out).trans h2).trans (Went.low ((Wr.refl (One m) _).setCell _ _ λ_=>rfl) λb _ x=> .inr (.inl x))⟩
 ·rw [hb] at cD
  rw [if_pos rfl]
  clear hb he
  generalize s.does k t x=s' at*
  go_enter func8,ntmps8
  go_upto_region 1 with fail
  rw [←HX.out]
  go_wp2_with (go_at_call 18;(with_reducible refine cD.mono ?_);intro e w' hq;unfold MPost at hq;obtain ⟨rfl,tv',hM,hWe⟩:=hq;have HM:=Lib.hid (And.intro hM hWe);clear hM hWe)
  go_ret
  exact ⟨rfl,_,HM.out.1,(Went.nil HW.out).trans HM.out.2⟩
end
end Go.Proofs.YtmnephejhkfchaaGreat

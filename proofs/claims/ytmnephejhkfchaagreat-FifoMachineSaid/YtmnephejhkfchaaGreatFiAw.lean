
import Derived.Test.YtmnephejhkfchaaGreatFiDo
namespace Go.Proofs.YtmnephejhkfchaaGreat.Fi
set_option maxHeartbeats 8000000
open _root_.Go.Proofs.Tryz Go.Deep
open Go.RowKit Go.BigFrame
set_option linter.unusedVariables false
set_option maxRecDepth 100000
section
variable {base p sb n:Nat} {w w':World} {x:FA} {v:Value}
theorem del_any {B t:Nat} {l:List Nat} (h:w.ownsRow base 3 1 v l.length (l.map nv)) (hL:l.length≤1000000) (hB:w.cell? ⟨B,0,none⟩=some (.int .i64 (t:Int))) (hBv:v.ownBlock≠some B) (hd:l.Nodup):
  Calls prog 46 #[v,.func (.func 47) #[] #[.pointer (some ⟨B,0,none⟩)]] w (DelPost base w v (l.filter λu=>decide (u≠t))):=by
 by_cases ht:t∈l
 ·obtain ⟨i,hi⟩:=List.getElem?_of_mem ht
  exact del_yes h hL hB hBv hd hi
 ·exact del_no h hL hB ht
theorem wp_region_tail {P:Program} {id:Nat} {Q:Exit→Act→World→Prop} {a:Act} {w:World} {l:List Oper} (n:Nat) (hm:P.follows .mixedOrders=true) (hB:Region.lexTailB .any l.toArray n=true)
  (h:wpStill P l.toArray w.drew (λa'=>wpList P l.toArray Q (l.drop n) a' w.drew) (l.take n) a):(Code.region id l.toArray true).wp P Q a w:=wp_region_still_tail n hm hB h
def GoPost (base p sb n:Nat) (x:FA) (w:World) (e:Ending) (w':World):Prop:=e= .returned (.tuple #[])∧∃ v',FaM base w' p sb n x v'∧Wr (FT p sb base) w w'
structure Amid (base p sb n B t:Nat) (s:Nat→Nat) (w:World) (q:List Nat) (v:Value) (w':World):Prop where
 m:FaM base w' p sb n ⟨s,q⟩ v
 box:w'.heap[B]? =some (.cells #[.int .i64 (t:Int)] 3 (0,0))
 wr:Wr (FT p sb base) w w'
 big:base≤B
 few:q.length≤1000
 own:∀ j,v.ownBlock=some j→j≠B
theorem go_end {B t:Nat} {s:Nat→Nat} {q:List Nat} (h:Amid base p sb n B t s w q v w') {W:World} (k:Wr Nil w' W) (c:Nat):GoPost base p sb n ⟨upd s t c,q⟩ w (.returned (.tuple #[])) (W.setCell ⟨sb,t,none⟩ (.int .i64 (c:Int))):=
 ⟨rfl,v,(h.m.after k).setS t c,((h.wr.trans k λ_ _ e=>e.elim).setCell _ _ λ_=> .inr (.inl rfl))⟩
theorem amid5 {B t g cp cp':Nat} {so:Option Addr} {s:Nat→Nat} {q:List Nat} {Y Z w5:World} (h:Amid base p sb n B t s w q (.slice so q.length cp) Y) (hY:Wr Nil Y Z) (hZ:FaM base Z p sb n ⟨s,q⟩ (.slice so q.length cp)) (hB5:w5.heap[B]? =some (.cells #[.int .i64 (t:Int)] 3 (0,0)))
  (g1:w5.ownsRow base 3 1 (.slice (some ⟨g,0,none⟩) (q.length+1) cp') (q.length+1) ((q++[t]).map nv)) (g2:Z.grownBy w5 (Value.slice so q.length cp).ownBlock) (g3:(Value.slice so q.length cp).ownBlock=some g∨g=Z.heap.size) (hq:q.length≤64):
  Amid base p sb n B t s w (q++[t]) (.slice (some ⟨g,0,none⟩) (q.length+1) cp') (w5.setCell ⟨p,1,none⟩ (.slice (some ⟨g,0,none⟩) (q.length+1) cp')):=by
 have hS:∀ b,(Value.slice so q.length cp).ownBlock=some b→base≤b:=λb e=>(hZ.lt b e).1
 have k5:Wr (λb=>(Value.slice so q.length cp).ownBlock=some b) Z w5:=(Wr.refl _ Z).grown g2 λj hj _=>hj
 have kk:Wr (One p) w5 (w5.setCell ⟨p,1,none⟩ (.slice (some ⟨g,0,none⟩) (q.length+1) cp')):=(Wr.refl _ w5).setCell _ _ λ_=>rfl
 have hlow:=h.m.low
 have hbig:=h.big
 have hBY:=blk_lt h.box
 have hYs:=hY.size
 refine ⟨hZ.put k5 hS (by rw [List.length_append];exact g1),(kk.block B (blk_lt hB5) λe=>by unfold One at e;omega).trans hB5,((h.wr.trans hY λ_ _ e=>e.elim).trans k5 λb _ e=> .inr (.inr (hS b e))).trans kk λb _ e=>(by unfold One at e;exact .inl e),hbig,by rw [List.length_append];exact Nat.le_trans (Nat.succ_le_succ hq) (by decide),λj hj e=> ?_⟩
 have hj':g=j:=by simpa [Value.ownBlock] using hj
 subst hj'
 rcases g3 with e3|e3
 ·exact h.own _ e3 e
 ·omega
theorem go_any (h:FaAt base w p sb n x v) (t c:Nat) (ht:t<n) (hc:c≤4):Calls prog 32 #[.pointer (some ⟨p,0,none⟩),.int .i64 (t:Int),.int .i64 (c:Int)] w (GoPost base p sb n (x.goOn t c) w):=by
 obtain ⟨i0,hi,hz0,hz1,hz2⟩:=info_parts3 info
 obtain ⟨X,hX⟩:∃ X,X=w.alloc (.cells #[.int .i64 (t:Int)] 3):=⟨_,rfl⟩
 have hWX:Wr Nil w X:=by rw [hX];exact (Wr.refl _ w).alloc _
 have hM:=h.after hWX
 obtain ⟨B,hBe⟩:∃ B,B=w.heap.size:=⟨_,rfl⟩
 have hB:X.heap[B]? =some (.cells #[.int .i64 (t:Int)] 3 (0,0)):=by rw [hX,hBe];exact blk_alloc_new _ _
 have b0:X.cell? ⟨B,0,none⟩=some (.int .i64 (t:Int)):=(blk_cell hB 0).trans rfl
 have c1:=hM.m.c1
 have hfew:=h.ok.few
 have h64:=h.m.n64
 have hvB:v.ownBlock≠some B:=λe=>by have:=h.m.lt _ e;omega
 have cD:=del_any hM.m.que (by omega) b0 hvB h.ok.nd
 have htop:=h.m.top
 have HX:=Lib.hid (And.intro hX (And.intro hBe (And.intro hWX (And.intro hB (show base≤B by omega)))))
 have HM:=Lib.hid (And.intro hM (show (x.q.filter λu=>decide (u≠t)).length≤64 from Nat.le_trans (List.length_filter_le _ _) (by omega)))
 have Hv:=Lib.hid hvB
 clear h hX hWX hM hBe hB b0 hvB htop
 unfold FA.goOn
 generalize hq:(x.q.filter λu=>decide (u≠t))=q at*
 have Hq:=Lib.hid hq
 clear hq
 obtain ⟨q',hq'⟩:∃ q',q'=q++if c=2 then [t] else []:=⟨_,rfl⟩
 rw [←hq']
 have HQ:=Lib.hid hq'
 clear hq'
 go_enter func32,ntmps32
 go_upto_region 1 with fail
 rw [←HX.out.1,←HX.out.2.1]
 go_upto_region 2 with (go_at_call 46;(with_reducible refine cD.mono ?_);intro e w1 hq;unfold DelPost at hq;obtain ⟨v1,rfl,hown,hv1,hW1⟩:=hq;obtain ⟨so1,cp1,rfl,_⟩:=own_slice hown;have f1:w1.frozen? ⟨p,1,none⟩=false:=(World.frozen?_of_block (hW1.block p (blk_lt HM.out.1.m.box) λe=>by have:=HM.out.1.m.lt _ e;have:=HM.out.1.m.low;omega)).trans (HM.out.1.m.fz 1);have d1:w1.cell? ⟨p,1,none⟩=some v:=(World.cell?_of_block (hW1.block p (blk_lt HM.out.1.m.box) λe=>by have:=HM.out.1.m.lt _ e;have:=HM.out.1.m.low;omega)).trans HM.out.1.m.c1;have H1:=Lib.hid (And.intro hown (And.intro hv1 hW1));clear hown hv1 hW1 cD)
 obtain ⟨Y,hY⟩:∃ Y,Y=w1.setCell ⟨p,1,none⟩ (.slice so1 q.length cp1):=⟨_,rfl⟩
 have hA:Amid base p sb n B t x.st w q (.slice so1 q.length cp1) Y:=by
  have hlow:=HM.out.1.m.low
  have hbB:=HX.out.2.2.2.2
  have hk:Wr (One p) w1 Y:=by rw [hY];exact (Wr.refl _ w1).setCell _ _ λ_=>rfl
  have hS:∀ b,v.ownBlock=some b→base≤b:=λb e=>(HM.out.1.m.lt b e).1
  refine ⟨by rw [hY];exact HM.out.1.m.put H1.out.2.2 hS H1.out.1,?_,?_,hbB,Nat.le_trans HM.out.2 (by decide),λj hj e=>by rw [H1.out.2.1,e] at hj;exact Hv.out hj⟩
  ·have h1:=(H1.out.2.2.block B (blk_lt HX.out.2.2.2.1) λe=>Hv.out e).trans HX.out.2.2.2.1
   exact (hk.block B (blk_lt h1) λe=>by unfold One at e;omega).trans h1
  ·refine (((HX.out.2.2.1.mono λ_ _ e=>e.elim).trans H1.out.2.2 λb _ e=> .inr (.inr (hS b e))).trans hk λb _ e=> ?_)
   unfold One at e
   exact .inl e
 rw [←hY]
 have HA:=Lib.hid hA
 have c0:=hA.m.c0
 have b0:Y.cell? ⟨B,0,none⟩=some (.int .i64 (t:Int)):=(blk_cell hA.box 0).trans rfl
 have hq64:=HM.out.2
 clear HX Hv Hq HM
 have s0:∃ u,Y.cell? ⟨sb,t,none⟩=some u:=⟨_,hA.m.sc ht⟩
 have sf:Y.frozen? ⟨sb,t,none⟩=false:=hA.m.sf t
 obtain ⟨u0,s0⟩:=s0
 clear hA hY f1 d1 c1
 by_cases h2:c=2
 ·have hQ:=HQ.out
  rw [if_pos h2] at hQ
  have HQ2:=Lib.hid hQ
  clear hQ HQ
  subst h2
  clear c0 b0 s0 sf u0
  have c1:Y.cell? ⟨p,1,none⟩=some (.slice so1 q.length cp1):=HA.out.m.c1
  have hYY:Wr Nil Y (Y.alloc (.cells #[.int .i64 (t:Int)] 3)).drew:=((Wr.refl Nil Y).alloc _).drew
  have c1':(Y.alloc (.cells #[.int .i64 (t:Int)] 3)).cell? ⟨p,1,none⟩=some (.slice so1 q.length cp1):=hYY.old HA.out.m.c1
  have hMY:=HA.out.m.after hYY
  have hBY:=(hYY.block _ (blk_lt HA.out.box) id).trans HA.out.box
  have hnews:=news_at Y (#[.int .i64 (t:Int)]:Array Value).toList 3 _ rfl
  have hBp:B≠p:=λe=>by have:=HA.out.m.low;have:=HA.out.big;omega
  have HY:=Lib.hid (And.intro hMY hYY)
  have HBB:=Lib.hid (And.intro HA.out.box hBY)
  have HN:=Lib.hid hnews
  have Hne:=Lib.hid hBp
  have HO:=Lib.hid hMY.que
  have Htop:=Lib.hid hMY.top
  clear hMY hYY hBY hnews hBp
  go_upto_region 3 with fail
  refine wp_region_held_drew (S:=λw'=>w'.heap[B]? =some (.cells #[.int .i64 (t:Int)] 3 (0,0))) (by kernel_rfl) HBB.out.1 (λhHeld=> ?_)
  refine tk (i:=0) (v:= ?v1) rfl ?hy1 ?rest1
  case hy1=>intro w hSw;(try dsimp only at hSw);go_simp;try with_reducible rfl
  (try simp only [Act.put,List.setIfInBounds_toArray])
  refine tk (i:=1) (v:= ?v2) rfl ?hy2 ?rest2
  case hy2=>intro w hSw;(try dsimp only at hSw);go_simp;try with_reducible rfl
  (try simp only [Act.put])
  refine tk (i:=2) (v:= ?v3) rfl ?hy3 ?rest3
  case hy3=>intro w hSw;(try dsimp only at hSw);go_simp;try with_reducible rfl
  (try simp only [Act.put])
  refine tk (i:=3) (v:= ?v4) rfl ?hy4 ?rest4
  case hy4=>intro w hSw;(try dsimp only at hSw);go_simp;try with_reducible rfl
  (try simp only [Act.put])
  refine tk (i:=5) (v:= ?v5) rfl ?hy5 ?rest5
  case hy5=>intro w hSw;have e0:w.cell? ⟨B,0,none⟩=some (.int .i64 (t:Int)):=(blk_cell hSw 0).trans rfl;(try dsimp only at hSw);go_simp;try with_reducible rfl
  (try simp only [Act.put])
  refine wpAnyH_ready (rs:=[4,6]) (by kernel_rfl) (by simp) ?_
  refine AllReadyH.cons rfl (λK hK=> ?_) (AllReadyH.cons rfl (λK hK=> ?_) AllReadyH.nil)
  ·skip
   go_simp
   refine hK.out _ _ HBB.out.1 (λhHeld2=> ?_)
   clear hHeld K hK
   have hHeld:=hHeld2
   clear hHeld2
   (try simp only [Act.put,List.setIfInBounds_toArray,List.set_cons_zero,List.set_cons_succ])
   refine wpAnyH_ready (rs:=[6]) (by kernel_rfl) (by simp) ?_
   refine AllReadyH.cons rfl (λK hK=> ?_) (AllReadyH.nil)
   go_simp
   refine hK.out _ _ HBB.out.2 (λhHeld2=> ?_)
   clear hHeld K hK
   have hHeld:=hHeld2
   clear hHeld2
   (try simp only [Act.put,List.setIfInBounds_toArray,List.set_cons_zero,List.set_cons_succ])
   refine wpAnyH_ready (rs:=[7]) (by kernel_rfl) (by simp) ?_
   refine AllReadyH.cons rfl (λK hK=> ?_) AllReadyH.nil
   refine step_append_lies _ (by rfl) _ _ 22 (by rfl) base 3 i0 (.int .i64 0) 1 8 underlying22 hi hz0 hz1 hz2 rfl (by decide) (.slice so1 q.length cp1) q.length (q.map nv) (by simp [Act.eval]) HO.out ⟨Y.heap.size,0,none⟩ 1 1 [nv t] (by simp [Act.eval]) rfl HN.out (by intro u hu;cases List.mem_singleton.1 hu;rfl) (by decide) (by unfold maxLen;omega) (by omega) Htop.out _ rfl ?_
   intro g cp' w5 g1 g2 g3 g4
   have f3:w5.frozen? ⟨p,1,none⟩=false:=(World.frozen?_of_block (g2.block p (blk_lt HY.out.1.box) λe=>by have:=HY.out.1.lt _ e.symm;have:=HY.out.1.low;omega)).trans (HY.out.1.fz 1)
   have hB5:w5.heap[B]? =some (.cells #[.int .i64 (t:Int)] 3 (0,0)):=(g2.block B (blk_lt HBB.out.2) λe=>HA.out.own _ e.symm rfl).trans HBB.out.2
   have hA5:Amid base p sb n B t x.st w (q++[t]) (.slice (some ⟨g,0,none⟩) (q.length+1) cp') (w5.setCell ⟨p,1,none⟩ (.slice (some ⟨g,0,none⟩) (q.length+1) cp')):=amid5 HA.out HY.out.2 HY.out.1 hB5 (by rw [List.map_append];exact g1) g2 g3 hq64
   have c5:∃ v,w5.cell? ⟨p,1,none⟩=some v:=⟨_,(World.cell?_of_block (g2.block p (blk_lt HY.out.1.box) λe=>by have:=HY.out.1.lt _ e.symm;have:=HY.out.1.low;omega)).trans HY.out.1.c1⟩
   obtain ⟨v5,c5⟩:=c5
   have H5:=Lib.hid hA5
   clear g1 g2 g3 g4 hA5
   refine hK.out _ _ hB5 (λhHeld2=> ?_)
   clear hHeld K hK
   have hHeld:=hHeld2
   clear hHeld2
   (try simp only [Act.put,List.setIfInBounds_toArray])
   refine tk (i:=8) (v:= ?v6) rfl ?hy6 ?rest6
   case hy6=>intro w hSw;(try dsimp only at hSw);go_simp;try with_reducible rfl
   (try simp only [Act.put])
   refine tk (i:=9) (v:= ?v7) rfl ?hy7 ?rest7
   case hy7=>intro w hSw;(try dsimp only at hSw);go_simp;try with_reducible rfl
   (try simp only [Act.put])
   refine wpAnyH_ready (rs:=[10]) (by kernel_rfl) (by simp) ?_
   refine AllReadyH.cons rfl (λK hK=> ?_) AllReadyH.nil
   go_simp
   refine hK.out _ _ ((blk_setCell_other _ _ _ _ Hne.out).trans hB5) (λhHeld2=> ?_)
   clear hHeld K hK
   have hHeld:=hHeld2
   clear hHeld2
   (try simp only [Act.put,List.setIfInBounds_toArray,List.set_cons_zero,List.set_cons_succ])
   refine wpAnyH_done (by kernel_rfl) ?_ _
   clear f3 hB5 c5 hHeld
   generalize w5.setCell ⟨p,1,none⟩ (.slice (some ⟨g,0,none⟩) (q.length+1) cp')=W6 at*
   have c0:=H5.out.m.c0
   have b0:W6.cell? ⟨B,0,none⟩=some (.int .i64 (t:Int)):=(blk_cell H5.out.box 0).trans rfl
   have s0:∃ u,W6.cell? ⟨sb,t,none⟩=some u:=⟨_,H5.out.m.sc ht⟩
   have sf:W6.frozen? ⟨sb,t,none⟩=false:=H5.out.m.sf t
   obtain ⟨u0,s0⟩:=s0
   clear c1 c1'
   go_upto_region 4 with fail
   refine wp_region_tail 7 (by kernel_rfl) (by kernel_rfl) ?_
   simp only [List.take_succ_cons,List.take_zero,List.drop_succ_cons,List.drop_zero]
   repeat still_step
   refine wpStill_nil ?_
   have HE:=Lib.hid (go_end H5.out ((Wr.refl Nil W6).drew) 2)
   have s1:W6.drew.cell? ⟨sb,t,none⟩=some u0:=s0
   have sf1:W6.drew.frozen? ⟨sb,t,none⟩=false:=sf
   generalize W6.drew=Y6 at*
   go_step
   go_wp2
   go_returns
   rw [HQ2.out]
   exact HE.out
  ·skip
   go_simp
   refine hK.out _ _ HBB.out.2 (λhHeld2=> ?_)
   clear hHeld K hK
   have hHeld:=hHeld2
   clear hHeld2
   (try simp only [Act.put,List.setIfInBounds_toArray,List.set_cons_zero,List.set_cons_succ])
   refine wpAnyH_ready (rs:=[4]) (by kernel_rfl) (by simp) ?_
   refine AllReadyH.cons rfl (λK hK=> ?_) (AllReadyH.nil)
   go_simp
   refine hK.out _ _ HBB.out.2 (λhHeld2=> ?_)
   clear hHeld K hK
   have hHeld:=hHeld2
   clear hHeld2
   (try simp only [Act.put,List.setIfInBounds_toArray,List.set_cons_zero,List.set_cons_succ])
   refine wpAnyH_ready (rs:=[7]) (by kernel_rfl) (by simp) ?_
   refine AllReadyH.cons rfl (λK hK=> ?_) AllReadyH.nil
   refine step_append_lies _ (by rfl) _ _ 22 (by rfl) base 3 i0 (.int .i64 0) 1 8 underlying22 hi hz0 hz1 hz2 rfl (by decide) (.slice so1 q.length cp1) q.length (q.map nv) (by simp [Act.eval]) HO.out ⟨Y.heap.size,0,none⟩ 1 1 [nv t] (by simp [Act.eval]) rfl HN.out (by intro u hu;cases List.mem_singleton.1 hu;rfl) (by decide) (by unfold maxLen;omega) (by omega) Htop.out _ rfl ?_
   intro g cp' w5 g1 g2 g3 g4
   have f3:w5.frozen? ⟨p,1,none⟩=false:=(World.frozen?_of_block (g2.block p (blk_lt HY.out.1.box) λe=>by have:=HY.out.1.lt _ e.symm;have:=HY.out.1.low;omega)).trans (HY.out.1.fz 1)
   have hB5:w5.heap[B]? =some (.cells #[.int .i64 (t:Int)] 3 (0,0)):=(g2.block B (blk_lt HBB.out.2) λe=>HA.out.own _ e.symm rfl).trans HBB.out.2
   have hA5:Amid base p sb n B t x.st w (q++[t]) (.slice (some ⟨g,0,none⟩) (q.length+1) cp') (w5.setCell ⟨p,1,none⟩ (.slice (some ⟨g,0,none⟩) (q.length+1) cp')):=amid5 HA.out HY.out.2 HY.out.1 hB5 (by rw [List.map_append];exact g1) g2 g3 hq64
   have c5:∃ v,w5.cell? ⟨p,1,none⟩=some v:=⟨_,(World.cell?_of_block (g2.block p (blk_lt HY.out.1.box) λe=>by have:=HY.out.1.lt _ e.symm;have:=HY.out.1.low;omega)).trans HY.out.1.c1⟩
   obtain ⟨v5,c5⟩:=c5
   have H5:=Lib.hid hA5
   clear g1 g2 g3 g4 hA5
   refine hK.out _ _ hB5 (λhHeld2=> ?_)
   clear hHeld K hK
   have hHeld:=hHeld2
   clear hHeld2
   (try simp only [Act.put,List.setIfInBounds_toArray])
   refine tk (i:=8) (v:= ?v8) rfl ?hy8 ?rest8
   case hy8=>intro w hSw;(try dsimp only at hSw);go_simp;try with_reducible rfl
   (try simp only [Act.put])
   refine tk (i:=9) (v:= ?v9) rfl ?hy9 ?rest9
   case hy9=>intro w hSw;(try dsimp only at hSw);go_simp;try with_reducible rfl
   (try simp only [Act.put])
   refine wpAnyH_ready (rs:=[10]) (by kernel_rfl) (by simp) ?_
   refine AllReadyH.cons rfl (λK hK=> ?_) AllReadyH.nil
   go_simp
   refine hK.out _ _ ((blk_setCell_other _ _ _ _ Hne.out).trans hB5) (λhHeld2=> ?_)
   clear hHeld K hK
   have hHeld:=hHeld2
   clear hHeld2
   (try simp only [Act.put,List.setIfInBounds_toArray,List.set_cons_zero,List.set_cons_succ])
   refine wpAnyH_done (by kernel_rfl) ?_ _
   clear f3 hB5 c5 hHeld
   generalize w5.setCell ⟨p,1,none⟩ (.slice (some ⟨g,0,none⟩) (q.length+1) cp')=W6 at*
   have c0:=H5.out.m.c0
   have b0:W6.cell? ⟨B,0,none⟩=some (.int .i64 (t:Int)):=(blk_cell H5.out.box 0).trans rfl
   have s0:∃ u,W6.cell? ⟨sb,t,none⟩=some u:=⟨_,H5.out.m.sc ht⟩
   have sf:W6.frozen? ⟨sb,t,none⟩=false:=H5.out.m.sf t
   obtain ⟨u0,s0⟩:=s0
   clear c1 c1'
   go_upto_region 4 with fail
   refine wp_region_tail 7 (by kernel_rfl) (by kernel_rfl) ?_
   simp only [List.take_succ_cons,List.take_zero,List.drop_succ_cons,List.drop_zero]
   repeat still_step
   refine wpStill_nil ?_
   have HE:=Lib.hid (go_end H5.out ((Wr.refl Nil W6).drew) 2)
   have s1:W6.drew.cell? ⟨sb,t,none⟩=some u0:=s0
   have sf1:W6.drew.frozen? ⟨sb,t,none⟩=false:=sf
   generalize W6.drew=Y6 at*
   go_step
   go_wp2
   go_returns
   rw [HQ2.out]
   exact HE.out
 ·have h2':((c:Int)==2)=false:=beq_false_of_ne (by omega)
  have hQ:=HQ.out
  rw [if_neg h2,List.append_nil] at hQ
  have HQ2:=Lib.hid hQ
  clear h2 hQ HQ
  go_upto_region 4 with fail
  refine wp_region_tail 7 (by kernel_rfl) (by kernel_rfl) ?_
  simp only [List.take_succ_cons,List.take_zero,List.drop_succ_cons,List.drop_zero]
  repeat still_step
  refine wpStill_nil ?_
  have HE:=Lib.hid (go_end HA.out ((Wr.refl Nil Y).drew) c)
  have s1:Y.drew.cell? ⟨sb,t,none⟩=some u0:=s0
  have sf1:Y.drew.frozen? ⟨sb,t,none⟩=false:=sf
  generalize Y.drew=Y6 at*
  go_step
  go_wp2
  go_returns
  rw [HQ2.out]
  exact HE.out
def TkPost (base p sb n:Nat) (x:FA) (e0:Ent) (w:World) (e:Ending) (w':World):Prop:=Wr (FT p sb base) w w'∧
 ((e= .returned (.bool false)∧x.take n e0=none∧∃ v',FaAt base w' p sb n x v')∨∃ y v',e= .returned (.bool true)∧x.take n e0=some y∧FaAt base w' p sb n y v')
theorem fi_take (h:FaAt base w p sb n x v) (k t z:Int) (ld:Bool):Calls prog 20 #[.pointer (some ⟨p,0,none⟩),.agg #[.int .i64 k,.int .i64 t,.int .i64 z,.bool ld]] w (TkPost base p sb n x ⟨k,t,z,ld⟩ w):=by
 obtain ⟨X,hX⟩:∃ X,X=w.alloc (.cells #[.int .i64 k,.int .i64 t,.int .i64 z,.bool ld] 48):=⟨_,rfl⟩
 have hWX:Wr Nil w X:=by rw [hX];exact (Wr.refl _ w).alloc _
 have hM:=h.after hWX
 obtain ⟨B,hBe⟩:∃ B,B=w.heap.size:=⟨_,rfl⟩
 have hB:X.heap[B]? =some (.cells #[.int .i64 k,.int .i64 t,.int .i64 z,.bool ld] 48 (0,0)):=by rw [hX,hBe];exact blk_alloc_new _ _
 have e0:X.cell? ⟨B,0,none⟩=some (.int .i64 k):=(blk_cell hB 0).trans rfl
 have e1:X.cell? ⟨B,1,none⟩=some (.int .i64 t):=(blk_cell hB 1).trans rfl
 have e2:X.cell? ⟨B,2,none⟩=some (.int .i64 z):=(blk_cell hB 2).trans rfl
 have e3:X.cell? ⟨B,3,none⟩=some (.bool ld):=(blk_cell hB 3).trans rfl
 have cN:=fi_next hM k t z ld
 have HX:=Lib.hid (And.intro hX (And.intro hBe hWX))
 have HM:=Lib.hid (And.intro hM hB)
 clear h hX hBe hWX hB hM
 go_enter func20,ntmps20
 go_upto_region 1 with fail
 rw [←HX.out.1,←HX.out.2.1]
 go_upto_region 2 with (go_at_call 31;(with_reducible refine cN.mono ?_);intro e w1 hq;unfold NxPost at hq;obtain ⟨hW1,c,b,rfl,hb,hc⟩:=hq;have d1:=hW1.old e1;have H1:=Lib.hid (And.intro hW1 (And.intro hb hc));clear hW1 hb hc cN)
 clear e0 e1 e2 e3
 cases b with
 |false=>
  go_wp2
  go_returns
  exact ⟨((HX.out.2.2.nil H1.out.1).mono λ_ _ e=>e.elim),.inl ⟨rfl,FA.take_not (λq=>Bool.noConfusion (H1.out.2.1.2 q)),v,HM.out.1.after H1.out.1⟩⟩
 |true=>
  have hf:=H1.out.2.1.1 rfl
  have hc:=H1.out.2.2 rfl
  subst hc
  have h0:=hf.1
  obtain ⟨tt,rfl⟩:∃ tt:Nat,t=tt:=⟨t.toNat,by dsimp only at h0;omega⟩
  have htn:tt<n:=by dsimp only at h0;omega
  have cG:=go_any (HM.out.1.after H1.out.1) tt (FA.nx k) htn (FA.nx_le k)
  have htk:=FA.take_fits HM.out.1.ok hf
  have HF:=Lib.hid (And.intro htk (And.intro htn (FA.goOn_ok HM.out.1.ok htn (FA.nx_le k))))
  clear hf h0 htk htn
  change Calls _ _ _ _ (GoPost _ _ _ _ (x.goOn tt (FA.nx k)) _) at cG
  generalize FA.nx k=c at*
  go_wp2_with (go_at_call 32;(with_reducible refine cG.mono ?_);intro e w2 hq;unfold GoPost at hq;obtain ⟨rfl,v2,hM2,hW2⟩:=hq;have H2:=Lib.hid (And.intro hM2 hW2);clear hM2 hW2 cG)
  go_returns
  refine ⟨((HX.out.2.2.nil H1.out.1).mono λ_ _ e=>e.elim).trans H2.out.2 λ_ _ e=>e,.inr ⟨_,v2,rfl,HF.out.1,?_⟩⟩
  exact ⟨H2.out.1,HF.out.2.2⟩
end
def held (t:Int):Nat:=(min (max t 0) 64).toNat
theorem held_le (t:Int):held t≤64:=by unfold held;omega
def NwPost (t:Int) (w:World) (e:Ending) (w':World):Prop:=∃ p sb v,e= .returned (.pointer (some ⟨p,0,none⟩))∧FaAt w'.heap.size w' p sb (held t) FA.new v∧Wr Nil w w'∧w.heap.size≤p∧w.heap.size≤sb
theorem fi_nw_of {w w3:World} {m:Nat} (hm:m≤64) {t:Int} (ht:held t=m) (h3:w3=(w.alloc (.cells (stc m λ_=>0) 3)).alloc (.cells #[.slice (some ⟨w.heap.size,0,none⟩) m m,.slice none 0 0] 71)):
  NwPost t w (.returned (.pointer (some ⟨w.heap.size+1,0,none⟩))) w3:=by
 have e1:=nblk_alloc w (.cells (stc m λ_=>0) 3)
 have b1:=blk_alloc_new w (.cells (stc m λ_=>0) 3)
 generalize hw1:w.alloc (.cells (stc m λ_=>0) 3)=w1 at*
 have e2:=nblk_alloc w1 (.cells #[.slice (some ⟨w.heap.size,0,none⟩) m m,.slice none 0 0] 71)
 have b2:=blk_alloc_new w1 (.cells #[.slice (some ⟨w.heap.size,0,none⟩) m m,.slice none 0 0] 71)
 have k2:Wr Nil w1 w3:=by rw [h3];exact (Wr.refl _ _).alloc _
 have k1:Wr Nil w w1:=by rw [←hw1];exact (Wr.refl _ _).alloc _
 rw [←h3] at e2 b2
 rw [e1] at e2 b2
 refine ⟨w.heap.size+1,w.heap.size,.slice none 0 0,rfl,⟨⟨?_,?_,World.ownsRow_nil _ _ _ _,by rw [ht];exact hm,by omega,Nat.le_refl _⟩,FA.new_ok⟩,k1.nil k2,by omega,Nat.le_refl _⟩
 ·rw [ht];exact b2
 ·rw [ht];exact (k2.block _ (by omega) id).trans b1
theorem fi_new (w:World) (t:Int):Calls prog 19 #[.int .i64 t] w (NwPost t w):=by
 obtain ⟨i1,gi,gz0,gz1,gz2⟩:=info_parts3 info
 have hh:(min (max t 0) 64:Int)=(held t:Int):=by unfold held;omega
 have hn:=held_le t
 have hmk:(Instr.makeSlice 22 (.int .i64 (held t:Int)) (.int .i64 (held t:Int))).run prog w= .ok (.slice (some ⟨w.heap.size,0,none⟩) (held t) (held t)) (w.alloc (.cells (stc (held t) λ_=>0) 3)):=by
  have h:=Go.run_make (P:=prog) w 22 3 i1 _ underlying22 gi gz0 .i64 .i64 (held t) (held t) (by omega) (by omega) (by rw [gz2];omega) (by omega)
  rw [gz1] at h
  simp only [Int.toNat_natCast] at h
  have hm:madeCells (Value.int .i64 0).cells (held t*1)=stc (held t) λ_=>0:=by
   unfold stc nv
   simp only [Nat.mul_one,madeCells,Value.cells]
   apply Array.ext
   ·simp
   ·intro i h1 h2
    simp [Nat.mod_one]
  rw [hm] at h
  exact h
 have HE:=Lib.hid (fi_nw_of (w:=w) hn (t:=t) rfl rfl)
 have HH:=Lib.hid hh
 generalize held t=m at*
 rw [←hh] at hmk
 clear hh
 go_enter func19,ntmps19
 go_wp2
 go_ret
 exact HE.out
def ChPost (t:Int) (D:List Ent) (w:World) (e:Ending) (w':World):Prop:=e= .returned (.tuple #[.int .i64 (FA.new.chk (held t) D:Nat),.bool (decide (FA.new.chk (held t) D=D.length))])∧Wr Nil w w'
theorem fi_check {w:World} {sa:Option Addr} {N cap:Nat} {D:List Ent} (h:RecsAt Ent.cells 4 w sa N D) (hN:N≤100000) (t:Int):Calls prog 13 #[.int .i64 t,.slice sa N cap] w (ChPost t D w):=by
 have cN:=fi_new w t
 have hl:=h.len
 have H:=Lib.hid (And.intro h hl)
 clear h hl
 go_enter func13,ntmps13
 go_upto_region 2 with (go_at_call 19;(with_reducible refine cN.mono ?_);intro e w1 hq;unfold NwPost at hq;obtain ⟨p,sb,v,rfl,hM,hW,hp,hs⟩:=hq;have H1:=Lib.hid (And.intro hM (And.intro hW (And.intro hp hs)));clear hM hW hp hs cN)
 obtain ⟨base,hbase⟩:∃ base,base=w1.heap.size:=⟨_,rfl⟩
 have hb:w.heap.size≤base:=by rw [hbase];exact H1.out.2.1.size
 have HB:=Lib.hid (And.intro hbase hb)
 clear hbase hb
 go_wp2
 go_loopw [13] (λi wr=>∃ (k:Nat) (y:FA) (v:Value),k≤N∧i= .int .i64 k∧Hid (FA.new.run (held t) (D.take k)=some y∧FaAt base wr p sb (held t) y v∧Wr Nil w wr)) (λi _=>N-(intOf i).toNat)
 case atStart=>exact ⟨0,FA.new,v,Nat.zero_le _,rfl,Lib.hid ⟨rfl,HB.out.1▸H1.out.1,H1.out.2.1⟩⟩
 case round=>
  obtain ⟨k,y,v,hk,rfl,hR⟩:=hrel
  by_cases hlt:k<N
  ·have hkI:(k:Int)<N:=by omega
   obtain ⟨⟨x0,x1,x2,x3⟩,hx⟩:∃ x,D[k]? =some x:=⟨D[k]'(by rw [H.out.2];exact hlt),List.getElem?_eq_getElem _⟩
   rcases (H.out.1.after hR.out.2.2).at Ent.ne with h0|⟨gb,go,rfl,hc⟩
   ·omega
   have e0:wr.cell? ⟨gb,go+k*4,none⟩=some (.int .i64 x0):=hc k _ hx 0 _ rfl
   have e1:wr.cell? ⟨gb,go+k*4+1,none⟩=some (.int .i64 x1):=hc k _ hx 1 _ rfl
   have e2:wr.cell? ⟨gb,go+k*4+2,none⟩=some (.int .i64 x2):=hc k _ hx 2 _ rfl
   have e3:wr.cell? ⟨gb,go+k*4+3,none⟩=some (.bool x3):=hc k _ hx 3 _ rfl
   obtain ⟨X,hX⟩:∃ X,X=wr.alloc (.cells #[.int .i64 x0,.int .i64 x1,.int .i64 x2,.bool x3] 48):=⟨_,rfl⟩
   obtain ⟨B,hBe⟩:∃ B,B=wr.heap.size:=⟨_,rfl⟩
   have hWX:Wr Nil wr X:=by rw [hX];exact (Wr.refl _ _).alloc _
   have hB:X.heap[B]? =some (.cells #[.int .i64 x0,.int .i64 x1,.int .i64 x2,.bool x3] 48 (0,0)):=by rw [hX,hBe];exact blk_alloc_new _ _
   have cT:=fi_take (hR.out.2.1.after hWX) x0 x1 x2 x3
   have HX:=Lib.hid (And.intro hX (And.intro hBe (And.intro hWX (And.intro hB hx))))
   clear hX hBe hWX hB hc hx
   go_upto_region 5 with fail
   rw [←HX.out.1,←HX.out.2.1]
   have b0:X.cell? ⟨B,0,none⟩=some (.int .i64 x0):=(blk_cell HX.out.2.2.2.1 0).trans rfl
   have b1:X.cell? ⟨B,1,none⟩=some (.int .i64 x1):=(blk_cell HX.out.2.2.2.1 1).trans rfl
   have b2:X.cell? ⟨B,2,none⟩=some (.int .i64 x2):=(blk_cell HX.out.2.2.2.1 2).trans rfl
   have b3:X.cell? ⟨B,3,none⟩=some (.bool x3):=(blk_cell HX.out.2.2.2.1 3).trans rfl
   clear e0 e1 e2 e3
   go_upto_if 21 with (go_at_call 20;(with_reducible refine cT.mono ?_);intro e w2 hq;unfold TkPost at hq;obtain ⟨hW2,hq⟩:=hq;rcases hq with ⟨rfl,hn,v2,hA⟩|⟨y2,v2,rfl,hy,hA⟩)
   all_goals
    have hw:Wr Nil w w2:=(hR.out.2.2.nil HX.out.2.2.1).trans hW2 λb hb e=>by
     have h1:=H1.out.2.2
     have h2:=HB.out.2
     rcases e with e|e|e<;>omega
   ·have HE:=Lib.hid (show ChPost t D w (.returned (.tuple #[.int .i64 (k:Int),.bool false])) w2 from by
     have hc:=FA.chk_at hR.out.1 HX.out.2.2.2.2 hn
     unfold ChPost
     rw [hc,decide_eq_false (by have:=H.out.2;omega)]
     exact ⟨rfl,hw⟩)
    clear hw hW2 hA hn cT b0 b1 b2 b3
    go_wp2
    go_returns
    exact HE.out
   ·have HE:=Lib.hid (And.intro (FA.run_step hR.out.1 HX.out.2.2.2.2 hy) (And.intro hA hw))
    clear hw hW2 hA hy cT b0 b1 b2 b3
    go_wp2
    go_roundw
    case rel=>exact ⟨k+1,y2,v2,hlt,by go_num,HE⟩
    case measure=>simp [intOf];omega
  ·obtain rfl:k=N:=by omega
   have HE:=Lib.hid (show ChPost t D w (.returned (.tuple #[.int .i64 (k:Int),.bool true])) wr from by
    have hr:=hR.out.1
    rw [List.take_of_length_le (by rw [H.out.2];exact Nat.le_refl _)] at hr
    have hc:=FA.chk_all hr
    unfold ChPost
    rw [hc,decide_eq_true rfl,H.out.2]
    exact ⟨rfl,hR.out.2.2⟩)
   clear hR
   go_wp2
   go_returns
   exact HE.out
open _root_.Go.Proofs.Tryz
theorem recs_blk {w:World} {b:Nat} {cs:Array Value} {ty:TypeId} {D:List Ent} (h:w.heap[b]? =some (.cells cs ty (0,0))) (hc:cs.toList=D.flatMap Ent.cells):RecsAt Ent.cells 4 w (some ⟨b,0,none⟩) D.length D:=by
 refine ⟨rfl,(λe=>nomatch e),λa ha k x hx j u hu=> ?_⟩
 cases ha
 rw [Go.Addr.add_lit,Nat.zero_add,blk_cell h,←Array.getElem?_toList,hc,flat_at' Ent.clen D hx (by have:=(List.getElem?_eq_some_iff.1 hu).1;rw [Ent.clen] at this;exact this)]
 exact hu
def aw1:List Ent:=[⟨1,0,0,false⟩,⟨2,0,0,false⟩,⟨1,1,0,false⟩,⟨2,1,0,false⟩,⟨4,1,0,false⟩]
def aw2:List Ent:=[⟨1,0,0,false⟩,⟨2,0,0,false⟩,⟨1,1,0,false⟩,⟨2,1,0,false⟩,⟨4,0,0,false⟩]
theorem aw1_chk:FA.new.chk (held 2) aw1=4:=by decide
theorem aw2_chk:FA.new.chk (held 2) aw2=5:=by decide
def AwPost (w:World) (e:Ending) (w':World):Prop:=e= .returned (.bool true)∧Wr Nil w w'
theorem fi_awake (w:World):Calls prog 11 #[] w (AwPost w):=by
 obtain ⟨X,hX⟩:∃ X,X=w.alloc (.cells #[.int .i64 1,.int .i64 0,.int .i64 0,.bool false,.int .i64 2,.int .i64 0,.int .i64 0,.bool false,.int .i64 1,.int .i64 1,.int .i64 0,.bool false,.int .i64 2,.int .i64 1,.int .i64 0,.bool false,.int .i64 4,.int .i64 1,.int .i64 0,.bool false] 48):=⟨_,rfl⟩
 obtain ⟨B,hBe⟩:∃ B,B=w.heap.size:=⟨_,rfl⟩
 have hWX:Wr Nil w X:=by rw [hX];exact (Wr.refl _ _).alloc _
 have hB:X.heap[B]? =some (.cells #[.int .i64 1,.int .i64 0,.int .i64 0,.bool false,.int .i64 2,.int .i64 0,.int .i64 0,.bool false,.int .i64 1,.int .i64 1,.int .i64 0,.bool false,.int .i64 2,.int .i64 1,.int .i64 0,.bool false,.int .i64 4,.int .i64 1,.int .i64 0,.bool false] 48 (0,0)):=by rw [hX,hBe];exact Go.Deep.blk_alloc_new _ _
 have c1:=fi_check (N:=5) (cap:=5) (recs_blk (D:=aw1) hB rfl) (by decide) 2
 have e1:ChPost 2 aw1 X=λe w'=>e= .returned (.tuple #[.int .i64 4,.bool false])∧Wr Nil X w':=by unfold ChPost;rw [aw1_chk];rfl
 rw [e1] at c1
 have hs2:∀ W:World,W.heap[B]? =some (.cells #[.int .i64 1,.int .i64 0,.int .i64 0,.bool false,.int .i64 2,.int .i64 0,.int .i64 0,.bool false,.int .i64 1,.int .i64 1,.int .i64 0,.bool false,.int .i64 2,.int .i64 1,.int .i64 0,.bool false,.int .i64 4,.int .i64 1,.int .i64 0,.bool false] 48 (0,0))→(W.setCell ⟨B,17,none⟩ (.int .i64 0)).heap[B]? =some (.cells #[.int .i64 1,.int .i64 0,.int .i64 0,.bool false,.int .i64 2,.int .i64 0,.int .i64 0,.bool false,.int .i64 1,.int .i64 1,.int .i64 0,.bool false,.int .i64 2,.int .i64 1,.int .i64 0,.bool false,.int .i64 4,.int .i64 0,.int .i64 0,.bool false] 48 (0,0)):=λW h=>blk_setCell h 17 (.int .i64 0)
 have c2:∀ W:World,W.heap[B]? =some (.cells #[.int .i64 1,.int .i64 0,.int .i64 0,.bool false,.int .i64 2,.int .i64 0,.int .i64 0,.bool false,.int .i64 1,.int .i64 1,.int .i64 0,.bool false,.int .i64 2,.int .i64 1,.int .i64 0,.bool false,.int .i64 4,.int .i64 0,.int .i64 0,.bool false] 48 (0,0))→Calls prog 13 #[.int .i64 2,.slice (some ⟨B,0,none⟩) 5 5] W λe w'=>e= .returned (.tuple #[.int .i64 5,.bool true])∧Wr Nil W w':=λW h=>by
  have c:=fi_check (N:=5) (cap:=5) (recs_blk (D:=aw2) h rfl) (by decide) 2
  have e2:ChPost 2 aw2 W=λe w'=>e= .returned (.tuple #[.int .i64 5,.bool true])∧Wr Nil W w':=by unfold ChPost;rw [aw2_chk];rfl
  rw [e2] at c
  exact c
 have HX:=Lib.hid (And.intro hX (And.intro hBe (And.intro hWX (And.intro hB (And.intro hs2 (show w.heap.size≤B by omega))))))
 have H2:=Lib.hid c2
 clear hX hBe hWX hB e1 hs2 c2
 go_enter func11,ntmps11
 go_upto_region 2 with fail
 rw [←HX.out.1,←HX.out.2.1]
 go_upto_region 3 with (go_at_call 13;(with_reducible refine c1.mono ?_);rintro e w1 ⟨rfl,hW1⟩;have hB1:=(hW1.block B (blk_lt HX.out.2.2.2.1) id).trans HX.out.2.2.2.1;have f1:=blk_frozen hB1 17;have d1:w1.cell? ⟨B,17,none⟩=some (.int .i64 1):=(blk_cell hB1 17).trans rfl;have H1:=Lib.hid (And.intro hW1 hB1);clear hW1 hB1 c1)
 obtain ⟨Y,hY⟩:∃ Y,Y=w1.setCell ⟨B,17,none⟩ (.int .i64 0):=⟨_,rfl⟩
 have hBY:=HX.out.2.2.2.2.1 _ H1.out.2
 have hWY:Wr (One B) w1 Y:=by rw [hY];exact (Wr.refl _ w1).setCell _ _ λ_=>rfl
 rw [←hY] at hBY
 have c2:=H2.out Y hBY
 have HE:=Lib.hid ((HX.out.2.2.1.nil H1.out.1).one hWY HX.out.2.2.2.2.2)
 have HY:=Lib.hid hY
 clear hBY hWY hY H2
 go_upto_region 4 with fail
 rw [←HY.out]
 go_wp2_with (go_at_call 13;(with_reducible refine c2.mono ?_);rintro e w3 ⟨rfl,hW3⟩;have H3:=Lib.hid (HE.out.nil hW3);clear hW3)
 go_ret
 exact ⟨rfl,H3.out⟩
end Go.Proofs.YtmnephejhkfchaaGreat.Fi


import Derived.Test.YtmnephejhkfchaaGreatClhEnd
import Derived.Test.YtmnephejhkfchaaGreatFlatOrd
namespace Go.Proofs.YtmnephejhkfchaaGreat.Kc
set_option maxHeartbeats 8000000
open _root_.Go.Proofs.Tryz Go.Deep
open Go.RowKit Go.BigFrame
set_option linter.unusedVariables false
set_option maxRecDepth 100000
abbrev lkO (p:Nat) (x y:Int) (tb n:Nat):Array Value:= #[.pointer (some ⟨p,0,none⟩),.pointer none,.int .i64 x,.int .i64 y,.slice (some ⟨tb,0,none⟩) n n]
def nodeK (k j:Nat):Int:=if j<k then (j:Int)+1 else 0
theorem nodeK_more (k:Nat):upd (nodeK k) k ((k:Int)+1)=nodeK (k+1):=by
 funext j
 unfold nodeK upd
 by_cases e:j=k
 ·subst e;simp
 ·rw [if_neg e]
  show (if j<k then (j:Int)+1 else 0)=if j<k+1 then (j:Int)+1 else 0
  by_cases h:j<k
  ·rw [if_pos h,if_pos (by omega)]
  ·rw [if_neg h,if_neg (by omega)]
theorem nodeK_0:nodeK 0=λ_=>0:=by funext j;unfold nodeK;rw [if_neg (by omega)]
theorem nodeK_rng {n:Nat} (hn:n≤64) (j:Nat):0≤nodeK n j∧nodeK n j<4294967296:=by unfold nodeK;split<;>omega
structure LaySt (w:World) (q:Pl) (t:Int) (lb tb b o n:Nat) (zs:List Int) (cs:Array Value) (m:Nat) (hs vs:List Int) (wr:World):Prop where
 plan:∃ q':Pl,q'.p=q.p∧PlanAt wr q' t hs vs∧Came w q.F q'.F
 kp:Wr (λj=>q.F j∨j=lb∨j=tb) w wr
 obj:wr.heap[lb]? =some (.cells cs 123 (0,0))
 tick:wr.heap[tb]? =some (.cells (tks n (λ_=>0) (nodeK m) (λ_=>0)).toArray 160 (0,0))
 row:RowAt .i64 wr (some ⟨b,o,none⟩) n zs
 lt:lb<w.heap.size∧b<w.heap.size∧tb<w.heap.size
 ne:¬ q.F lb∧¬ q.F b∧¬ q.F tb∧b≠lb∧b≠tb∧lb≠tb
namespace LaySt
variable {w wr w':World} {q:Pl} {t:Int} {lb tb b o n m:Nat} {zs:List Int} {cs:Array Value} {hs vs:List Int}
theorem far (h:LaySt w q t lb tb b o n zs cs m hs vs wr) {q':Pl} (c:Came w q.F q'.F):¬ q'.F lb∧¬ q'.F b∧¬ q'.F tb:=by
 have hl:=h.lt
 have hn:=h.ne
 refine ⟨λe=> ?_,λe=> ?_,λe=> ?_⟩
 ·rcases c _ e with e|e
  ·exact hn.1 e
  ·omega
 ·rcases c _ e with e|e
  ·exact hn.2.1 e
  ·omega
 ·rcases c _ e with e|e
  ·exact hn.2.2.1 e
  ·omega
theorem set (h:LaySt w q t lb tb b o n zs cs m hs vs wr) (i:Nat) (v:Value):LaySt w q t lb tb b o n zs (cs.setIfInBounds i v) m hs vs (wr.setCell ⟨lb,i,none⟩ v):=by
 obtain ⟨q',hq,hP,hC⟩:=h.plan
 obtain ⟨f1,f2,f3⟩:=h.far hC
 have k:Wr (One lb) wr (wr.setCell ⟨lb,i,none⟩ v):=(Wr.refl _ _).setCell _ _ λ_=>rfl
 refine ⟨⟨q',hq,hP.wrote k λj hj e=>by cases e;exact f1 hj,hC⟩,h.kp.trans k λj _ e=> .inr (.inl e),blk_setCell h.obj i v,(k.block _ (blk_lt h.tick) λe=>h.ne.2.2.2.2.2 e.symm).trans h.tick,h.row.wrote k λa ha e=> ?_,h.lt,h.ne⟩
 cases ha
 exact h.ne.2.2.2.1 e
theorem setN (h:LaySt w q t lb tb b o n zs cs m hs vs wr):LaySt w q t lb tb b o n zs cs (m+1) hs vs (wr.setCell ⟨tb,m*3+1,none⟩ (.int .u32 ((m:Int)+1))):=by
 obtain ⟨q',hq,hP,hC⟩:=h.plan
 obtain ⟨f1,f2,f3⟩:=h.far hC
 have k:Wr (One tb) wr (wr.setCell ⟨tb,m*3+1,none⟩ (.int .u32 ((m:Int)+1))):=(Wr.refl _ _).setCell _ _ λ_=>rfl
 refine ⟨⟨q',hq,hP.wrote k λj hj e=>by cases e;exact f3 hj,hC⟩,h.kp.trans k λj _ e=> .inr (.inr e),(k.block _ (blk_lt h.obj) h.ne.2.2.2.2.2).trans h.obj,?_,h.row.wrote k λa ha e=> ?_,h.lt,h.ne⟩
 ·rw [blk_setCell h.tick,List.setIfInBounds_toArray,tks_set1,nodeK_more]
 ·cases ha
  exact h.ne.2.2.2.2.1 e
theorem home (h:LaySt w q t lb tb b o n zs cs m hs vs wr) {j:Nat} (hj:j<n):wr.cell? ⟨b,o+j,none⟩=some (.int .i64 (zs.getD j 0)):=by
 rcases h.row.at with h0|⟨b',o',e,hc⟩
 ·omega
 ·cases e
  exact hc j hj
theorem home0 (h:LaySt w q t lb tb b o n zs cs m hs vs wr) (hn:0<n):wr.cell? ⟨b,o,none⟩=some (.int .i64 (zs.getD 0 0)):=h.home hn
theorem place {p r:Nat} {x y:Int} (h:LaySt w q t lb tb b o n zs (lkO p x y tb r) m hs vs wr):wr.cell? ⟨lb,4,none⟩=some (.slice (some ⟨tb,0,none⟩) r r):=by rw [blk_cell h.obj];rfl
theorem node (h:LaySt w q t lb tb b o n zs cs m hs vs wr) {j:Nat} (hj:j<n):wr.cell? ⟨tb,j*3+1,none⟩=some (.int .u32 (nodeK m j)):=by
 rw [blk_cell h.tick,List.getElem?_toArray]
 exact tks_at n _ _ _ hj (j:=1) (by decide)
end LaySt
def LayPost (w:World) (q:Pl) (t:Int) (lb tb b o n:Nat) (zs:List Int) (cs:Array Value) (m:Nat) (hs vs:List Int) (r:Value) (e:Ending) (w':World):Prop:=e= .returned r∧LaySt w q t lb tb b o n zs cs m hs vs w'
section
variable {w wr:World} {q:Pl} {t:Int} {lb tb b o n m:Nat} {zs:List Int} {cs:Array Value} {hs vs:List Int}
theorem ly_word (h:LaySt w q t lb tb b o n zs cs m hs vs wr) (x v:Int) (hL:hs.length≤1000000):
  Calls prog 50 #[.pointer (some ⟨q.p,0,none⟩),.int .i64 x,.int .u32 v] wr (LayPost w q t lb tb b o n zs cs m (hs++[x]) (vs++[v]) (.int .i64 (hs.length:Nat))):=by
 obtain ⟨q',hq,hP,hC⟩:=h.plan
 obtain ⟨f1,f2,f3⟩:=h.far hC
 have c:=plword_any hP x v hL
 rw [hq] at c
 refine c.mono ?_
 intro e w2 hp
 unfold PlanPost at hp
 obtain ⟨rfl,q2,hq2,hP2,hW,hC2⟩:=hp
 refine ⟨rfl,⟨q2,hq2.trans hq,hP2,hC.trans hC2 h.kp.size⟩,h.kp.trans hW λj hj e=> ?_,(hW.block _ (blk_lt h.obj) f1).trans h.obj,(hW.block _ (blk_lt h.tick) f3).trans h.tick,h.row.wrote hW λa ha e=> ?_,h.lt,h.ne⟩
 ·rcases hC j e with e|e
  ·exact .inl e
  ·omega
 ·cases ha
  exact f2 e
end
theorem takez_more (zs:List Int) {k:Nat} (hk:k<zs.length):zs.take (k+1)=zs.take k++[zs.getD k 0]:=by
 rw [List.take_add_one,List.getElem?_eq_getElem hk,List.getD_eq_getElem?_getD,List.getElem?_eq_getElem hk]
 rfl
theorem repz_more (k:Nat) (x:Int):List.replicate (k+1) x=List.replicate k x++[x]:=by rw [List.replicate_succ']
theorem lay_any {w:World} {q:Pl} {t:Int} {lb b o n cap p tb:Nat} {zs:List Int} {hs vs:List Int} (h:LaySt w q t lb tb b o n zs (lkO p 0 0 tb n) 0 hs vs w) (n1:1≤n) (n2:n≤64) (hL:hs.length≤900000):
  Calls prog 54 #[.pointer (some ⟨lb,0,none⟩),.pointer (some ⟨q.p,0,none⟩),.slice (some ⟨b,o,none⟩) n cap] w
   (LayPost w q t lb tb b o n zs (lkO p (hs.length:Nat) ((hs.length:Nat)+1) tb n) n (hs++[zs.getD 0 0]++[zs.getD 0 0]++zs) (vs++[0]++[0]++List.replicate n 0) (.tuple #[])):=by
 have hc:=h.home0 n1
 have hlen:=h.row.len
 obtain ⟨x,hx⟩:∃ x,x=zs.getD 0 0:=⟨_,rfl⟩
 rw [←hx] at hc ⊢
 have cW:=ly_word h x 0 (by omega)
 have o0:=blk_cell h.obj
 have f2:=blk_frozen h.obj 2
 have HH:=Lib.hid (And.intro h hx)
 clear h hx
 have n0:(0:Nat)<n:=n1
 go_enter func54,ntmps54
 go_wp2_with (first
  |(go_at_call 50;(with_reducible refine cW.mono ?_);intro e w2 hq;unfold LayPost at hq;obtain ⟨rfl,hA⟩:=hq;have g2:=blk_frozen hA.obj 2;have q2:w2.cell? ⟨lb,2,none⟩=some (.int .i64 0):=(blk_cell hA.obj 2).trans rfl;have hA2:LaySt w q t lb tb b o n zs (lkO p (hs.length:Nat) 0 tb n) 0 (hs++[x]) (vs++[0]) (w2.setCell ⟨lb,2,none⟩ (.int .i64 (hs.length:Nat))):=hA.set 2 (.int .i64 (hs.length:Nat));have y0:=hA2.home0 n0;rw [←HH.out.2] at y0;have cX:=ly_word hA2 x 0 (by simp;omega);rw [show (((hs++[x]).length:Nat):Int)=(hs.length:Int)+1 by simp] at cX;clear hA hA2)
  |(go_at_call 50;(with_reducible refine cX.mono ?_);intro e w3 hq;unfold LayPost at hq;obtain ⟨rfl,hA⟩:=hq;have g3:=blk_frozen hA.obj 3;have q3:w3.cell? ⟨lb,3,none⟩=some (.int .i64 0):=(blk_cell hA.obj 3).trans rfl;have hA3:LaySt w q t lb tb b o n zs (lkO p (hs.length:Nat) ((hs.length:Nat)+1) tb n) 0 (hs++[x]++[x]) (vs++[0]++[0]) (w3.setCell ⟨lb,3,none⟩ (.int .i64 ((hs.length:Nat)+1))):=hA.set 3 (.int .i64 ((hs.length:Nat)+1));have HA:=Lib.hid hA3;clear hA hA3))
 clear cW cX hc o0 f2 g2 g3 q2 q3 y0 n0
 go_loopw [6,7,26] (λ_ _ i wr=>∃ k:Nat,k≤n∧i= .int .i64 k∧LaySt w q t lb tb b o n zs (lkO p (hs.length:Nat) ((hs.length:Nat)+1) tb n) k (hs++[x]++[x]++zs.take k) (vs++[0]++[0]++List.replicate k 0) wr) (λ_ _ i _=>n-(intOf i).toNat)
 case atStart=>exact ⟨0,Nat.zero_le _,rfl,by simpa using HA.out⟩
 case round=>
  clear HA HH
  obtain ⟨k,hk,rfl,hl⟩:=hrel
  by_cases hlt:k<n
  ·have yc:=hl.home hlt
   have hmore:=takez_more zs (k:=k) (by omega)
   have rmore:=repz_more k 0
   have cW:=ly_word hl (zs.getD k 0) 0 (by simp only [List.length_append,List.length_singleton,List.length_take];omega)
   rw [List.append_assoc (hs++[x]++[x]),←hmore,List.append_assoc (vs++[0]++[0]),←rmore] at cW
   generalize zs.getD k 0=y at*
   have hwu:IntKind.u32.wrap ((k:Int)+1)=(k:Int)+1:=by show ((k:Int)+1)%4294967296=_;omega
   clear hl hmore rmore
   go_wp2_with (first
    |(go_at_call 50;(with_reducible refine cW.mono ?_);intro e w2 hq;unfold LayPost at hq;obtain ⟨rfl,hA⟩:=hq;have j4:=hA.place;have j1:=hA.node hlt;have jz:=blk_frozen hA.tick (k*3+1);have HA:=Lib.hid hA.setN;clear hA))
   go_roundw
   case rel=>exact ⟨k+1,by omega,by go_num,HA.out⟩
   case measure=>simp [intOf];omega
  ·obtain rfl:k=n:=by omega
   have HL:=Lib.hid hl
   clear hl
   go_wp2
   go_end0
   have e:=HL.out
   rw [List.take_of_length_le (by omega)] at e
   exact ⟨rfl,e⟩
theorem i_pl:(prog.info? 160).map (λi=>(i.zero,i.size,i.bytes))=some (some (.agg #[.int .i64 0,.int .u32 0,.int .u32 0]),3,16):=by kernel_rfl
theorem made_tk (n:Nat):madeCells (Value.agg #[.int .i64 0,.int .u32 0,.int .u32 0]).cells (n*3)=(tks n (λ_=>0) (nodeK 0) (λ_=>0)).toArray:=by
 rw [nodeK_0]
 apply Array.ext'
 show (madeCells (#[.int .i64 0,.int .u32 0,.int .u32 0]:Array Value) (n*3)).toList=tks n (λ_=>0) (λ_=>0) (λ_=>0)
 apply List.ext_getElem?
 intro m
 by_cases hm:m<n*3
 ·have ha:m/3<n:=by omega
  have e:m=m/3*3+m%3:=by omega
  have h2:=tks_at n (λ_=>0) (λ_=>0) (λ_=>0) (k:=m/3) ha (j:=m%3) (Nat.mod_lt _ (by decide))
  rw [←e] at h2
  rw [h2]
  unfold madeCells
  rw [Array.toList_map,List.getElem?_map,Array.toList_range,List.getElem?_range hm]
  have:m%3=0∨m%3=1∨m%3=2:=by omega
  rcases this with h|h|h<;>simp [h,tkC]
 ·rw [List.getElem?_eq_none (by simp [madeCells];omega),List.getElem?_eq_none (by unfold tks;rw [flat_len (tkC_len _ _ _),List.length_range];omega)]
def NewClhPost (w:World) (q:Pl) (t:Int) (hs vs:List Int) (n:Nat) (zs:List Int) (e:Ending) (w':World):Prop:=
 ∃ (L:Lp) (q':Pl),e= .returned (.tuple #[.pointer (some ⟨L.lb,0,none⟩),.int .i64 0])∧FlRaw w' L (.pointer none) (newSeat n false true) (λ_=>0) (nodeK n) (λ_=>0)∧
  (w.heap.size≤L.lb∧w.heap.size≤L.p∧w.heap.size≤L.b∧w.heap.size≤L.tb)∧L.a1=hs.length∧L.a2=hs.length+1∧q'.p=q.p∧PlanAt w' q' t (hs++[zs.getD 0 0]++[zs.getD 0 0]++zs) (vs++[0]++[0]++List.replicate n 0)∧Wr q.F w w'∧Came w q.F q'.F
theorem lay_start {w ws:World} {q:Pl} {t:Int} {hs vs:List Int} {b o n:Nat} {zs:List Int} (h:PlanAt w q t hs vs) (k:Wr Nil w ws) (hr:RowAt .i64 w (some ⟨b,o,none⟩) n zs) (hbl:b<w.heap.size) (hb:¬ q.F b) (A cs:Array Value) (hA:(tks n (λ_=>0) (nodeK 0) (λ_=>0)).toArray=A) {lb tb:Nat} (hlb:lb=ws.heap.size+1) (htb:tb=ws.heap.size):
  LaySt ((ws.alloc (.cells A 160)).alloc (.cells cs 123)) q t lb tb b o n zs cs 0 hs vs ((ws.alloc (.cells A 160)).alloc (.cells cs 123)):=by
 have k2:Wr Nil w ((ws.alloc (.cells A 160)).alloc (.cells cs 123)):=(k.alloc _).alloc _
 have e1:(ws.alloc (.cells A 160)).heap.size=ws.heap.size+1:=nblk_alloc _ _
 have e2:((ws.alloc (.cells A 160)).alloc (.cells cs 123)).heap.size=ws.heap.size+1+1:=by rw [nblk_alloc,e1]
 have s1:=k.size
 have hF:∀ j,w.heap.size≤j→¬ q.F j:=λj hj e=>by have:=h.lt e;omega
 refine ⟨⟨q,rfl,h.after k2,Came.refl _ _⟩,Wr.refl _ _,?_,?_,hr.after k2,by omega,hF _ (by omega),hb,hF _ (by omega),by omega,by omega,by omega⟩
 ·rw [hlb,←e1]
  exact blk_alloc_new _ _
 ·rw [htb,hA,blk_alloc_lt _ _ _ (by rw [e1];omega)]
  exact blk_alloc_new _ _
theorem fn_end {w wq wr:World} {q:Pl} {t:Int} {hs vs:List Int} {b o n p sb lb tb:Nat} {zs:List Int} {A:Array Value} (h:PlanAt w q t hs vs) (k1:Wr Nil w wq) (hS:SeatAt wq p sb (newSeat n false true)) (hp:w.heap.size≤p) (hsb:w.heap.size≤sb) (htb:tb=wq.heap.size) (hlb:lb=wq.heap.size+1) (n2:n≤64) (hL:hs.length≤900000) (cs:Array Value)
  (hl:LaySt ((wq.alloc (.cells A 160)).alloc (.cells cs 123)) q t lb tb b o n zs (lkO p (hs.length:Nat) ((hs.length:Nat)+1) tb n) n (hs++[zs.getD 0 0]++[zs.getD 0 0]++zs) (vs++[0]++[0]++List.replicate n 0) wr):
  NewClhPost w q t hs vs n zs (.returned (.tuple #[.pointer (some ⟨lb,0,none⟩),.int .i64 0])) wr:=by
 generalize hX:(wq.alloc (.cells A 160)).alloc (.cells cs 123)=X at hl
 have e1:(wq.alloc (.cells A 160)).heap.size=wq.heap.size+1:=nblk_alloc _ _
 have e2:X.heap.size=wq.heap.size+1+1:=by rw [←hX,nblk_alloc,e1]
 have k3:Wr Nil wq X:=by rw [←hX];exact ((Wr.refl _ _).alloc _).alloc _
 have kX:Wr Nil w X:=k1.nil k3
 have s1:=k1.size
 have s3:=k3.size
 have hF:∀ k,w.heap.size≤k→k≠lb→k≠tb→¬ (q.F k∨k=lb∨k=tb):=λk hk hk2 hk3 e=>by
  rcases e with e|e|e
  ·have:=h.lt e;omega
  ·exact hk2 e
  ·exact hk3 e
 have l1:=blk_lt hS.obj
 have l2:=blk_lt hS.ctx
 have hne:=hS.ne
 have hSX:=hS.wrote (k3.mono λ_ _ e=>e.elim:Wr Nil wq X) id id
 obtain ⟨q',hq,hP,hC⟩:=hl.plan
 refine ⟨⟨lb,p,sb,tb,hs.length,(hs.length:Int)+1,⟨0,0,0,0,0,0,0,0,0,0,0,0,.pointer none⟩,[]⟩,q',rfl,⟨hl.obj,hSX.wrote hl.kp (hF p hp (by omega) (by omega)) (hF sb hsb (by omega) (by omega)),hl.tick,⟨by dsimp only;omega,by dsimp only;omega,by dsimp only;omega,by dsimp only;omega,by dsimp only;omega⟩,λj=>⟨.inl rfl,nodeK_rng n2 j,by decide⟩,by dsimp only;omega⟩,⟨by dsimp only;omega,by dsimp only;omega,by dsimp only;omega,by dsimp only;omega⟩,rfl,rfl,hq,hP,?_,λj hj=> ?_⟩
 ·exact (kX.mono (λ_ _ e=>e.elim):Wr q.F w X).trans hl.kp λj hj e=>by
   rcases e with e|e|e
   ·exact e
   ·omega
   ·omega
 ·rcases hC j hj with e|e
  ·exact .inl e
  ·exact .inr (by omega)
theorem fn_new {w:World} {q:Pl} {t:Int} {hs vs:List Int} (h:PlanAt w q t hs vs) {b o n cap:Nat} {zs:List Int} (hr:RowAt .i64 w (some ⟨b,o,none⟩) n zs) (ho:homesOK zs=true) (n1:1≤n) (n2:n≤64) (hL:hs.length≤900000) (hb:¬ q.F b):
  Calls prog 36 #[.pointer (some ⟨q.p,0,none⟩),.slice (some ⟨b,o,none⟩) n cap] w (NewClhPost w q t hs vs n zs):=by
 obtain ⟨i0,hi,hz0,hz1,hz2⟩:=info_parts i_pl
 have hmk:∀ w:World,(Instr.makeSlice 121 (.int .i64 (n:Int)) (.int .i64 (n:Int))).run prog w= .ok (.slice (some ⟨w.heap.size,0,none⟩) n n) (w.alloc (.cells (tks n (λ_=>0) (nodeK 0) (λ_=>0)).toArray 160)):=by
  intro w
  have h:=Go.run_make (P:=prog) w 121 160 i0 _ underlying121 hi hz0 .i64 .i64 n n (by omega) (by omega) (by rw [hz2];omega) (by omega)
  rw [hz1] at h
  simp only [Int.toNat_natCast] at h
  rw [made_tk n] at h
  exact h
 generalize hA:(tks n (λ_=>0) (nodeK 0) (λ_=>0)).toArray=A at hmk
 have cS:=hm_seats (cap:=cap) hr ho false true n1 n2
 have hbx:b<w.heap.size:=World.block_lt_of_cell? w _ (hr.cell ⟨b,o,none⟩ rfl 0 (by omega))
 have HX:=Lib.hid (And.intro h (And.intro hr (And.intro hA (And.intro hbx hb))))
 clear h hr ho hA hb hbx
 go_enter func36,ntmps36
 go_wp2_with (first
  |(go_at_call 48;(with_reducible refine cS.mono ?_);intro e wq hq;unfold NewSeatPost at hq;obtain ⟨p,sb,rfl,hS,hp,hsb,hW⟩:=hq;have HS:=Lib.hid (And.intro hS (And.intro hp (And.intro hsb hW)));clear hS hp hsb hW cS)
  |(go_at_call 54;(with_reducible refine (lay_any (lay_start HX.out.1 HS.out.2.2.2 HX.out.2.1 HX.out.2.2.2.1 HX.out.2.2.2.2 A (lkO p 0 0 wq.heap.size n) HX.out.2.2.1 rfl rfl) n1 n2 hL).mono ?_);intro e wr hq;unfold LayPost at hq;obtain ⟨rfl,hl⟩:=hq;have HL:=Lib.hid hl;clear hl))
 go_ret2
 obtain ⟨h,hr,hA,hbx,hb⟩:=HX.out
 exact fn_end h HS.out.2.2.2 HS.out.1 HS.out.2.1 HS.out.2.2.1 rfl rfl n2 hL _ HL.out
open _root_.Go.Proofs.Tryz
def Low (L:Lp) (k:Nat):Prop:=k<L.q.k3
theorem LkAt.low {w w':World} {L:Lp} {f:FL} (h:LkAt w L f) (k:Wr (LF L) w w'):Wr (Low L) w w':=k.mono λb _ e=>by
 have h1:=h.far
 have h2:=h.port.place.le
 unfold Low
 rcases e with rfl|rfl|e
 ·omega
 ·omega
 ·exact e.2
structure LkS (w0 w:World) (L:Lp) (f:FL):Prop where
 lk:LkAt w L f
 low:w0.heap.size≤L.lb∧w0.heap.size≤L.p∧w0.heap.size≤L.b∧w0.heap.size≤L.tb∧w0.heap.size≤L.q.k0
 wr:Wr Nil w0 w
namespace LkS
variable {w0 w w':World} {L:Lp} {f f':FL}
theorem after (h:LkS w0 w L f) (k:Wr Nil w w'):LkS w0 w' L f:=⟨h.lk.after k,h.low,h.wr.nil k⟩
theorem apart {S:Nat→Prop} (h:LkS w0 w L f) (k:Wr S w w') (hS:∀ b,S b→L.q.k3≤b):LkS w0 w' L f:=by
 have h1:=h.lk.far
 have h2:=h.lk.port.place.le
 have h3:=h.low
 have n:∀ b,b<L.q.k3→¬ S b:=λb hb e=>by have:=hS b e;omega
 have ht:=h.lk.top
 refine ⟨h.lk.wrote k (n _ (by omega)) (n _ (by omega)) (n _ (by omega)) (n _ (by omega)) λb _ b2=>n b b2,h.low,h.wr.trans k λb hb e=> ?_⟩
 exact n b (by omega) e
theorem lnew (h:LkS w0 w L f) {k:Nat} (hk:LF L k):w0.heap.size≤k:=by
 have:=h.low
 rcases hk with rfl|rfl|hk
 ·omega
 ·omega
 ·have:=hk.1;omega
theorem call (h:LkS w0 w L f) (hl:LkAt w' L f') (k:Wr (LF L) w w'):LkS w0 w' L f':=⟨hl,h.low,h.wr.trans k λb hb e=>by have:=h.lnew e;unfold Nil;omega⟩
theorem cell0 (h:LkS w0 w L f):w.cell? ⟨L.lb,0,none⟩=some (.pointer (some ⟨L.p,0,none⟩)):=h.lk.raw.cell0
end LkS
def LsPost (w0 w:World) (L:Lp) (f:FL) (v:Value) (e:Ending) (w':World):Prop:=e= .returned v∧LkS w0 w' L f∧Wr (Low L) w w'
section
variable {w0 w:World} {L:Lp} {f:FL}
theorem ls_lock (h:LkS w0 w L f) (t d:Int):Calls prog 127 #[.pointer (some ⟨L.p,0,none⟩),.int .i64 t,.int .i64 d] w (LsPost w0 w L (f.lock t d) (.int .i64 (lockE f.s t d))):=
 (se_lock h.lk.raw.seat t d).mono λe w' ⟨he,hS,hW⟩=>⟨he,h.call (h.lk.seats hS (SS.lock_n _ _ _) hW) (lf_b hW),h.lk.low (lf_b hW)⟩
theorem ls_unlock (h:LkS w0 w L f) (t:Int):Calls prog 131 #[.pointer (some ⟨L.p,0,none⟩),.int .i64 t] w (LsPost w0 w L (f.turn t 3) (.int .i64 (turnE f.s t))):=
 (se_unlock h.lk.raw.seat t).mono λe w' ⟨he,hS,hW⟩=>⟨he,h.call (h.lk.seats hS (SS.turn_n _ _ _) hW) (lf_b hW),h.lk.low (lf_b hW)⟩
theorem ls_step (h:LkS w0 w L f) (t u x:Int) (hD:f.ps.D.length<4611686018427387904):Calls prog 150 #[.pointer (some ⟨L.lb,0,none⟩),.int .i64 t,.int .i64 u,.int .i64 x] w (LsPost w0 w L (f.step L t u) (f.did L t u).val):=
 (fl_step h.lk t u x hD).mono λe w' ⟨he,hl,hW⟩=>⟨he,h.call hl hW,h.lk.low hW⟩
end
structure LkP (w0 w:World) (L:Lp) (f:FL):Prop where
 raw:RawF w L (.pointer none) f
 port:PortAt w L.q L.hs f.ps
 far:L.lb<L.q.k0∧L.p<L.q.k0∧L.b<L.q.k0∧L.tb<L.q.k0
 top:L.q.k3≤w.heap.size
 low:w0.heap.size≤L.lb∧w0.heap.size≤L.p∧w0.heap.size≤L.b∧w0.heap.size≤L.tb∧w0.heap.size≤L.q.k0
 wr:Wr Nil w0 w
theorem lp_use {w0 w:World} {L:Lp} {f:FL} (h:LkP w0 w L f):
  Calls prog 151 #[.pointer (some ⟨L.lb,0,none⟩),.pointer (some ⟨L.q.p,0,none⟩)] w λe w'=>e= .returned (.tuple #[])∧LkS w0 w' L f∧Wr (Low L) w w':=by
 refine (fl_use h.raw ⟨L.q.p,0,none⟩).mono ?_
 rintro e w' ⟨rfl,rfl⟩
 have hW:Wr (One L.lb) w (w.setCell ⟨L.lb,1,none⟩ (.pointer (some ⟨L.q.p,0,none⟩))):=(Wr.refl _ w).setCell _ _ λ_=>rfl
 have hr:=h.raw
 have h1:=h.far
 have h2:=h.port.place.le
 have h3:=h.low
 exact ⟨rfl,⟨⟨hr.use _,h.port.wrote hW λb b1 _ e=>by unfold One at e;omega,h.far,Nat.le_trans h.top hW.size⟩,h.low,h.wr.trans hW λb hb e=>by unfold One at e;unfold Nil;omega⟩,hW.mono λb _ e=>by unfold One at e;unfold Low;omega⟩
theorem lp_made {w0 w1 w2:World} {L0:Lp} {q:Place} {f:FL} {hs:List Int} (hr:RawF w1 L0 (.pointer none) f) (hl:w0.heap.size≤L0.lb∧w0.heap.size≤L0.p∧w0.heap.size≤L0.b∧w0.heap.size≤L0.tb) (h0:Wr Nil w0 w1)
  (hP:PortAt w2 q hs f.ps) (h1:w1.heap.size≤q.k0) (h2:q.k3≤w2.heap.size) (hW:Wr Nil w1 w2):LkP w0 w2 {L0 with q:=q,hs:=hs} f:=by
 have l1:=blk_lt hr.obj
 have l2:=blk_lt hr.seat.obj
 have l3:=blk_lt hr.seat.ctx
 have l4:=blk_lt hr.tick
 have s0:=h0.size
 exact ⟨(hr.after hW).place q hs,hP,⟨by dsimp only;omega,by dsimp only;omega,by dsimp only;omega,by dsimp only;omega⟩,h2,⟨by dsimp only;omega,by dsimp only;omega,by dsimp only;omega,by dsimp only;omega,by dsimp only;omega⟩,h0.nil hW⟩
abbrev zerosC (n:Nat):List Int:=[0]++[0]++List.replicate n 0
abbrev homesC (zs:List Int):List Int:=[zs.getD 0 0]++[zs.getD 0 0]++zs
def newF (n t:Nat):FL:=⟨newSeat n false true,λ_=>0,nodeK n,λ_=>0,newS t (zerosC n)⟩
theorem getD_ok {zs:List Int} (h:homesOK zs=true) (i:Nat):okH (zs.getD i 0)=true:=by
 unfold homesOK at h
 rw [List.all_eq_true] at h
 by_cases hi:i<zs.length
 ·exact h _ (by rw [List.getD_eq_getElem?_getD,List.getElem?_eq_getElem hi];exact List.getElem_mem hi)
 ·rw [List.getD_eq_getElem?_getD,List.getElem?_eq_none (by omega)];rfl
theorem homesC_ok {zs:List Int} (h:homesOK zs=true):homesOK (homesC zs)=true:=by
 have h0:=getD_ok h 0
 unfold homesOK at h ⊢
 unfold homesC
 rw [List.all_append,List.all_append,h,Bool.and_true]
 show ((okH (zs.getD 0 0)&&true)&&(okH (zs.getD 0 0)&&true))=true
 rw [h0]
 rfl
theorem zerosC_at (n j:Nat):(zerosC n).getD j 0=0:=by
 match j with
 |0=>rfl
 |1=>rfl
 |j+2=>
  show (List.replicate n (0:Int)).getD j 0=0
  rw [List.getD_eq_getElem?_getD,List.getElem?_replicate]
  split<;>rfl
def MadePost (w0:World) (n:Nat) (L:Lp) (w':World):Prop:=L.a1=0∧L.a2=1∧LkP w0 w' L (newF n n)
theorem fl_port {w0 w w1:World} {q q':Pl} {n:Nat} {zs:List Int} {L0:Lp} (h0:Wr Nil w0 w) (hq:∀ k,q.F k→w0.heap.size≤k) (n1:1≤n) (n2:n≤64) (ho:homesOK zs=true) (hn:zs.length=n)
  (hR:FlRaw w1 L0 (.pointer none) (newSeat n false true) (λ_=>0) (nodeK n) (λ_=>0)) (hl:w.heap.size≤L0.lb∧w.heap.size≤L0.p∧w.heap.size≤L0.b∧w.heap.size≤L0.tb) (h1:L0.a1=0) (h2:L0.a2=1) (hqq:q'.p=q.p) (hP:PlanAt w1 q' n (homesC zs) (zerosC n)) (hW:Wr q.F w w1):
  Calls prog 26 #[.pointer (some ⟨q.p,0,none⟩)] w1 λe w'=>∃ L:Lp,e= .returned (.tuple #[.pointer (some ⟨L.q.p,0,none⟩),.int .i64 0])∧MadePost w0 n L w'∧L.lb=L0.lb∧L.hs=homesC zs:=by
 have c:=plport_good hP (λj=>by rw [zerosC_at];decide) n1 n2 (by simp [homesC];omega) (homesC_ok ho)
 rw [hqq] at c
 refine c.mono ?_
 rintro e w' ⟨qq,rfl,hA,hk0,hk3,hW2⟩
 have s0:=h0.size
 refine ⟨{L0 with q:=qq,hs:=homesC zs},rfl,⟨h1,h2,?_⟩,rfl,rfl⟩
 exact lp_made (f:=newF n n) hR (by omega) (h0.trans hW λk hk e=>by have:=hq k e;unfold Nil;omega) hA hk0 hk3 hW2
end Go.Proofs.YtmnephejhkfchaaGreat.Kc

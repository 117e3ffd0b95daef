
import Derived.Test.YtmnephejhkfchaaGreatBuSt
namespace Go.Proofs.YtmnephejhkfchaaGreat
open Go.RowKit Go.BigFrame
set_option linter.unusedVariables false
structure Ei where
 k:Int
 t:Int
 now:Int
 lead:Bool
def Ei.cells (e:Ei):List Value:=[.int .i64 e.k,.int .i64 e.t,.int .i64 e.now,.bool e.lead]
theorem Ei.ZU (e:Ei):e.cells.length=4:=rfl
theorem L6 (e:Ei):∀ u∈e.cells,u.oneCell'=true:=by
 intro u hu;simp only [Ei.cells,List.mem_cons,List.not_mem_nil,or_false] at hu;rcases hu with rfl|rfl|rfl|rfl<;>rfl
open Go.Deep
set_option maxRecDepth 100000
structure MS where
 a:Any
 now:Int
 tr:List Ei
 st:List Int
 idle:Int
def OD (t now:Int) (d:Dd):List Ei:=if d.BW=true then [⟨2,t,now,false⟩] else []
def OC (t now:Int) (d:Dd):List Ei:=if d.arr=true then [⟨3,t,now,false⟩] else []
def OE (t now:Int) (d:Dd):List Ei:=if d.ev=1 then [⟨4,t,now,d.lead⟩] else if d.ev=2 then [⟨5,t,now,false⟩] else if d.ev=6 then [⟨8,t,now,false⟩] else if d.ev=3 then [⟨7,t,now,false⟩] else []
def tells (t now:Int) (d:Dd):List Ei:=(OD t now d++OC t now d)++OE t now d
namespace MS
def busy (s:MS) (t:Int):Prop:=s.a.s.FD t=1\/s.a.s.FD t=3
instance (s:MS) (t:Int):Decidable (s.busy t):=by unfold busy;infer_instance
def dead (s:MS) (x:Int):Int:=if x<0 then-1 else s.now+min x 1073741824
def more (s:MS) (l:List Ei):MS:={s with tr:=s.tr++l}
def put (s:MS) (a:Any):MS:={s with a:=a}
def counts (s:MS) (t:Int):MS:={s with st:=s.st.set t.toNat (s.st.getD t.toNat 0+1)}
def picked (s:MS) (t:Int):MS:=((s.counts t).put (s.a.step t s.now)).more (tells t s.now (s.a.did t s.now))
def U6 (s:MS):MS:={s with now:=s.now+1}
def X7 (s:MS):MS:={s with idle:=s.idle+1}
def pick (s:MS) (t:Int):MS:=if s.busy t then s.picked t else s
def tick (s:MS):MS:=if s.now=1099511627776 then s else s.U6
def call (s:MS) (t x:Int):MS:=if BZ s.a.s t (s.dead x)=0 then (s.put (s.a.lock t (s.dead x))).more [⟨1,t,s.now,false⟩] else s.put (s.a.lock t (s.dead x))
def fin (s:MS) (t:Int):MS:=if BR s.a.s t=0 then (s.put (s.a.turn t 3)).more [⟨6,t,s.now,false⟩] else s.put (s.a.turn t 3)
def ok (s:MS) (k t x:Int):Bool:=if k=1 then decide (s.busy t) else if k=2 then decide (s.now≠1099511627776) else if k=3 then decide (BZ s.a.s t (s.dead x)=0) else if k=4 then decide (BR s.a.s t=0) else false
def does (s:MS) (k t x:Int):MS:=if k=1 then s.pick t else if k=2 then s.tick else if k=3 then s.call t x else if k=4 then s.fin t else s
def Do (s:MS) (k t x:Int):MS:=if s.ok k t x=true then s.does k t x else (s.does k t x).X7
structure Hk (s:MS) (j:Nat):Prop where
 D:s.a.ps.D.length<=j
 tr:s.tr.length<=3*j
 st:∀ i,0<=s.st.getD i 0/\s.st.getD i 0<=j
 idle:0<=s.idle/\s.idle<=j
 now:0<=s.now/\s.now<=j
end MS
structure McAt (w0:World) (base:Nat) (w:World) (m sb:Nat) (s:MS) (tv:Value):Prop where
 lk:s.a.At w0 w
 box:w.heap[m]? =some (.cells #[.pointer (some ⟨s.a.q.p,0,none⟩),.iface s.a.ty (.pointer (some ⟨s.a.lb,0,none⟩)),.int .i64 s.now,tv,.slice (some ⟨sb,0,none⟩) s.st.length s.st.length,.int .i64 s.idle] 55 (0,0))
 row:w.ownsRow base 48 4 tv s.tr.length (s.tr.flatMap Ei.cells)
 Lz:w.heap[sb]? =some (.cells (s.st.map (Value.int .i64)).toArray 3 (0,0))
 len:s.st.length=s.a.s.n
 low:s.a.q.k3<=m/\s.a.q.k3<=sb/\m≠sb/\m<base/\sb<base
 top:base<=w.heap.size
def lA (q:Place) (m sb:Nat) (tv:Value) (k:Nat):Prop:=k<q.k3\/k=m\/k=sb\/tv.ownBlock=some k
structure Went (q:Place) (m sb:Nat) (w:World) (tv:Value) (w':World) (FE:Value):Prop where
 wr:Wr (lA q m sb tv) w w'
 tv:FE.ownBlock=tv.ownBlock\/∀ k,FE.ownBlock=some k->w.heap.size<=k
namespace Went
variable {q:Place} {m sb:Nat} {w w' w'':World} {tv FE dV:Value}
theorem nil (k:Wr Nil w w'):Went q m sb w tv w' tv:=⟨k.mono λ_ _ e=>e.elim,.inl rfl⟩
theorem trans (h:Went q m sb w tv w' FE) (k:Went q m sb w' FE w'' dV):Went q m sb w tv w'' dV:=by
 refine ⟨h.wr.trans k.wr λb hb e=> ?_,?_⟩
 ·rcases e with e|e|e|e
  ·exact .inl e
  ·exact .inr (.inl e)
  ·exact .inr (.inr (.inl e))
  ·rcases h.tv with x|x
   ·exact .inr (.inr (.inr (x▸e)))
   ·have:=x b e;omega
 ·have hs:=h.wr.size
  rcases k.tv with x|x
  ·rcases h.tv with y|y
   ·exact .inl (x.trans y)
   ·exact .inr λj hj=>y j (x▸hj)
  ·exact .inr λj hj=>Nat.le_trans hs (x j hj)
theorem low {T:Nat->Prop} (k:Wr T w w') (h:∀ b,b<w.heap.size->T b->b<q.k3\/b=m\/b=sb):Went q m sb w tv w' tv:=⟨k.mono λb hb e=>by rcases h b hb e with x|x|x;exact .inl x;exact .inr (.inl x);exact .inr (.inr (.inl x)),.inl rfl⟩
end Went
section
variable {w0 w w':World} {base m sb:Nat} {s s':MS} {tv FE:Value}
namespace McAt
theorem lt (h:McAt w0 base w m sb s tv):∀ k,tv.ownBlock=some k->base<=k/\k<w.heap.size:=λk hk=>h.row.lt k hk
theorem wrote {S:Nat->Prop} (h:McAt w0 base w m sb s tv) (k:Wr S w w') (hl:s.a.At w0 w') (hS:∀ b,S b->b<s.a.q.k3\/w.heap.size<=b):McAt w0 base w' m sb s tv:=by
 have h1:=h.low;have h2:=h.top;have h3:=k.size
 exact ⟨hl,(k.block _ (A2 h.box) λe=>by have:=hS _ e;omega).trans h.box,Ak h.row λj hj=>k.block j (h.lt j hj).2 λe=>by have:=hS _ e;have:=h.lt j hj;omega,
  (k.block _ (A2 h.Lz) λe=>by have:=hS _ e;omega).trans h.Lz,h.len,h1,by omega⟩
theorem after (h:McAt w0 base w m sb s tv) (k:Wr Nil w w'):McAt w0 base w' m sb s tv:=h.wrote k (h.lk.after k) λ_ e=>e.elim
theorem drew (h:McAt w0 base w m sb s tv):McAt w0 base w.drew m sb s tv:=h.after ((Wr.refl _ w).drew)
theorem c1 (h:McAt w0 base w m sb s tv):w.cell? ⟨m,1,none⟩=some (.iface s.a.ty (.pointer (some ⟨s.a.lb,0,none⟩))):=(A1 h.box 1).trans rfl
theorem c2 (h:McAt w0 base w m sb s tv):w.cell? ⟨m,2,none⟩=some (.int .i64 s.now):=(A1 h.box 2).trans rfl
theorem c3 (h:McAt w0 base w m sb s tv):w.cell? ⟨m,3,none⟩=some tv:=(A1 h.box 3).trans rfl
theorem c4 (h:McAt w0 base w m sb s tv):w.cell? ⟨m,4,none⟩=some (.slice (some ⟨sb,0,none⟩) s.st.length s.st.length):=(A1 h.box 4).trans rfl
theorem c5 (h:McAt w0 base w m sb s tv):w.cell? ⟨m,5,none⟩=some (.int .i64 s.idle):=(A1 h.box 5).trans rfl
theorem fz (h:McAt w0 base w m sb s tv) (j:Nat):w.frozen? ⟨m,j,none⟩=false:=A4 h.box j
theorem sc (h:McAt w0 base w m sb s tv) {i:Nat} (hi:i<s.st.length):w.cell? ⟨sb,i,none⟩=some (.int .i64 (s.st.getD i 0)):=by
 rw [A1 h.Lz];simp [hi]
theorem sf (h:McAt w0 base w m sb s tv) (j:Nat):w.frozen? ⟨sb,j,none⟩=false:=A4 h.Lz j
theorem SB {g n cp:Nat} {W:World} (hg:w.grownBy W tv.ownBlock) (hl:tv.ownBlock=some g\/g=w.heap.size) (q:Place):Went q m sb w tv (W.setCell ⟨m,3,none⟩ (.slice (some ⟨g,0,none⟩) n cp)) (.slice (some ⟨g,0,none⟩) n cp):=
 ⟨((Wr.refl _ w).grown hg λj hj _=> .inr (.inr (.inr hj))).setCell _ _ λ_=> .inr (.inl rfl),by
   rcases hl with e|e
   ·exact .inl e.symm
   ·exact .inr λk hk=>by cases hk;exact Nat.le_of_eq e.symm⟩
theorem iM {a':Any} {q:Place} (hs:s.a.Same a') (hq:q=s.a.q) (k:Wr a'.Low w w'):Went q m sb w tv w' tv:=Went.low k λb _ e=>by
 have e4:=hs.2.2.2.1;unfold Any.Low at e;rw [e4,<-hq] at e;exact .inl e
theorem put {a':Any} (h:McAt w0 base w m sb s tv) (hs:s.a.Same a') (hn:a'.s.n=s.a.s.n) (hl:a'.At w0 w') (k:Wr a'.Low w w'):McAt w0 base w' m sb (s.put a') tv:=by
 obtain ⟨e1,e2,e3,e4,e5⟩:=hs;have h1:=h.low;have h2:=h.top;have h3:=k.size;have hS:∀ b,a'.Low b->b<s.a.q.k3:=λb e=>by unfold Any.Low at e;rw [e4] at e;exact e
 refine ⟨hl,?_,Ak h.row λj hj=>k.block j (h.lt j hj).2 λe=>by have:=hS _ e;have:=h.lt j hj;omega,
  (k.block _ (A2 h.Lz) λe=>by have:=hS _ e;omega).trans h.Lz,h.len.trans hn.symm,?_,by omega⟩
 ·show w'.heap[m]? =some (.cells #[.pointer (some ⟨a'.q.p,0,none⟩),.iface a'.ty (.pointer (some ⟨a'.lb,0,none⟩)),.int .i64 s.now,tv,.slice (some ⟨sb,0,none⟩) s.st.length s.st.length,.int .i64 s.idle] _ _)
  rw [e1,e2,e4];exact (k.block _ (A2 h.box) λe=>by have:=hS _ e;omega).trans h.box
 ·show a'.q.k3<=m/\a'.q.k3<=sb/\m≠sb/\m<base/\sb<base
  rw [e4];exact h1
theorem Tq (h:McAt w0 base w m sb s tv) (j:Nat) (v:Value)
  (hlk:s'.a=s.a) (htr:s'.tr=s.tr) (hst:s'.st=s.st)
  (hc:(#[.pointer (some ⟨s.a.q.p,0,none⟩),.iface s.a.ty (.pointer (some ⟨s.a.lb,0,none⟩)),.int .i64 s.now,tv,.slice (some ⟨sb,0,none⟩) s.st.length s.st.length,.int .i64 s.idle]:Array Value).setIfInBounds j v= #[.pointer (some ⟨s.a.q.p,0,none⟩),.iface s.a.ty (.pointer (some ⟨s.a.lb,0,none⟩)),.int .i64 s'.now,tv,.slice (some ⟨sb,0,none⟩) s.st.length s.st.length,.int .i64 s'.idle]):McAt w0 base (w.setCell ⟨m,j,none⟩ v) m sb s' tv:=by
 have h1:=h.low;have k:Wr (One m) w (w.setCell ⟨m,j,none⟩ v):=(Wr.refl _ w).setCell _ _ λ_=>rfl;obtain ⟨a',mf,Wb,st',kM⟩:=s';dsimp only at hlk htr hst hc;subst hlk htr hst;refine ⟨h.lk.apart k λb e=>by unfold One at e;omega,?_,Ak h.row λi hi=>k.block i (h.lt i hi).2 λe=>by have:=h.lt i hi;unfold One at e;omega,(k.block _ (A2 h.Lz) λe=>by unfold One at e;omega).trans h.Lz,h.len,h1,by rw [nblk_setCell];exact h.top⟩;have h2:=A3 h.box j v;rw [hc] at h2;exact h2
theorem YS (h:McAt w0 base w m sb s tv) (i:Nat) (hi:i<s.st.length):McAt w0 base (w.setCell ⟨sb,i,none⟩ (.int .i64 (s.st.getD i 0+1))) m sb {s with st:=s.st.set i (s.st.getD i 0+1)} tv:=by
 have h1:=h.low;have k:Wr (One sb) w (w.setCell ⟨sb,i,none⟩ (.int .i64 (s.st.getD i 0+1))):=(Wr.refl _ w).setCell _ _ λ_=>rfl;refine ⟨h.lk.apart k λb e=>by unfold One at e;omega,?_,Ak h.row λj hj=>k.block j (h.lt j hj).2 λe=>by have:=h.lt j hj;unfold One at e;omega,?_,?_,h1,by rw [nblk_setCell];exact h.top⟩
 ·show _=some (Obj.cells #[_,_,_,_,.slice _ (s.st.set i _).length (s.st.set i _).length,_] _ _)
  rw [List.length_set];exact (k.block _ (A2 h.box) λe=>by unfold One at e;omega).trans h.box
 ·have h2:=A3 h.Lz i (.int .i64 (s.st.getD i 0+1))
  rw [h2,List.map_set];simp
 ·show (s.st.set i _).length=_
  rw [List.length_set];exact h.len
theorem enter {e:Ei} {v':Value} {W:World} (h:McAt w0 base w m sb s tv) (ho:W.ownsRow base 48 4 v' (s.tr.length+1) (s.tr.flatMap Ei.cells++e.cells)) (hg:w.grownBy W tv.ownBlock):McAt w0 base (W.setCell ⟨m,3,none⟩ v') m sb (s.more [e]) v':=by
 have h1:=h.low;have h2:=h.top;have h3:=hg.size;have kW:Wr (λj=>tv.ownBlock=some j) w W:=(Wr.refl _ w).grown hg λj hj _=>hj;have k:Wr (One m) W (W.setCell ⟨m,3,none⟩ v'):=(Wr.refl _ W).setCell _ _ λ_=>rfl;have hl:=h.lk.apart kW λb e=>by have:=h.lt b e;omega
 have hb:W.heap[m]? =_:=(kW.block _ (A2 h.box) λe=>by have:=h.lt _ e;omega).trans h.box;have hs:W.heap[sb]? =_:=(kW.block _ (A2 h.Lz) λe=>by have:=h.lt _ e;omega).trans h.Lz;refine ⟨hl.apart k λb e=>by unfold One at e;omega,?_,?_,(k.block _ (A2 hs) λe=>by unfold One at e;omega).trans hs,h.len,h1,by rw [nblk_setCell];omega⟩
 ·have h4:=A3 hb 3 v'
  exact h4
 ·have ho':W.ownsRow base 48 4 v' (s.more [e]).tr.length ((s.more [e]).tr.flatMap Ei.cells):=by
   show W.ownsRow base 48 4 v' (s.tr++[e]).length ((s.tr++[e]).flatMap Ei.cells);rw [List.length_append,List.flatMap_append];simpa using ho
  exact Ak ho' λj hj=>k.block j (ho'.lt j hj).2 λe=>by have:=ho'.lt j hj;unfold One at e;omega
end McAt
end
set_option maxHeartbeats 8000000
open _root_.Go.Proofs.Tryz Go.Deep
def CE (w0:World) (base m sb:Nat) (s':MS) (v:Value) (w:World) (tv:Value) (e:Ending) (w':World):Prop:=e= .returned v/\∃ FE,McAt w0 base w' m sb s' FE/\Went s'.a.q m sb w tv w' FE
theorem P5:(prog.info? 48).map (λi=>(i.zero,i.size,i.bytes))=some (some (.agg #[.int .i64 0,.int .i64 0,.int .i64 0,.bool false]),4,32):=by kernel_rfl
section
variable {w0 w:World} {base m sb:Nat} {s:MS} {tv:Value}
theorem NN (h:McAt w0 base w m sb s tv) (k t z:Int) (ld:Bool) (hl:s.tr.length<=1000000):
  Calls prog 44 #[.pointer (some ⟨m,0,none⟩),.agg #[.int .i64 k,.int .i64 t,.int .i64 z,.bool ld]] w (CE w0 base m sb (s.more [⟨k,t,s.now,ld⟩]) (.tuple #[]) w tv):=by
 obtain ⟨i0,hi,hz0,hz1,hz2⟩:=IK P5;obtain ⟨so,cp,rfl,_⟩:=Dt h.row;obtain ⟨X,hX⟩:∃ X,X=w.alloc (.cells #[.int .i64 k,.int .i64 t,.int .i64 s.now,.bool ld] 48):=⟨_,rfl⟩
 have E_:Wr Nil w X:=by rw [hX];exact (Wr.refl _ w).alloc _
 have hM:McAt w0 base X m sb s (.slice so s.tr.length cp):=h.after E_;obtain ⟨B,Lv⟩:∃ B,B=w.heap.size:=⟨_,rfl⟩
 have hB:X.heap[B]? =some (.cells #[.int .i64 k,.int .i64 t,.int .i64 s.now,.bool ld] 48 (0,0)):=by rw [hX,Lv];exact blk_alloc_new _ _
 have c2:=h.c2;have lL:(w.alloc (.cells #[.int .i64 k,.int .i64 t,.int .i64 z,.bool ld] 48)).cell? ⟨m,2,none⟩=some (.int .i64 s.now):=((Wr.refl Nil w).alloc _).old c2;have hY:Wr Nil X (X.alloc (.cells #[.int .i64 k,.int .i64 t,.int .i64 s.now,.bool ld] 48)).drew:=((Wr.refl Nil X).alloc _).drew;have c3:X.cell? ⟨m,3,none⟩=some (.slice so s.tr.length cp):=hM.c3;have na:(X.alloc (.cells #[.int .i64 k,.int .i64 t,.int .i64 s.now,.bool ld] 48)).cell? ⟨m,3,none⟩=some (.slice so s.tr.length cp):=hY.old hM.c3;have dv:=hM.after hY;have ja:=(hY.block _ (A2 hB) id).trans hB;have hnews:=Vz X (#[.int .i64 k,.int .i64 t,.int .i64 s.now,.bool ld]:Array Value).toList 48 _ rfl;have jb:B≠m:=λe=>by have:=h.low;have:=h.top;omega
 have Zh:B<base->False:=λe=>by have:=h.top;omega
 have Ws:∀ j,(Value.slice so s.tr.length cp).ownBlock=some j->j<B:=λj hj=>by have:=h.lt j hj;omega
 have ZJ:=Qw Ws;have HX:=Qw (Qz hX Lv);have HM:=Qw (Qz dv (E_.nil hY));have HB:=Qw (Qz hB ja);have HN:=Qw hnews;have jR:=Qw jb;have hown:=dv.row;have HO:=Qw hown;have ZK:=Qw dv.top;clear Zh Ws h hX E_ hM Lv hB hY dv ja hnews jb hown
 go_in
 go_upto_region 2 with fail
 rw [<-HX.out.1,<-HX.out.2];clear c2 lL;refine wp_region_held_drew (S:=λw'=>w'.heap[B]? =some (.cells #[.int .i64 k,.int .i64 t,.int .i64 s.now,.bool ld] 48 (0,0))) (by kernel_rfl) HB.out.1 (λhHeld=> ?_);refine tk (i:=0) (v:= ?v1) rfl ?hy1 ?bZ
 case hy1=>intro w hSw;(try dsimp only at hSw);go_simp;try with_reducible rfl
 (try simp only [Act.put,List.setIfInBounds_toArray])
 refine tk (i:=1) (v:= ?v2) rfl ?hy2 ?bb
 case hy2=>intro w hSw;(try dsimp only at hSw);go_simp;try with_reducible rfl
 (try simp only [Act.put])
 refine tk (i:=2) (v:= ?v3) rfl ?gj ?bf
 case gj=>intro w hSw;(try dsimp only at hSw);go_simp;try with_reducible rfl
 (try simp only [Act.put])
 refine tk (i:=3) (v:= ?v4) rfl ?gm ?bg
 case gm=>intro w hSw;(try dsimp only at hSw);go_simp;try with_reducible rfl
 (try simp only [Act.put])
 refine tk (i:=5) (v:= ?v5) rfl ?gp ?bj
 case gp=>intro w hSw;have e0:w.cell? ⟨B,0,none⟩=some (.int .i64 k):=(A1 hSw 0).trans rfl;have e1:w.cell? ⟨B,1,none⟩=some (.int .i64 t):=(A1 hSw 1).trans rfl;have e2:w.cell? ⟨B,2,none⟩=some (.int .i64 s.now):=(A1 hSw 2).trans rfl;have e3:w.cell? ⟨B,3,none⟩=some (.bool ld):=(A1 hSw 3).trans rfl;(try dsimp only at hSw);go_simp;try with_reducible rfl
 (try simp only [Act.put])
 refine wpAnyH_ready (rs:=[4,6]) (by kernel_rfl) (by simp) ?_;refine AllReadyH.cons rfl (λK hK=> ?_) (AllReadyH.cons rfl (λK hK=> ?_) AllReadyH.nil)
 ·skip
  go_simp;refine hK.out _ _ HB.out.1 (λAj=> ?_);clear hHeld K hK;have hHeld:=Aj;clear Aj
  (try simp only [Act.put,List.setIfInBounds_toArray,List.set_cons_zero,List.set_cons_succ])
  refine wpAnyH_ready (rs:=[6]) (by kernel_rfl) (by simp) ?_;refine AllReadyH.cons rfl (λK hK=> ?_) (AllReadyH.nil);go_simp;refine hK.out _ _ HB.out.2 (λAj=> ?_);clear hHeld K hK;have hHeld:=Aj;clear Aj
  (try simp only [Act.put,List.setIfInBounds_toArray,List.set_cons_zero,List.set_cons_succ])
  refine wpAnyH_ready (rs:=[7]) (by kernel_rfl) (by simp) ?_;refine AllReadyH.cons rfl (λK hK=> ?_) AllReadyH.nil;refine step_append_lies _ (by rfl) _ _ 42 (by rfl) base 48 i0 (.agg #[.int .i64 0,.int .i64 0,.int .i64 0,.bool false]) 4 32 underlying42 hi hz0 hz1 hz2 rfl (by decide) (.slice so s.tr.length cp) s.tr.length (s.tr.flatMap Ei.cells) (by simp [Act.eval]) HO.out ⟨X.heap.size,0,none⟩ 1 1 (Ei.cells ⟨k,t,s.now,ld⟩) (by simp [Act.eval]) rfl HN.out (L6 _) (by decide) (by unfold maxLen;omega) (by omega) ZK.out _ rfl ?_;intro g ZV w5 g1 g2 g3 g4;have f3:w5.frozen? ⟨m,3,none⟩=false:=(World.frozen?_of_block (g2.block m (A2 HM.out.1.box) λe=>by have:=HM.out.1.lt _ e.symm;have:=HM.out.1.low;omega)).trans (HM.out.1.fz 3);have Xf:w5.heap[B]? =some (.cells #[.int .i64 k,.int .i64 t,.int .i64 s.now,.bool ld] 48 (0,0)):=(g2.block B (A2 HB.out.2) λe=>by have:=ZJ.out _ e.symm;omega).trans HB.out.2;have hE:=HM.out.1.enter (e:=⟨k,t,s.now,ld⟩) g1 g2;have Zi:=McAt.SB (m:=m) (sb:=sb) (n:=s.tr.length+1) (cp:=ZV) g2 g3 s.a.q;have c5:∃ v,w5.cell? ⟨m,3,none⟩=some v:=⟨_,(World.cell?_of_block (g2.block m (A2 HM.out.1.box) λe=>by have:=HM.out.1.lt _ e.symm;have:=HM.out.1.low;omega)).trans HM.out.1.c3⟩
  obtain ⟨v5,c5⟩:=c5;have HE:=Qw (Qz hE Zi);clear g1 g2 g3 g4 hE Zi;refine hK.out _ _ Xf (λAj=> ?_);clear hHeld K hK;have hHeld:=Aj;clear Aj
  (try simp only [Act.put,List.setIfInBounds_toArray])
  refine tk (i:=8) (v:= ?v6) rfl ?gq ?bl
  case gq=>intro w hSw;(try dsimp only at hSw);go_simp;try with_reducible rfl
  (try simp only [Act.put])
  refine tk (i:=9) (v:= ?v7) rfl ?gu ?bp
  case gu=>intro w hSw;(try dsimp only at hSw);go_simp;try with_reducible rfl
  (try simp only [Act.put])
  exact zz17
 ·skip
  go_simp;refine hK.out _ _ HB.out.2 (λAj=> ?_);clear hHeld K hK;have hHeld:=Aj;clear Aj
  (try simp only [Act.put,List.setIfInBounds_toArray,List.set_cons_zero,List.set_cons_succ])
  refine wpAnyH_ready (rs:=[4]) (by kernel_rfl) (by simp) ?_;refine AllReadyH.cons rfl (λK hK=> ?_) (AllReadyH.nil);go_simp;refine hK.out _ _ HB.out.2 (λAj=> ?_);clear hHeld K hK;have hHeld:=Aj;clear Aj
  (try simp only [Act.put,List.setIfInBounds_toArray,List.set_cons_zero,List.set_cons_succ])
  refine wpAnyH_ready (rs:=[7]) (by kernel_rfl) (by simp) ?_;refine AllReadyH.cons rfl (λK hK=> ?_) AllReadyH.nil;refine step_append_lies _ (by rfl) _ _ 42 (by rfl) base 48 i0 (.agg #[.int .i64 0,.int .i64 0,.int .i64 0,.bool false]) 4 32 underlying42 hi hz0 hz1 hz2 rfl (by decide) (.slice so s.tr.length cp) s.tr.length (s.tr.flatMap Ei.cells) (by simp [Act.eval]) HO.out ⟨X.heap.size,0,none⟩ 1 1 (Ei.cells ⟨k,t,s.now,ld⟩) (by simp [Act.eval]) rfl HN.out (L6 _) (by decide) (by unfold maxLen;omega) (by omega) ZK.out _ rfl ?_;intro g ZV w5 g1 g2 g3 g4;have f3:w5.frozen? ⟨m,3,none⟩=false:=(World.frozen?_of_block (g2.block m (A2 HM.out.1.box) λe=>by have:=HM.out.1.lt _ e.symm;have:=HM.out.1.low;omega)).trans (HM.out.1.fz 3);have Xf:w5.heap[B]? =some (.cells #[.int .i64 k,.int .i64 t,.int .i64 s.now,.bool ld] 48 (0,0)):=(g2.block B (A2 HB.out.2) λe=>by have:=ZJ.out _ e.symm;omega).trans HB.out.2;have hE:=HM.out.1.enter (e:=⟨k,t,s.now,ld⟩) g1 g2;have Zi:=McAt.SB (m:=m) (sb:=sb) (n:=s.tr.length+1) (cp:=ZV) g2 g3 s.a.q;have c5:∃ v,w5.cell? ⟨m,3,none⟩=some v:=⟨_,(World.cell?_of_block (g2.block m (A2 HM.out.1.box) λe=>by have:=HM.out.1.lt _ e.symm;have:=HM.out.1.low;omega)).trans HM.out.1.c3⟩
  obtain ⟨v5,c5⟩:=c5;have HE:=Qw (Qz hE Zi);clear g1 g2 g3 g4 hE Zi;refine hK.out _ _ Xf (λAj=> ?_);clear hHeld K hK;have hHeld:=Aj;clear Aj
  (try simp only [Act.put,List.setIfInBounds_toArray])
  refine tk (i:=8) (v:= ?v8) rfl ?gv ?bq
  case gv=>intro w hSw;(try dsimp only at hSw);go_simp;try with_reducible rfl
  (try simp only [Act.put])
  refine tk (i:=9) (v:= ?v9) rfl ?gw ?br
  case gw=>intro w hSw;(try dsimp only at hSw);go_simp;try with_reducible rfl
  (try simp only [Act.put])
  exact zz17
end
end Go.Proofs.YtmnephejhkfchaaGreat

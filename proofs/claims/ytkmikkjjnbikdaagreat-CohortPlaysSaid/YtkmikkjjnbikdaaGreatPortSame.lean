
import Derived.Test.YtkmikkjjnbikdaaGreatPortNew
import Derived.Deep.AppendLies
import Derived.Deep.Cut
namespace Go.Proofs.YtkmikkjjnbikdaaGreat
set_option maxHeartbeats 8000000
open _root_.Go.Proofs.Tryz Go.Deep
open Go.RowKit
set_option linter.unusedVariables false
set_option maxRecDepth 100000
theorem wpList_append_fresh {P:Program} {ops:Array Oper} {rest:List Oper} {o:Oper} {a:Act} {w:World} {Q:Exit→Act→World→Prop}
  (hg:o.guard=none) (s x:Operand) (t:TypeId) (hop:o.op=Op.call {callee:=Callee.builtin Builtin.append,args:= #[s,x],argTypes:= #[t,t]})
  (e:TypeId) (i:TypeInfo) (z:Value) (bytes:Nat) (h1:P.underlying t=some (.slice e)) (h2:P.info? e=some i) (h3:i.zero=some z) (h4:i.size=1) (h5:i.bytes=bytes) (h6:z.cells.size=1)
  (hs:a.eval s= .slice none 0 0) (sa:Option Addr) (m c:Nat) (news:List Value) (hx:a.eval x= .slice sa m c) (hnone:sa=none→m=0) (hn:news.length=m)
  (hc:∀ b,sa=some b→∀ j u,news[j]? =some u→w.cell? (b.add j)=some u) (h1c:∀ u∈news,u.oneCell'=true)
  (b1:m≤maxLen) (b2:m*bytes≤140737488355328)
  (hK:∀ ao cap w',w'.ownsRow w.heap.size e 1 (.slice ao m cap) m news→w.grownBy w' none→wpList P ops Q rest (a.put o.dst (.slice ao m cap)) w'):wpList P ops Q (o::rest) a w:=by
 refine wpList_plain hg λK hK'=> ?_
 have h:=step_append_fresh (P:=P) (ops:=ops) (o:=o) (a:=a) (w:=w) (K:=K) (Q:=Q) (E:=True) hg s x t hop e i z bytes h1 h2 h3 h4 h5 h6 hs sa m c news hx hnone hn hc h1c b1 b2 (λao cap w' r1 r2=>hK' _ _ (hK ao cap w' r1 r2))
 rw [if_pos (by simp [Region.wanted,hg])] at h
 exact h
def cntN (s:PSta) (j:Nat):Nat:=if j%3=0 then s.ac.getD (j/3) 0 else if j%3=1 then s.wc.getD (j/3) 0 else s.mc.getD (j/3) 0
def cntV (s:PSta) (j:Nat):Value:= .int .i64 (cntN s j:Int)
theorem cnt0 (s:PSta) (t:Nat):cntN s (t*3)=s.ac.getD t 0:=by unfold cntN;rw [if_pos (by omega),show t*3/3=t by omega]
theorem cnt1 (s:PSta) (t:Nat):cntN s (t*3+1)=s.wc.getD t 0:=by unfold cntN;rw [if_neg (by omega),if_pos (by omega),show (t*3+1)/3=t by omega]
theorem cnt2 (s:PSta) (t:Nat):cntN s (t*3+2)=s.mc.getD t 0:=by unfold cntN;rw [if_neg (by omega),if_neg (by omega),show (t*3+2)/3=t by omega]
structure RefAt (w:World) (base r bk:Nat) (so:Option Addr) (cap:Nat) (dv:Value) (s:PSta):Prop where
 obj:w.heap[r]? =some (.cells #[.slice so s.ws.length cap,.int .i64 s.ac.length,dv,.slice (some ⟨bk,0,none⟩) s.ac.length s.ac.length] 105 (0,0))
 words:RowAt .u32 w so s.ws.length s.ws
 wblk:∀ a,so=some a→base≤a.block∧a.block≠r∧a.block≠bk∧dv.ownBlock≠some a.block
 touched:w.ownsRow base 227 3 dv s.D.length (s.D.flatMap tchCells)
 tblk:dv.ownBlock≠some r∧dv.ownBlock≠some bk
 counts:w.rowIs bk 139 (s.ac.length*3) (cntV s)
 lv:s.wc.length=s.ac.length
 lm:s.mc.length=s.ac.length
 rngA:∀ x∈s.ac,x≤s.D.length
 rngV:∀ x∈s.wc,x≤s.D.length
 rngM:∀ x∈s.mc,x≤s.D.length
 rngW:∀ z∈s.ws,0≤z∧z<4294967296
 low:base≤r∧base≤bk∧r≠bk
def RefSt (w:World) (base r:Nat) (s:PSta):Prop:=∃ bk so cap dv,RefAt w base r bk so cap dv s
namespace RefAt
variable {w w':World} {base r bk:Nat} {so:Option Addr} {cap:Nat} {dv:Value} {s:PSta}
theorem cell0 (h:RefAt w base r bk so cap dv s):w.cell? ⟨r,0,none⟩=some (.slice so s.ws.length cap):=by rw [blk_cell h.obj];rfl
theorem cell1 (h:RefAt w base r bk so cap dv s):w.cell? ⟨r,1,none⟩=some (.int .i64 s.ac.length):=by rw [blk_cell h.obj];rfl
theorem cell3 (h:RefAt w base r bk so cap dv s):w.cell? ⟨r,3,none⟩=some (.slice (some ⟨bk,0,none⟩) s.ac.length s.ac.length):=by rw [blk_cell h.obj];rfl
theorem count0 (h:RefAt w base r bk so cap dv s) {t:Nat} (ht:t<s.ac.length):w.cell? ⟨bk,t*3,none⟩=some (.int .i64 ((s.ac.getD t 0:Nat):Int)):=by
 rw [h.counts.cell (show t*3<s.ac.length*3 by omega)];unfold cntV;rw [cnt0]
theorem count1 (h:RefAt w base r bk so cap dv s) {t:Nat} (ht:t<s.ac.length):w.cell? ⟨bk,t*3+1,none⟩=some (.int .i64 ((s.wc.getD t 0:Nat):Int)):=by
 rw [h.counts.cell (show t*3+1<s.ac.length*3 by omega)];unfold cntV;rw [cnt1]
theorem count2 (h:RefAt w base r bk so cap dv s) {t:Nat} (ht:t<s.ac.length):w.cell? ⟨bk,t*3+2,none⟩=some (.int .i64 ((s.mc.getD t 0:Nat):Int)):=by
 rw [h.counts.cell (show t*3+2<s.ac.length*3 by omega)];unfold cntV;rw [cnt2]
theorem after (h:RefAt w base r bk so cap dv s) {S:Nat→Prop} (k:Wr S w w') (hS:∀ b,base≤b→¬ S b):RefAt w' base r bk so cap dv s:=
 ⟨(k.block r (blk_lt h.obj) (hS _ h.low.1)).trans h.obj,h.words.wrote k (λa ha=>hS _ (h.wblk a ha).1),h.wblk,ownsRow_keep h.touched (λj hj=>k.block j (h.touched.lt j hj).2 (hS _ (h.touched.lt j hj).1)),h.tblk,
   h.counts.of_block (k.block bk h.counts.lt (hS _ h.low.2.1)),h.lv,h.lm,h.rngA,h.rngV,h.rngM,h.rngW,h.low⟩
end RefAt
theorem info_cnt:(prog.info? 139).map (λi=>(i.zero,i.size,i.bytes))=some (some (.agg #[.int .i64 0,.int .i64 0,.int .i64 0]),3,24):=by kernel_rfl
theorem info_tch:(prog.info? 227).map (λi=>(i.zero,i.size,i.bytes))=some (some (.agg #[.int .i64 0,.int .i64 0,.bool false]),3,24):=by kernel_rfl
def RNewPost (w0:World) (base:Nat) (s:PSta) (e:Ending) (w':World):Prop:=
 ∃ r,e= .returned (.pointer (some ⟨r,0,none⟩))∧RefSt w' base r s∧Wr Nil w0 w'
theorem made_cnt (n:Nat) (j:Nat) (hj:j<n*3):(madeCells #[Value.int .i64 0,.int .i64 0,.int .i64 0] (n*3))[j]? =some (.int .i64 0):=by
 have h:j%3=0∨j%3=1∨j%3=2:=by omega
 rcases h with h|h|h<;>simp [madeCells,hj,h]
theorem newS_cnt (n:Nat) (vs:List Int) (j:Nat):cntV (newS n vs) j= .int .i64 0:=by
 have h:∀ k,(List.replicate n 0).getD k 0=0:=by
  intro k
  rw [List.getD_eq_getElem?_getD,List.getElem?_replicate]
  split<;>rfl
 unfold cntV cntN newS
 simp only [h]
 split<;>(try split)<;>rfl
theorem rnew_made {w w':World} {ao:Option Addr} {m cap n:Nat} {vs:List Int} (hl:vs.length=m) (wf:∀ z∈vs,0≤z∧z<4294967296)
  (hown:w'.ownsRow ((w.alloc (.cells (madeCells #[.int .i64 0,.int .i64 0,.int .i64 0] (n*3)) 139)).alloc (.cells #[.slice none 0 0,.int .i64 n,.slice none 0 0,.slice (some ⟨w.heap.size,0,none⟩) n n] 105)).heap.size 62 1 (.slice ao m cap) m (vs.map (Value.int .u32)))
  (hgrow:((w.alloc (.cells (madeCells #[.int .i64 0,.int .i64 0,.int .i64 0] (n*3)) 139)).alloc (.cells #[.slice none 0 0,.int .i64 n,.slice none 0 0,.slice (some ⟨w.heap.size,0,none⟩) n n] 105)).grownBy w' none):
  w'.cell? ⟨w.heap.size+1,0,none⟩=some (.slice none 0 0)∧w'.frozen? ⟨w.heap.size+1,0,none⟩=false∧
  RefAt (w'.setCell ⟨w.heap.size+1,0,none⟩ (.slice ao m cap)) w.heap.size (w.heap.size+1) w.heap.size ao cap (.slice none 0 0) (newS n vs)∧Wr Nil w (w'.setCell ⟨w.heap.size+1,0,none⟩ (.slice ao m cap)):=by
 have n1:(w.alloc (.cells (madeCells #[.int .i64 0,.int .i64 0,.int .i64 0] (n*3)) 139)).heap.size=w.heap.size+1:=nblk_alloc _ _
 have n2:((w.alloc (.cells (madeCells #[.int .i64 0,.int .i64 0,.int .i64 0] (n*3)) 139)).alloc (.cells #[.slice none 0 0,.int .i64 n,.slice none 0 0,.slice (some ⟨w.heap.size,0,none⟩) n n] 105)).heap.size=w.heap.size+2:=by rw [nblk_alloc,n1]
 have b1:w'.heap[w.heap.size+1]? =some (.cells #[.slice none 0 0,.int .i64 n,.slice none 0 0,.slice (some ⟨w.heap.size,0,none⟩) n n] 105 (0,0)):=by
  rw [hgrow.block _ (by rw [n2];omega) (by simp),←n1,blk_alloc_new]
 have b0:w'.heap[w.heap.size]? =some (.cells (madeCells #[.int .i64 0,.int .i64 0,.int .i64 0] (n*3)) 139 (0,0)):=by
  rw [hgrow.block _ (by rw [n2];omega) (by simp),blk_alloc_lt _ _ _ (by rw [n1];omega),blk_alloc_new]
 rw [n2] at hown
 have hW:Wr Nil w (w'.setCell ⟨w.heap.size+1,0,none⟩ (.slice ao m cap)):=((((Wr.refl Nil w).alloc _).alloc _).grown hgrow (λk hk=>nomatch hk)).setCell _ _ (λh=>by simp only at h;omega)
 obtain ⟨sa,cp,hv,_,_,hrow,hblk⟩:=own_rowAt hown
 simp only [Value.slice.injEq] at hv
 obtain ⟨rfl,_,rfl⟩:=hv
 have hk:∀ b,b≠w.heap.size+1→(w'.setCell ⟨w.heap.size+1,0,none⟩ (.slice ao m cap)).heap[b]? =w'.heap[b]? :=λb hb=>blk_setCell_other _ _ _ _ hb
 refine ⟨by rw [blk_cell b1];rfl,blk_frozen b1 0,⟨?_,?_,?_,World.ownsRow_nil _ _ _ _,by simp [Value.ownBlock],?_,by simp [newS],by simp [newS],?_,?_,?_,wf,by omega⟩,hW⟩
 ·rw [blk_setCell b1]
  simp [newS,hl]
 ·have:RowAt .u32 (w'.setCell ⟨w.heap.size+1,0,none⟩ (.slice ao m cap)) ao m vs:=hrow.wrote (S:=One (w.heap.size+1)) ((Wr.refl _ w').setCell _ _ λ_=>rfl) (λa ha e=>by have:=(hblk a ha).1;have e':a.block=w.heap.size+1:=e;omega)
  show RowAt _ _ _ vs.length vs
  rw [hl]
  exact this
 ·intro a ha
  have:=(hblk a ha).1
  exact ⟨by omega,by omega,by omega,by simp [Value.ownBlock]⟩
 ·refine ⟨_,(hk _ (by omega)).trans b0,by simp [newS,size_madeCells],λi hi=> ?_⟩
  rw [newS_cnt]
  exact made_cnt n i (by simpa [newS] using hi)
 all_goals
  intro x hx
  simp [newS] at hx
  omega
set_option maxRecDepth 100000 in
theorem rnew_any {w:World} {sb:Option Addr} {m c n:Nat} {vs:List Int} (hv:RowAt .u32 w sb m vs) (wf:∀ z∈vs,0≤z∧z<4294967296) (hn:n≤64) (hm:m≤4096):
  Calls prog 17 #[.int .i64 n,.slice sb m c] w (RNewPost w w.heap.size (newS n vs)):=by
 obtain ⟨i0,hi,hz0,hz1,hz2⟩:=info_parts info_u32
 obtain ⟨i1,gi,gz0,gz1,gz2⟩:=info_parts info_cnt
 have hmk:∀ w:World,(Instr.makeSlice 102 (.int .i64 (n:Int)) (.int .i64 (n:Int))).run prog w= .ok (.slice (some ⟨w.heap.size,0,none⟩) n n) (w.alloc (.cells (madeCells #[.int .i64 0,.int .i64 0,.int .i64 0] (n*3)) 139)):=by
  intro w
  have h:=Go.run_make (P:=prog) w 102 139 i1 _ underlying102 gi gz0 .i64 .i64 n n (by omega) (by omega) (by rw [gz2];omega) (by omega)
  rw [gz1] at h
  simp only [Int.toNat_natCast] at h
  exact h
 have hlen:=hv.len
 have hnews:=(hv.after (((Wr.refl Nil w).alloc (.cells (madeCells #[.int .i64 0,.int .i64 0,.int .i64 0] (n*3)) 139)).alloc (.cells #[.slice none 0 0,.int .i64 n,.slice none 0 0,.slice (some ⟨w.heap.size,0,none⟩) n n] 105))).news
 have hempty:=hv.empty
 have H:=Lib.hid wf
 clear hv wf
 go_enter func17,ntmps17
 go_wp2_with (at_builtin;refine wpList_append_fresh rfl _ _ 54 rfl 62 i0 (.int .u32 0) 4 underlying54 hi hz0 hz1 hz2 rfl rfl sb m c (vs.map (Value.int .u32)) rfl hempty (by simpa using hlen) hnews (by intro u hu;simp only [List.mem_map] at hu;obtain ⟨z,_,rfl⟩:=hu;rfl) (by unfold maxLen;omega) (by omega) ?_;intro ao cap w' hown hgrow;obtain ⟨e0,e1,hR,hW⟩:=rnew_made hlen H.out hown hgrow;have HR:=Lib.hid (And.intro hR hW);clear hown hgrow hR hW hnews hempty)
 go_ret
 unfold RNewPost
 exact ⟨_,rfl,⟨_,_,_,_,HR.out.1⟩,HR.out.2⟩
def Foot (r bk:Nat) (dv:Value) (k:Nat):Prop:=k=r∨k=bk∨dv.ownBlock=some k
def RDoPost (base r bk:Nat) (dv:Value) (s:PSta) (tell did:Int) (w:World) (e:Ending) (w':World):Prop:=
 e= .returned (.tuple #[.int .u32 tell,.int .i64 did])∧RefSt w' base r s∧Wr (Foot r bk dv) w w'
set_option maxRecDepth 100000 in
theorem rdo_not {w:World} {base r bk:Nat} {so:Option Addr} {cap:Nat} {dv:Value} {s:PSta} (h:RefAt w base r bk so cap dv s) (t K a old v:Int) (hn:t<0∨(¬ t<0∧s.ac.length≤t)∨(¬ t<0∧¬ s.ac.length≤t∧a<0)∨(¬ t<0∧¬ s.ac.length≤t∧¬ a<0∧s.ws.length≤a)∨(¬ t<0∧¬ s.ac.length≤t∧¬ a<0∧¬ s.ws.length≤a∧K<1)∨(¬ t<0∧¬ s.ac.length≤t∧¬ a<0∧¬ s.ws.length≤a∧¬ K<1∧5<K)):
  Calls prog 136 #[.pointer (some ⟨r,0,none⟩),.int .i64 t,.agg #[.int .i64 K,.int .i64 a,.int .u32 old,.int .u32 v]] w (RDoPost base r bk dv s 0 0 w):=by
 obtain ⟨X,hX⟩:∃ X,X=w.alloc (.cells #[.int .i64 K,.int .i64 a,.int .u32 old,.int .u32 v] 223):=⟨_,rfl⟩
 have hW:Wr Nil w X:=by rw [hX];exact (Wr.refl _ _).alloc _
 have hR:=h.after hW λ_ _=>id
 have x0:X.cell? ⟨w.heap.size,0,none⟩=some (.int .i64 K):=by rw [hX];simp
 have x1:X.cell? ⟨w.heap.size,1,none⟩=some (.int .i64 a):=by rw [hX];simp
 have c0:=hR.cell0
 have c1:=hR.cell1
 have HR:=Lib.hid (And.intro hR (And.intro hW hX))
 clear hR hW h hX
 rcases hn with h1|⟨h1,h2⟩|⟨h1,h2,h3⟩|⟨h1,h2,h3,h4⟩|⟨h1,h2,h3,h4,h5⟩|⟨h1,h2,h3,h4,h5,h6⟩
 all_goals
  try have d1:=decide_eq_false h1
  try have d2:=decide_eq_false h2
  try have d3:=decide_eq_false h3
  try have d4:=decide_eq_false h4
  try have d5:=decide_eq_false h5
  go_enter func136,ntmps136
  go_wp2
  rw [←HR.out.2.2]
  go_big_quiet (fail)
  go_wp2
  go_ret2
  unfold RDoPost
  exact ⟨rfl,⟨_,_,_,_,HR.out.1.after ((Wr.refl Nil X).drewN _) λ_ _=>id⟩,(HR.out.2.1.mono λ_ _ x=>x.elim).drewN _⟩
structure RMid (F:Nat→Prop) (w0 w:World) (base r bk:Nat) (o0 o2:Value) (so:Option Addr) (dv:Value) (ws:List Int) (D:List Tch) (n:Nat) (f:Nat→Value) (x q:Nat) (K a old v:Int) (c:Tch):Prop where
 obj:w.heap[r]? =some (.cells #[o0,.int .i64 n,o2,.slice (some ⟨bk,0,none⟩) n n] 105 (0,0))
 words:RowAt .u32 w so ws.length ws
 wblk:∀ b,so=some b→base≤b.block∧b.block≠r∧b.block≠bk∧dv.ownBlock≠some b.block
 touched:w.ownsRow base 227 3 dv D.length (D.flatMap tchCells)
 tblk:dv.ownBlock≠some r∧dv.ownBlock≠some bk∧dv.ownBlock≠some x∧dv.ownBlock≠some q
 counts:w.rowIs bk 139 (n*3) f
 low:base≤r∧base≤bk∧r≠bk
 op:w.heap[x]? =some (.cells #[.int .i64 K,.int .i64 a,.int .u32 old,.int .u32 v] 223 (0,0))
 tch:w.heap[q]? =some (.cells #[.int .i64 c.1,.int .i64 c.2.1,.bool c.2.2] 227 (0,0))
 far:x≠r∧x≠bk∧q≠r∧q≠bk
 wrote:Wr F w0 w
 foot:F r∧F bk∧∀ k,dv.ownBlock=some k→k<w0.heap.size→F k
 size:base≤w.heap.size
namespace RMid
variable {F:Nat→Prop} {w0 w w':World} {base r bk:Nat} {o0 o2:Value} {so:Option Addr} {dv:Value} {ws:List Int} {D:List Tch} {n:Nat} {f:Nat→Value} {x q:Nat} {K a old v:Int} {c:Tch}
theorem after (h:RMid F w0 w base r bk o0 o2 so dv ws D n f x q K a old v c) (k:Wr Nil w w'):RMid F w0 w' base r bk o0 o2 so dv ws D n f x q K a old v c:=
 ⟨(k.block r (blk_lt h.obj) id).trans h.obj,h.words.after k,h.wblk,ownsRow_keep h.touched (λj hj=>k.block j (h.touched.lt j hj).2 id),h.tblk,h.counts.of_block (k.block bk h.counts.lt id),h.low,
   (k.block x (blk_lt h.op) id).trans h.op,(k.block q (blk_lt h.tch) id).trans h.tch,h.far,h.wrote.trans k (λ_ _ e=>e.elim),h.foot,Nat.le_trans h.size k.size⟩
theorem store (h:RMid F w0 w base r bk o0 o2 so dv ws D n f x q K a old v c) (i:Nat) (u:Value):RMid F w0 (w.setCell ⟨bk,i,none⟩ u) base r bk o0 o2 so dv ws D n (λj=>if j=i then u else f j) x q K a old v c:=by
 have k:Wr (One bk) w (w.setCell ⟨bk,i,none⟩ u):=(Wr.refl _ w).setCell _ _ λ_=>rfl
 obtain ⟨l1,l2,l3⟩:=h.low
 obtain ⟨f1,f2,f3,f4⟩:=h.far
 refine ⟨(k.block r (blk_lt h.obj) l3).trans h.obj,h.words.wrote k (λb hb=>(h.wblk b hb).2.2.1),h.wblk,ownsRow_keep h.touched (λj hj=>k.block j (h.touched.lt j hj).2 (λe=>h.tblk.2.1 (by rw [hj];exact congrArg some e))),h.tblk,h.counts.set i u,h.low,
  (k.block x (blk_lt h.op) f2).trans h.op,(k.block q (blk_lt h.tch) f4).trans h.tch,h.far,h.wrote.trans k (λb _ e=>by cases e;exact h.foot.2.1),h.foot,Nat.le_trans h.size k.size⟩
theorem congr {g:Nat→Value} (h:RMid F w0 w base r bk o0 o2 so dv ws D n f x q K a old v c) (e:∀ j,j<n*3→f j=g j):RMid F w0 w base r bk o0 o2 so dv ws D n g x q K a old v c:=
 ⟨h.obj,h.words,h.wblk,h.touched,h.tblk,h.counts.congr e,h.low,h.op,h.tch,h.far,h.wrote,h.foot,h.size⟩
theorem objW (h:RMid F w0 w base r bk o0 o2 so dv ws D n f x q K a old v c) (i:Nat) (u:Value):Wr (One r) w (w.setCell ⟨r,i,none⟩ u)∧RowAt .u32 (w.setCell ⟨r,i,none⟩ u) so ws.length ws∧(w.setCell ⟨r,i,none⟩ u).ownsRow base 227 3 dv D.length (D.flatMap tchCells):=by
 have k:Wr (One r) w (w.setCell ⟨r,i,none⟩ u):=(Wr.refl _ w).setCell _ _ λ_=>rfl
 exact ⟨k,h.words.wrote k (λb hb=>(h.wblk b hb).2.1),ownsRow_keep h.touched (λj hj=>k.block j (h.touched.lt j hj).2 (λe=>h.tblk.1 (by rw [hj];exact congrArg some e)))⟩
theorem store2 (h:RMid F w0 w base r bk o0 o2 so dv ws D n f x q K a old v c) (u:Value):RMid F w0 (w.setCell ⟨r,2,none⟩ u) base r bk o0 u so dv ws D n f x q K a old v c:=by
 obtain ⟨k,k1,k2⟩:=h.objW 2 u
 obtain ⟨l1,l2,l3⟩:=h.low
 obtain ⟨f1,f2,f3,f4⟩:=h.far
 refine ⟨?_,k1,h.wblk,k2,h.tblk,h.counts.of_block (k.block bk h.counts.lt l3.symm),h.low,(k.block x (blk_lt h.op) f1).trans h.op,(k.block q (blk_lt h.tch) f3).trans h.tch,h.far,h.wrote.trans k (λb _ e=>by cases e;exact h.foot.1),h.foot,Nat.le_trans h.size k.size⟩
 rw [blk_setCell h.obj]
 rfl
theorem store0 (h:RMid F w0 w base r bk o0 o2 so dv ws D n f x q K a old v c) (u:Value):RMid F w0 (w.setCell ⟨r,0,none⟩ u) base r bk u o2 so dv ws D n f x q K a old v c:=by
 obtain ⟨k,k1,k2⟩:=h.objW 0 u
 obtain ⟨l1,l2,l3⟩:=h.low
 obtain ⟨f1,f2,f3,f4⟩:=h.far
 refine ⟨?_,k1,h.wblk,k2,h.tblk,h.counts.of_block (k.block bk h.counts.lt l3.symm),h.low,(k.block x (blk_lt h.op) f1).trans h.op,(k.block q (blk_lt h.tch) f3).trans h.tch,h.far,h.wrote.trans k (λb _ e=>by cases e;exact h.foot.1),h.foot,Nat.le_trans h.size k.size⟩
 rw [blk_setCell h.obj]
 rfl
theorem grown (h:RMid F w0 w base r bk o0 o2 so dv ws D n f x q K a old v c) (hl:0<ws.length) {g cap:Nat} {y:Tch} (hown:w'.ownsRow base 227 3 (.slice (some ⟨g,0,none⟩) (D.length+1) cap) (D.length+1) (D.flatMap tchCells++tchCells y))
  (hg:w.grownBy w' dv.ownBlock) (hor:dv.ownBlock=some g∨g=w.heap.size):RMid F w0 w' base r bk o0 o2 so (.slice (some ⟨g,0,none⟩) (D.length+1) cap) ws (D++[y]) n f x q K a old v c:=by
 have hne:∀ b,b<w.heap.size→dv.ownBlock≠some b→g≠b:=by
  intro b hb hn e
  subst e
  rcases hor with h1|h1
  ·exact hn h1
  ·omega
 have blk:∀ b,b<w.heap.size→dv.ownBlock≠some b→w'.heap[b]? =w.heap[b]? :=λb hb hn=>hg.block b hb (λe=>hn e.symm)
 have hwl:∀ b,so=some b→b.block<w.heap.size:=by
  intro b hb
  have:=World.block_lt_of_cell? w _ (h.words.cell b hb 0 hl)
  simpa [Addr.add] using this
 obtain ⟨t1,t2,t3,t4⟩:=h.tblk
 have lr:=blk_lt h.obj
 have lx:=blk_lt h.op
 have lq:=blk_lt h.tch
 refine ⟨(blk r lr t1).trans h.obj,⟨h.words.len,h.words.empty,λb hb j hj=> ?_⟩,λb hb=>⟨(h.wblk b hb).1,(h.wblk b hb).2.1,(h.wblk b hb).2.2.1,λe=> ?_⟩,by simpa using hown,?_,h.counts.of_block (blk bk h.counts.lt t2),h.low,(blk x lx t3).trans h.op,(blk q lq t4).trans h.tch,h.far,?_,⟨h.foot.1,h.foot.2.1,?_⟩,Nat.le_trans h.size hg.size⟩
 ·have hbl:(b.add j).block=b.block:=by unfold Addr.add;split<;>rfl
  exact (World.cell?_of_block (w:=w) (by rw [hbl];exact blk _ (hwl b hb) (h.wblk b hb).2.2.2)).trans (h.words.cell b hb j hj)
 ·have e':g=b.block:=by simpa [Value.ownBlock] using e
  exact hne _ (hwl b hb) (h.wblk b hb).2.2.2 e'
 ·refine ⟨λe=> ?_,λe=> ?_,λe=> ?_,λe=> ?_⟩
  ·exact hne r lr t1 (by simpa [Value.ownBlock] using e)
  ·exact hne bk h.counts.lt t2 (by simpa [Value.ownBlock] using e)
  ·exact hne x lx t3 (by simpa [Value.ownBlock] using e)
  ·exact hne q lq t4 (by simpa [Value.ownBlock] using e)
 ·exact h.wrote.grown hg (λk hk hlt=>h.foot.2.2 k hk hlt)
 ·intro k hk hlt
  have e':g=k:=by simpa [Value.ownBlock] using hk
  subst e'
  rcases hor with h1|h1
  ·exact h.foot.2.2 _ h1 hlt
  ·have:=h.wrote.size
   omega
theorem anew (h:RMid F w0 w base r bk o0 o2 so dv ws D n f x q K a old v c) (k:Wr Nil w w') {so':Option Addr} {ws':List Int} (hl:ws'.length=ws.length) (hr:RowAt .u32 w' so' ws.length ws') (ho:∀ b,so'=some b→so=some b∨w.heap.size≤b.block):
  RMid F w0 w' base r bk o0 o2 so' dv ws' D n f x q K a old v c:=by
 have h':=h.after k
 refine ⟨h'.obj,by rw [hl];exact hr,λb hb=> ?_,h'.touched,h'.tblk,h'.counts,h'.low,h'.op,h'.tch,h'.far,h'.wrote,h'.foot,h'.size⟩
 rcases ho b hb with e|e
 ·exact h.wblk b e
 ·have l1:=blk_lt h.obj
  have l2:=h.counts.lt
  have l3:=h.size
  exact ⟨by omega,by omega,by omega,λe'=>by have:=(h.touched.lt _ e').2;omega⟩
theorem cell0 (h:RMid F w0 w base r bk o0 o2 so dv ws D n f x q K a old v c):w.cell? ⟨r,0,none⟩=some o0:=by rw [blk_cell h.obj];rfl
theorem cell1 (h:RMid F w0 w base r bk o0 o2 so dv ws D n f x q K a old v c):w.cell? ⟨r,1,none⟩=some (.int .i64 n):=by rw [blk_cell h.obj];rfl
theorem cell2 (h:RMid F w0 w base r bk o0 o2 so dv ws D n f x q K a old v c):w.cell? ⟨r,2,none⟩=some o2:=by rw [blk_cell h.obj];rfl
theorem cell3 (h:RMid F w0 w base r bk o0 o2 so dv ws D n f x q K a old v c):w.cell? ⟨r,3,none⟩=some (.slice (some ⟨bk,0,none⟩) n n):=by rw [blk_cell h.obj];rfl
theorem frozen (h:RMid F w0 w base r bk o0 o2 so dv ws D n f x q K a old v c) (k:Nat):w.frozen? ⟨r,k,none⟩=false:=blk_frozen h.obj k
theorem op0 (h:RMid F w0 w base r bk o0 o2 so dv ws D n f x q K a old v c):w.cell? ⟨x,0,none⟩=some (.int .i64 K):=by rw [blk_cell h.op];rfl
theorem op1 (h:RMid F w0 w base r bk o0 o2 so dv ws D n f x q K a old v c):w.cell? ⟨x,1,none⟩=some (.int .i64 a):=by rw [blk_cell h.op];rfl
theorem op2 (h:RMid F w0 w base r bk o0 o2 so dv ws D n f x q K a old v c):w.cell? ⟨x,2,none⟩=some (.int .u32 old):=by rw [blk_cell h.op];rfl
theorem op3 (h:RMid F w0 w base r bk o0 o2 so dv ws D n f x q K a old v c):w.cell? ⟨x,3,none⟩=some (.int .u32 v):=by rw [blk_cell h.op];rfl
theorem t0 (h:RMid F w0 w base r bk o0 o2 so dv ws D n f x q K a old v c):w.cell? ⟨q,0,none⟩=some (.int .i64 c.1):=by rw [blk_cell h.tch];rfl
theorem t1 (h:RMid F w0 w base r bk o0 o2 so dv ws D n f x q K a old v c):w.cell? ⟨q,1,none⟩=some (.int .i64 c.2.1):=by rw [blk_cell h.tch];rfl
theorem t2 (h:RMid F w0 w base r bk o0 o2 so dv ws D n f x q K a old v c):w.cell? ⟨q,2,none⟩=some (.bool c.2.2):=by rw [blk_cell h.tch];rfl
theorem slice (h:RMid F w0 w base r bk o0 o2 so dv ws D n f x q K a old v c):∃ sa cap,dv= .slice sa D.length cap∧RecsAt tchCells 3 w sa D.length D:=by
 obtain ⟨sa,cap,h1,h2,h3,h4⟩:=own_recs tch_len h.touched (by decide)
 exact ⟨sa,cap,h1,h3⟩
end RMid
theorem rmid_start {w Y:World} {base r bk:Nat} {so:Option Addr} {cap:Nat} {dv:Value} {s:PSta} (hr:RefAt w base r bk so cap dv s) (hbase:base≤w.heap.size) {K a old v:Int} (c:Tch) (nq:Nat)
  (hY:(w.alloc (.cells #[.int .i64 K,.int .i64 a,.int .u32 old,.int .u32 v] 223)).drewN nq=Y):
  RMid (Foot r bk dv) w (Y.alloc (.cells #[.int .i64 c.1,.int .i64 c.2.1,.bool c.2.2] 227)) base r bk (.slice so s.ws.length cap) dv so dv s.ws s.D s.ac.length (cntV s) w.heap.size Y.heap.size K a old v c:=by
 have hs:Y.heap.size=w.heap.size+1:=by rw [←hY];exact nblk_alloc _ _
 have hb:Y.heap[w.heap.size]? =some (.cells #[.int .i64 K,.int .i64 a,.int .u32 old,.int .u32 v] 223 (0,0)):=by rw [←hY];exact blk_alloc_new _ _
 have k:Wr Nil w (Y.alloc (.cells #[.int .i64 c.1,.int .i64 c.2.1,.bool c.2.2] 227)):=by rw [←hY];exact (((Wr.refl Nil w).alloc _).drewN nq).alloc _
 have h:=hr.after k λ_ _=>id
 have hlo:=hr.touched.lt
 have l1:=blk_lt hr.obj
 have l2:=hr.counts.lt
 refine ⟨h.obj,h.words,h.wblk,h.touched,⟨h.tblk.1,h.tblk.2,λe=> ?_,λe=> ?_⟩,h.counts,h.low,?_,blk_alloc_new _ _,by omega,k.mono (λ_ _ x=>x.elim),⟨.inl rfl,.inr (.inl rfl),λj hj _=> .inr (.inr hj)⟩,?_⟩
 ·have:=(hlo _ e).2;omega
 ·have:=(hlo _ e).2;omega
 ·rw [blk_alloc_lt _ _ _ (by omega)];exact hb
 ·rw [nblk_alloc];omega
theorem bump_getD {l:List Nat} {t:Nat} (ht:t<l.length) (k:Nat):(bump l t true).getD k 0=if k=t then l.getD t 0+1 else l.getD k 0:=by
 simp only [bump,if_pos]
 rw [List.getD_eq_getElem?_getD,List.getElem?_set]
 by_cases e:t=k
 ·subst e;simp [ht]
 ·rw [if_neg e,if_neg (λx=>e x.symm)];rfl
theorem cnt_set0 {s:PSta} {t:Nat} (ht:t<s.ac.length) (j:Nat):(if j=t*3 then Value.int .i64 (((s.ac.getD t 0:Nat):Int)+1) else cntV s j)=cntV {s with ac:=bump s.ac t true} j:=by
 unfold cntV cntN
 simp only
 rw [bump_getD ht]
 by_cases e:j=t*3
 ·subst e;rw [if_pos rfl,if_pos (by omega),if_pos (by omega)];rfl
 ·rw [if_neg e]
  by_cases h:j%3=0
  ·rw [if_pos h,if_pos h,if_neg (by omega)]
  ·rw [if_neg h,if_neg h]
theorem cnt_set1 {s:PSta} {t:Nat} (ht:t<s.wc.length) (j:Nat):(if j=t*3+1 then Value.int .i64 (((s.wc.getD t 0:Nat):Int)+1) else cntV s j)=cntV {s with wc:=bump s.wc t true} j:=by
 unfold cntV cntN
 simp only
 rw [bump_getD ht]
 by_cases e:j=t*3+1
 ·subst e;rw [if_pos rfl,if_neg (by omega),if_pos (by omega),if_pos (by omega)];rfl
 ·rw [if_neg e]
  by_cases h:j%3=0
  ·rw [if_pos h,if_pos h]
  ·rw [if_neg h,if_neg h]
   by_cases h':j%3=1
   ·rw [if_pos h',if_pos h',if_neg (by omega)]
   ·rw [if_neg h',if_neg h']
theorem cnt_set2 {s:PSta} {t:Nat} (ht:t<s.mc.length) (j:Nat):(if j=t*3+2 then Value.int .i64 (((s.mc.getD t 0:Nat):Int)+1) else cntV s j)=cntV {s with mc:=bump s.mc t true} j:=by
 unfold cntV cntN
 simp only
 rw [bump_getD ht]
 by_cases e:j=t*3+2
 ·subst e;rw [if_pos rfl,if_neg (by omega),if_neg (by omega),if_pos (by omega)];rfl
 ·rw [if_neg e]
  by_cases h:j%3=0
  ·rw [if_pos h,if_pos h]
  ·rw [if_neg h,if_neg h]
   by_cases h':j%3=1
   ·rw [if_pos h',if_pos h']
   ·rw [if_neg h',if_neg h',if_neg (by omega)]
theorem tch_one (x:Tch):∀ u∈tchCells x,u.oneCell'=true:=by
 intro u hu
 simp only [tchCells,List.mem_cons,List.not_mem_nil,or_false] at hu
 rcases hu with rfl|rfl|rfl<;>rfl
theorem tch_news (w:World) (x:Tch) (t:TypeId):∀ (j:Nat) (u:Value),(tchCells x)[j]? =some u→(w.alloc (.cells #[.int .i64 x.1,.int .i64 x.2.1,.bool x.2.2] t)).drew.cell? ((⟨w.heap.size,0,none⟩:Addr).add j)=some u:=by
 intro j u hu
 show (w.alloc (.cells #[.int .i64 x.1,.int .i64 x.2.1,.bool x.2.2] t)).cell? _=_
 rw [Go.Addr.add_lit,Nat.zero_add,blk_cell (blk_alloc_new w _)]
 have hj:j<3:=(List.getElem?_eq_some_iff.1 hu).1
 have:j=0∨j=1∨j=2:=by omega
 rcases this with rfl|rfl|rfl<;>exact hu
theorem tch_size (w:World) (o:Obj):(w.alloc o).drew.heap.size=w.heap.size+1:=nblk_alloc w o
theorem own_after {w:World} {base:Nat} {e:TypeId} {size:Nat} {v:Value} {n:Nat} {xs:List Value} (h:w.ownsRow base e size v n xs) (o:Obj):(w.alloc o).drew.ownsRow base e size v n xs:=h.alloc o
def RMidPost (F:Nat→Prop) (w0:World) (base r bk:Nat) (o0 o2:Value) (ws:List Int) (D:List Tch) (n:Nat) (f:Nat→Value) (x q:Nat) (K a old v:Int) (c:Tch) (e:Ending) (w':World):Prop:=
 ∃ so cap,e= .returned (.tuple #[.slice so ws.length cap,.int .u32 (tellI ws K a),.int .i64 (didI ws K a old)])∧RMid F w0 w' base r bk o0 o2 so o2 (doL ws K a old v) D n f x q K a old v c
theorem rmid_do {F:Nat→Prop} {w0 w:World} {base r bk:Nat} {o2:Value} {so:Option Addr} {cap:Nat} {ws:List Int} {D:List Tch} {n:Nat} {f:Nat→Value} {x q:Nat} {K a old v:Int} {c:Tch} (h:RMid F w0 w base r bk (.slice so ws.length cap) o2 so o2 ws D n f x q K a old v c)
  (hl:ws.length≤1000000) (v0:0≤v) (v1:v<4294967296):
  Calls prog 141 #[.slice so ws.length cap,.agg #[.int .i64 K,.int .i64 a,.int .u32 old,.int .u32 v]] w (RMidPost F w0 base r bk (.slice so ws.length cap) o2 ws D n f x q K a old v c):=by
 refine (do_any h.words hl K a old v v0 v1).mono ?_
 rintro e w' ⟨so',cap',he,hr,hW,ho⟩
 exact ⟨so',cap',he,h.anew hW (doL_len _ _ _ _ _) hr ho⟩
theorem storeL_rng {ws:List Int} {a v:Int} (h:∀ z∈ws,0≤z∧z<4294967296) (v0:0≤v) (v1:v<4294967296):∀ z∈storeL ws a v,0≤z∧z<4294967296:=by
 intro z hz
 unfold storeL at hz
 split at hz
 ·rcases List.mem_or_eq_of_mem_set hz with hz|rfl
  ·exact h z hz
  ·exact ⟨v0,v1⟩
 ·exact h z hz
theorem doL_rng {ws:List Int} {K a old v:Int} (h:∀ z∈ws,0≤z∧z<4294967296) (v0:0≤v) (v1:v<4294967296):∀ z∈doL ws K a old v,0≤z∧z<4294967296:=by
 unfold doL casL addL
 split
 ·exact storeL_rng h v0 v1
 ·split
  ·split
   ·exact storeL_rng h v0 v1
   ·exact h
  ·split
   ·exact storeL_rng h (by omega) (by omega)
   ·exact h
theorem ok_at {s:PSta} {t a:Nat} {K:Int} (ht:t<s.ac.length) (ha:a<s.ws.length) (k1:1≤K) (k5:K≤5):okS s t K a=true:=by
 unfold okS
 rw [okT_at ht ha]
 simp [k1,k5]
theorem tell_ok {s:PSta} {t a:Nat} {K old:Int} (ht:t<s.ac.length) (ha:a<s.ws.length) (k1:1≤K) (k5:K≤5):tellS s t K a=tellI s.ws K a∧didS s t K a old=didI s.ws K a old:=by
 unfold tellS didS
 rw [ok_at ht ha k1 k5]
 exact ⟨rfl,rfl⟩
theorem rmid_end {F:Nat→Prop} {w0 w:World} {base r bk:Nat} {so so0:Option Addr} {cap cap0:Nat} {dv dv0:Value} {s:PSta} {t a x q:Nat} {K old v:Int} {wr b:Bool} {c:Tch} (hr:RefAt w0 base r bk so0 cap0 dv0 s) (ht:t<s.ac.length) (ha:a<s.ws.length) (k1:1≤K) (k5:K≤5)
  (hwr:wr=decide (1<K)) (hb:b=missL s.D t a wr s.ac.length) (v0:0≤v) (v1:v<4294967296)
  (h:RMid F w0 w base r bk (.slice so s.ws.length cap) dv so dv (doL s.ws K a old v) (s.D++[((t:Int),(a:Int),wr)]) s.ac.length (cntV {s with ac:=bump s.ac t true,wc:=bump s.wc t wr,mc:=bump s.mc t b}) x q K a old v c):
  RefSt w base r (doS s t K a old v)∧Wr F w0 w:=by
 have hd:doS s t K a old v={ws:=doL s.ws K a old v,D:=s.D++[((t:Int),(a:Int),wr)],ac:=bump s.ac t true,wc:=bump s.wc t wr,mc:=bump s.mc t b}:=by
  unfold doS
  rw [ok_at ht ha k1 k5,if_pos rfl]
  unfold touchS
  rw [←hwr,←hb,Int.toNat_natCast]
 rw [hd]
 refine ⟨⟨bk,so,cap,dv,?_⟩,h.wrote⟩
 have hl:(doL s.ws K a old v).length=s.ws.length:=doL_len _ _ _ _ _
 have hD:(s.D++[((t:Int),(a:Int),wr)]).length=s.D.length+1:=by simp
 refine ⟨?_,h.words,h.wblk,h.touched,⟨h.tblk.1,h.tblk.2.1⟩,?_,by simp [bump_len,hr.lv],by simp [bump_len,hr.lm],?_,?_,?_,doL_rng hr.rngW v0 v1,h.low⟩
 ·have:=h.obj
  simpa [bump_len,hl] using this
 ·show w.rowIs bk _ ((bump s.ac t true).length*3) _
  rw [bump_len]
  exact h.counts
 ·intro y hy
  rw [hD]
  exact bump_le hr.rngA y (show y∈bump s.ac t true from hy)
 ·intro y hy
  rw [hD]
  exact bump_le hr.rngV y (show y∈bump s.wc t wr from hy)
 ·intro y hy
  rw [hD]
  exact bump_le hr.rngM y (show y∈bump s.mc t b from hy)
set_option maxRecDepth 100000 in
theorem rdo_ok {w:World} {base r bk:Nat} {so:Option Addr} {cap:Nat} {dv:Value} {s:PSta} (h:RefAt w base r bk so cap dv s) (t a:Nat) (K old v:Int) (ht:t<s.ac.length) (ha:a<s.ws.length) (k1:1≤K) (k5:K≤5) (v0:0≤v) (v1:v<4294967296) (hD:s.D.length<1000000) (hws:s.ws.length≤4096) (hac:s.ac.length≤64) (hbase:base≤w.heap.size):
  Calls prog 136 #[.pointer (some ⟨r,0,none⟩),.int .i64 t,.agg #[.int .i64 K,.int .i64 a,.int .u32 old,.int .u32 v]] w (RDoPost base r bk dv (doS s t K a old v) (tellS s t K a) (didS s t K a old) w):=by
 obtain ⟨F,hF⟩:∃ F,F=Foot r bk dv:=⟨_,rfl⟩
 obtain ⟨X,hX⟩:∃ X,X=w.alloc (.cells #[.int .i64 K,.int .i64 a,.int .u32 old,.int .u32 v] 223):=⟨_,rfl⟩
 have hW:Wr Nil w X:=by rw [hX];exact (Wr.refl _ _).alloc _
 have hR:=h.after hW λ_ _=>id
 have x0:X.cell? ⟨w.heap.size,0,none⟩=some (.int .i64 K):=by rw [hX];simp
 have x1:X.cell? ⟨w.heap.size,1,none⟩=some (.int .i64 a):=by rw [hX];simp
 have c0:=hR.cell0
 have c1:=hR.cell1
 have HR:=Lib.hid (And.intro hR (And.intro hW (And.intro h hX)))
 have d1:decide ((t:Int)<0)=false:=decide_eq_false (by omega)
 have d2:decide ((s.ac.length:Int)≤t)=false:=decide_eq_false (by omega)
 have d2':decide (s.ac.length≤t)=false:=decide_eq_false (by omega)
 have d3:decide ((a:Int)<0)=false:=decide_eq_false (by omega)
 have d4:decide ((s.ws.length:Int)≤a)=false:=decide_eq_false (by omega)
 have d4':decide (s.ws.length≤a)=false:=decide_eq_false (by omega)
 have d5:decide (K<1)=false:=decide_eq_false (by omega)
 have d6:decide (5<K)=false:=decide_eq_false (by omega)
 clear hR hW h hX
 go_enter func136,ntmps136
 go_wp2
 rw [←HR.out.2.2.2]
 go_big_quiet (fail)
 generalize hY:X.drewN nq=Y
 have y0:Y.cell? ⟨w.heap.size,0,none⟩=some (.int .i64 K):=by rw [←hY];exact x0
 have y1:Y.cell? ⟨w.heap.size,1,none⟩=some (.int .i64 a):=by rw [←hY];exact x1
 have M0:=rmid_start (Y:=Y) HR.out.2.2.1 hbase ((t:Int),(a:Int),decide (1<K)) nq (by rw [HR.out.2.2.2] at hY;exact hY)
 rw [←hF] at M0
 have HF:=Lib.hid hF
 clear hF
 have M:=Lib.hid M0
 clear x0 x1 c0 c1 hY M0 d1 d2 d2' d3 d4 d4' d5 d6
 go_wp2
 clear y0 y1
 generalize Y.alloc (.cells #[.int .i64 (t:Int),.int .i64 (a:Int),.bool (decide (1<K))] 227)=Z at M ⊢
 generalize Y.heap.size=q at M ⊢
 obtain ⟨wr,hwr⟩:∃ b,b=decide (1<K):=⟨_,rfl⟩
 rw [←hwr] at M
 have HK:=Lib.hid (And.intro hwr (And.intro k1 k5))
 clear hwr k1 k5
 have c3:=M.out.cell3
 have e2:=M.out.t2
 have f0:=M.out.counts.cell (show t*3<s.ac.length*3 by omega)
 have f1:=M.out.counts.cell (show t*3+1<s.ac.length*3 by omega)
 unfold cntV at f0 f1
 rw [cnt0] at f0
 rw [cnt1] at f1
 have b0:((s.ac.getD t 0:Nat):Int)+1≤9223372036854775807:=by have:=getD_le HR.out.2.2.1.rngA t;omega
 have b1:((s.wc.getD t 0:Nat):Int)+1≤9223372036854775807:=by have:=getD_le HR.out.2.2.1.rngV t;omega
 obtain ⟨xa,hxa⟩:∃ x,x=s.ac.getD t 0:=⟨_,rfl⟩
 obtain ⟨xv,hxv⟩:∃ x,x=s.wc.getD t 0:=⟨_,rfl⟩
 rw [←hxa] at f0 b0
 rw [←hxv] at f1 b1
 have HX:=Lib.hid (And.intro hxa hxv)
 clear hxa hxv
 have z0:=M.out.counts.frozen (t*3)
 have z1:=M.out.counts.frozen (t*3+1)
 have n1:¬ q=bk:=M.out.far.2.2.2
 have n2:¬ r=bk:=M.out.low.2.2
 have ht':(t:Int)<s.ac.length:=by omega
 have ht0:(0:Int)≤t:=by omega
 have hlv:=HR.out.2.2.1.lv
 have m1:RMid F w (Z.setCell ⟨bk,t*3,none⟩ (.int .i64 ((xa:Int)+1))).drew base r bk (.slice so s.ws.length cap) dv so dv s.ws s.D s.ac.length (cntV {s with ac:=bump s.ac t true,wc:=bump s.wc t false}) w.heap.size q K a old v ((t:Int),(a:Int),wr):=
  ((M.out.store (t*3) (.int .i64 ((xa:Int)+1))).congr (g:=cntV {s with ac:=bump s.ac t true}) (λj _=>by rw [HX.out.1];exact cnt_set0 ht j)).after (Wr.refl Nil _).drew
 have m2:RMid F w ((Z.setCell ⟨bk,t*3,none⟩ (.int .i64 ((xa:Int)+1))).setCell ⟨bk,t*3+1,none⟩ (.int .i64 ((xv:Int)+1))).drew.drew base r bk (.slice so s.ws.length cap) dv so dv s.ws s.D s.ac.length (cntV {s with ac:=bump s.ac t true,wc:=bump s.wc t true}) w.heap.size q K a old v ((t:Int),(a:Int),wr):=
  ((m1.store (t*3+1) (.int .i64 ((xv:Int)+1))).congr (g:=cntV {s with ac:=bump s.ac t true,wc:=bump s.wc t true}) (λj _=>by rw [HX.out.2];exact cnt_set1 (s:={s with ac:=bump s.ac t true}) (by rw [hlv];exact ht) j)).after (Wr.refl Nil _).drew
 have HM1:=Lib.hid m1
 have HM2:=Lib.hid m2
 clear m1 m2 hlv
 have hmv:=HR.out.2.2.1.lm
 have hrm:=HR.out.2.2.1.rngM
 have HKK:=Lib.hid (And.intro hmv (And.intro hrm (And.intro v0 v1)))
 have hap:0<s.ws.length:=by omega
 have HA:=Lib.hid ha
 clear hmv hrm v0 v1 ha
 refine wp_region_tail 11 (by kernel_rfl) (by kernel_rfl) ?_
 simp only [List.take_succ_cons,List.take_zero,List.drop_succ_cons,List.drop_zero]
 repeat still_step
 refine wpStill_nil ?_
 go_upto_if 66 with fail
 go_cut [] from 54 (λw'=>RMid F w w' base r bk (.slice so s.ws.length cap) dv so dv s.ws s.D s.ac.length (cntV {s with ac:=bump s.ac t true,wc:=bump s.wc t wr}) w.heap.size q K a old v ((t:Int),(a:Int),wr))
 case first=>
  cases wr
  ·go_wp2
   go_meet
   exact HM1.out
  ·go_wp2
   refine wp_region_tail 11 (by kernel_rfl) (by kernel_rfl) ?_
   simp only [List.take_succ_cons,List.take_zero,List.drop_succ_cons,List.drop_zero]
   repeat still_step
   refine wpStill_nil ?_
   go_wp2
   go_meet
   exact HM2.out
 case rest=>
  clear HM1 HM2 c3 f0 f1 z0 z1 M HX b0 b1 e2 n1 n2
  have hb:∃ b,b=missL s.D t a wr s.ac.length:=⟨_,rfl⟩
  obtain ⟨b,hb⟩:=hb
  obtain ⟨sa,cp,hdv,hrec⟩:=hcut.slice
  subst hdv
  have g1:=hcut.cell1
  have g2:=hcut.cell2
  have t0:=hcut.t0
  have t1:=hcut.t1
  have t2:=hcut.t2
  have cM:Calls prog 140 #[.slice sa s.D.length cp,.agg #[.int .i64 t,.int .i64 a,.bool wr],.int .i64 s.ac.length] wc.drew λe w'=>e= .returned (.bool b)∧RMid F w w' base r bk (.slice so s.ws.length cap) (.slice sa s.D.length cp) so (.slice sa s.D.length cp) s.ws s.D s.ac.length (cntV {s with ac:=bump s.ac t true,wc:=bump s.wc t wr}) w.heap.size q K a old v ((t:Int),(a:Int),wr):=by
   rw [hb]
   exact (ref_miss (cap:=cp) (m:=s.ac.length) (hrec.after (Wr.refl Nil wc).drew) (by omega) (t:Int) (a:Int) wr (by omega)).mono λe w' h=>⟨h.1,hcut.after ((Wr.refl Nil wc).drew.nil h.2)⟩
  have HB:=Lib.hid hb
  clear hcut hrec hb
  go_upto_region 7 with fail
  refine wp_region_tail 9 (by kernel_rfl) (by kernel_rfl) ?_
  simp only [List.take_succ_cons,List.take_zero,List.drop_succ_cons,List.drop_zero]
  repeat still_step
  refine wpStill_nil ?_
  go_upto_if 87 with (go_at_call 140;with_reducible refine cM.mono ?_;rintro e w3 ⟨rfl,M3⟩)
  go_cut [] from 54 (λw'=>RMid F w w' base r bk (.slice so s.ws.length cap) (.slice sa s.D.length cp) so (.slice sa s.D.length cp) s.ws s.D s.ac.length (cntV {s with ac:=bump s.ac t true,wc:=bump s.wc t wr,mc:=bump s.mc t b}) w.heap.size q K a old v ((t:Int),(a:Int),wr))
  case first=>
   cases b
   ·go_wp2
    go_meet
    exact M3
   ·have c3:=M3.cell3
    have f2:=M3.counts.cell (show t*3+2<s.ac.length*3 by omega)
    unfold cntV at f2
    rw [cnt2] at f2
    have z2:=M3.counts.frozen (t*3+2)
    have b2:((s.mc.getD t 0:Nat):Int)+1≤9223372036854775807:=by have:=getD_le HKK.out.2.1 t;omega
    have m4:=((M3.store (t*3+2) (.int .i64 (((s.mc.getD t 0:Nat):Int)+1))).congr (g:=cntV {s with ac:=bump s.ac t true,wc:=bump s.wc t wr,mc:=bump s.mc t true}) (λj _=>cnt_set2 (s:={s with ac:=bump s.ac t true,wc:=bump s.wc t wr}) (by show t<s.mc.length;rw [HKK.out.1];exact ht) j)).after (Wr.refl Nil _).drew
    obtain ⟨xm,hxm⟩:∃ x,x=s.mc.getD t 0:=⟨_,rfl⟩
    rw [show ({s with ac:=bump s.ac t true,wc:=bump s.wc t wr}:PSta).mc.getD t 0=s.mc.getD t 0 from rfl,←hxm] at f2
    rw [←hxm] at b2 m4
    have HM4:=Lib.hid m4
    clear M3 hxm m4
    go_wp2
    refine wp_region_tail 11 (by kernel_rfl) (by kernel_rfl) ?_
    simp only [List.take_succ_cons,List.take_zero,List.drop_succ_cons,List.drop_zero]
    repeat still_step
    refine wpStill_nil ?_
    go_wp2
    go_meet
    exact HM4.out
  case rest=>
   clear cM M3 g1 g2 t0 t1 t2
   have g2:=hcut.cell2
   have g2':=(hcut.after ((Wr.refl Nil wc).alloc (.cells #[.int .i64 t,.int .i64 a,.bool wr] 227))).cell2
   have t0:=hcut.t0
   have t1:=hcut.t1
   have t2:=hcut.t2
   have own:=hcut.touched
   have hsz:=hcut.size
   have hnew:=tch_news wc ((t:Int),(a:Int),wr) 227
   have M5:∀ g cp2 w5,w5.ownsRow base 227 3 (.slice (some ⟨g,0,none⟩) (s.D.length+1) cp2) (s.D.length+1) (s.D.flatMap tchCells++tchCells ((t:Int),(a:Int),wr))→(wc.alloc (.cells #[.int .i64 t,.int .i64 a,.bool wr] 227)).drew.grownBy w5 (Value.slice sa s.D.length cp).ownBlock→
     ((Value.slice sa s.D.length cp).ownBlock=some g∨g=(wc.alloc (.cells #[.int .i64 t,.int .i64 a,.bool wr] 227)).drew.heap.size)→RMid F w w5 base r bk (.slice so s.ws.length cap) (.slice sa s.D.length cp) so (.slice (some ⟨g,0,none⟩) (s.D.length+1) cp2) s.ws (s.D++[((t:Int),(a:Int),wr)]) s.ac.length (cntV {s with ac:=bump s.ac t true,wc:=bump s.wc t wr,mc:=bump s.mc t b}) w.heap.size q K a old v ((t:Int),(a:Int),wr):=
    λg cp2 w5 h1 h2 h3=>(hcut.after ((Wr.refl Nil wc).alloc _).drew).grown hap h1 h2 h3
   have HM5:=Lib.hid M5
   have HO:=Lib.hid (And.intro own (And.intro hsz hnew))
   clear hcut M5 own hsz hnew
   obtain ⟨i0,hi,hz0,hz1,hz2⟩:=info_parts info_tch
   go_upto_region 9 with fail
   go_cut [] from 54 (λw'=>∃ g cp2,RMid F w w' base r bk (.slice so s.ws.length cap) (.slice (some ⟨g,0,none⟩) (s.D.length+1) cp2) so (.slice (some ⟨g,0,none⟩) (s.D.length+1) cp2) s.ws (s.D++[((t:Int),(a:Int),wr)]) s.ac.length (cntV {s with ac:=bump s.ac t true,wc:=bump s.wc t wr,mc:=bump s.mc t b}) w.heap.size q K a old v ((t:Int),(a:Int),wr))
   case first=>
    go_region_law (refine step_append_lies _ rfl _ _ 103 rfl base 227 i0 (.agg #[.int .i64 0,.int .i64 0,.bool false]) 3 24 underlying103 hi hz0 hz1 hz2 rfl (by decide) (.slice sa s.D.length cp) s.D.length (s.D.flatMap tchCells) (by simp [Act.eval]) (own_after HO.out.1 _) ⟨wc.heap.size,0,none⟩ 1 1 (tchCells ((t:Int),(a:Int),wr)) (by simp [Act.eval]) rfl HO.out.2.2 (tch_one _) (by decide) (by unfold maxLen;omega) (by omega) (by have:=HO.out.2.1;rw [tch_size];omega) _ rfl ?_;intro g cp2 w5 hown hgrow hor hlt;have m5:=HM5.out g cp2 w5 hown hgrow hor;have r2:=m5.cell2;have rf:=m5.frozen 2;have HM6:=Lib.hid (m5.store2 (.slice (some ⟨g,0,none⟩) (s.D.length+1) cp2));clear m5 hown hgrow hor hlt)
    all_goals
     go_wp2
     go_meet
     exact ⟨g,cp2,HM6.out⟩
   case rest=>
    clear HM5 HO g2 g2' t0 t1 t2
    obtain ⟨g,cp2,hM⟩:=hcut
    have g0:=hM.cell0
    have p0:=hM.op0
    have p1:=hM.op1
    have p2:=hM.op2
    have p3:=hM.op3
    have cD:Calls prog 141 #[.slice so s.ws.length cap,.agg #[.int .i64 K,.int .i64 a,.int .u32 old,.int .u32 v]] wc.drew (RMidPost F w base r bk (.slice so s.ws.length cap) (.slice (some ⟨g,0,none⟩) (s.D.length+1) cp2) s.ws (s.D++[((t:Int),(a:Int),wr)]) s.ac.length (cntV {s with ac:=bump s.ac t true,wc:=bump s.wc t wr,mc:=bump s.mc t b}) w.heap.size q K a old v ((t:Int),(a:Int),wr)):=
     rmid_do (hM.after (Wr.refl Nil wc).drew) (by omega) HKK.out.2.2.1 HKK.out.2.2.2
    have HM:=Lib.hid hM
    clear hM
    go_upto_region 10 with fail
    go_region_with (go_at_call 141;with_reducible refine cD.mono ?_;intro e w8 h8;unfold RMidPost at h8;obtain ⟨so8,cap8,rfl,hM8⟩:=h8;have r0:=hM8.cell0;have rf:=hM8.frozen 0;have HM8:=Lib.hid (hM8.store0 (.slice so8 s.ws.length cap8));clear hM8 HM cD)
    all_goals
     go_wp2
     go_ret2
     obtain ⟨e1,e2⟩:=tell_ok (s:=s) (t:=t) (K:=K) (a:=a) (old:=old) ht HA.out HK.out.2.1 HK.out.2.2
     unfold RDoPost
     rw [←HF.out]
     refine ⟨by rw [e1,e2]<;>rfl,?_⟩
     exact rmid_end HR.out.2.2.1 ht HA.out HK.out.2.1 HK.out.2.2 HK.out.1 HB.out HKK.out.2.2.1 HKK.out.2.2.2 HM8.out
theorem rdo_any {w:World} {base r bk:Nat} {so:Option Addr} {cap:Nat} {dv:Value} {s:PSta} (h:RefAt w base r bk so cap dv s) (t K a old v:Int) (v0:0≤v) (v1:v<4294967296) (hD:s.D.length<1000000) (hws:s.ws.length≤4096) (hac:s.ac.length≤64) (hbase:base≤w.heap.size):
  Calls prog 136 #[.pointer (some ⟨r,0,none⟩),.int .i64 t,.agg #[.int .i64 K,.int .i64 a,.int .u32 old,.int .u32 v]] w (RDoPost base r bk dv (doS s t K a old v) (tellS s t K a) (didS s t K a old) w):=by
 by_cases hn:t<0∨(¬ t<0∧s.ac.length≤t)∨(¬ t<0∧¬ s.ac.length≤t∧a<0)∨(¬ t<0∧¬ s.ac.length≤t∧¬ a<0∧s.ws.length≤a)∨(¬ t<0∧¬ s.ac.length≤t∧¬ a<0∧¬ s.ws.length≤a∧K<1)∨(¬ t<0∧¬ s.ac.length≤t∧¬ a<0∧¬ s.ws.length≤a∧¬ K<1∧5<K)
 ·have hok:okS s t K a=false:=by
   unfold okS
   by_cases h1:0≤t∧t<s.ac.length∧0≤a∧a<s.ws.length
   ·rw [show decide (1≤K∧K≤5)=false from decide_eq_false (by omega),Bool.and_false]
   ·rw [okT_not h1,Bool.false_and]
  have e1:doS s t K a old v=s:=by unfold doS;rw [hok];rfl
  have e2:tellS s t K a=0:=by unfold tellS;rw [hok];rfl
  have e3:didS s t K a old=0:=by unfold didS;rw [hok];rfl
  rw [e1,e2,e3]
  exact rdo_not h t K a old v hn
 ·obtain ⟨t,rfl⟩:=Int.eq_ofNat_of_zero_le (show 0≤t by omega)
  obtain ⟨a,rfl⟩:=Int.eq_ofNat_of_zero_le (show 0≤a by omega)
  exact rdo_ok h t a K old v (by omega) (by omega) (by omega) (by omega) v0 v1 hD hws hac hbase
open _root_.Go.Proofs.Tryz
theorem eq_cnt (a b c:Int) (w:World):(Op.equalIn 10000 139 (.agg #[.int .i64 a,.int .i64 b,.int .i64 c]) (.agg #[.int .i64 a,.int .i64 b,.int .i64 c])).run prog w= .ok true w:=by
 have u3:=underlying3
 have a3:=isAgg3
 have z3:=sizeOf3
 rw [show (10000:Nat)=9999+1 from rfl,Op.equalIn]
 simp only [Sem.run_bind,run_underlying underlying139,Result.andThen_ok]
 simp only [Std.Legacy.Range.forIn_eq_forIn_range',Std.Legacy.Range.size,Nat.sub_zero,Nat.add_sub_cancel,Nat.div_one,List.range'_succ,List.range'_zero,List.forIn_cons,List.forIn_nil]
 go_simp
def SamePost (w:World) (e:Ending) (w':World):Prop:=e= .returned (.bool true)∧Wr Nil w w'
set_option maxRecDepth 100000 in
theorem same_any {w:World} {q:Place} {hs:List Int} {s:PSta} {base r:Nat} (hP:PortAt w q hs s) (hR:RefSt w base r s):
  Calls prog 38 #[.pointer (some ⟨q.p,0,none⟩),.pointer (some ⟨r,0,none⟩)] w (SamePost w):=by
 obtain ⟨bk,so,cap,dv,hR⟩:=hR
 have p0:=hP.cell0
 have cW:=words_any hP.mem
 have hws:=hP.words
 have hac:=hP.threads
 go_enter func38,ntmps38
 go_wp2_with (go_at_call 29;with_reducible refine cW.mono ?_;intro e w2 h2;unfold WordsPost at h2;obtain ⟨g,rfl,hrow,hg,hW2⟩:=h2;have hP2:=hP.after hW2;have hR2:=hR.after hW2 λ_ _=>id;have q0:=hP2.cell0;have r0:=hR2.cell0;have r1:=hR2.cell1;have cL:=λn=>len_any (hP2.after ((Wr.refl Nil w2).drewN n)).mem;have cT:=λn=>pthreads_any (hP2.after ((Wr.refl Nil w2).drewN n)))
 have HH:=Lib.hid (And.intro hP2 (And.intro hR2 (And.intro hrow hW2)))
 clear cW hP hR hP2 hR2 hrow hW2 p0
 go_big_quiet (first
  |(go_at_call 59;exact Calls.quiet_of_same (cT _))
  |(go_at_call 14;exact (cL _).mono λ_ _ h=>⟨h.1,_,h.2.symm⟩))
 go_wp2
 go_loopw [45] (λi wr=>∃ k:Nat,k≤s.ws.length∧i= .int .i64 k∧PortAt wr q hs s∧RefAt wr base r bk so cap dv s∧wr.rowIs g 62 s.ws.length (λj=> .int .u32 (s.ws.getD j 0))∧Wr Nil w wr) (λi _=>s.ws.length-(intOf i).toNat)
 case atStart=>
  obtain ⟨f1,f2,f3,f4⟩:=HH.out
  have d:=(Wr.refl Nil w2).drewN nq
  exact ⟨0,Nat.zero_le _,rfl,f1.after d,f2.after d λ_ _=>id,f3.of_block rfl,f4.nil d⟩
 case round=>
  clear HH q0 r0 r1 cL cT
  obtain ⟨k,hk,rfl,hP,hR,hrow,hW⟩:=hrel
  by_cases hlt:k<s.ws.length
  ·rcases hR.words.at with e0|⟨b,o,rfl,hc⟩
   ·omega
   ·have f1:=hrow.cell hlt
    have f2:=hc k hlt
    have f3:=hR.cell0
    obtain ⟨x,hx⟩:∃ x,x=s.ws.getD k 0:=⟨_,rfl⟩
    rw [←hx] at f1 f2
    have f4:(k:Int)<s.ws.length:=by omega
    have HX:=Lib.hid (And.intro hP (And.intro hR (And.intro hrow (And.intro hW (And.intro hx hc)))))
    clear hP hR hrow hW hx hc
    go_wp2
    go_quiet (fail)
    go_wp2
    go_roundw
    case rel=>
     obtain ⟨g1,g2,g3,g4,_⟩:=HX.out
     have d:=(Wr.refl Nil wr).drewN nq
     exact ⟨k+1,by omega,by go_num,g1.after d,g2.after d λ_ _=>id,g3.of_block rfl,g4.nil d⟩
    case measure=>simp [intOf];omega
  ·have r1:=hR.cell1
   have HX:=Lib.hid (And.intro hP (And.intro hR hW))
   clear hP hR hrow hW
   go_wp2
   go_loopw [65] (λi wr2=>∃ t:Nat,t≤s.ac.length∧i= .int .i64 t∧PortAt wr2 q hs s∧RefAt wr2 base r bk so cap dv s∧Wr Nil w wr2) (λi _=>s.ac.length-(intOf i).toNat)
   case atStart=>exact ⟨0,Nat.zero_le _,rfl,HX.out.1,HX.out.2.1,HX.out.2.2⟩
   case round=>
    clear HX r1
    obtain ⟨t,ht,rfl,hP,hR,hW⟩:=hrel
    by_cases htn:t<s.ac.length
    ·have f0:=hR.count0 htn
     have f1:=hR.count1 htn
     have f2:=hR.count2 htn
     have f3:=hR.cell3
     have f4:(t:Int)<s.ac.length:=by omega
     have f5:(0:Int)≤t:=by omega
     have cA:=λn=>paccesses_any (hP.after ((Wr.refl Nil wr).drewN n)) (t:Int)
     have cV:=λn=>pwrites_any (hP.after ((Wr.refl Nil wr).drewN n)) (t:Int)
     have cM:=λn=>pmisses_any (hP.after ((Wr.refl Nil wr).drewN n)) (t:Int)
     rw [cntI_at] at cA cV cM
     generalize s.ac.getD t 0=x0 at f0 cA
     generalize s.wc.getD t 0=x1 at f1 cV
     generalize s.mc.getD t 0=x2 at f2 cM
     have HX:=Lib.hid (And.intro hP (And.intro hR hW))
     have hq:=eq_cnt (x0:Int) x1 x2
     clear hP hR hW
     go_wp2
     go_big_quiet (first
      |(go_at_call 36;exact Calls.quiet_of_same (cA _))
      |(go_at_call 60;exact (cV _).mono λ_ _ h=>⟨h.1,_,h.2⟩)
      |(go_at_call 61;exact (cM _).mono λ_ _ h=>⟨h.1,_,h.2⟩))
     go_wp2
     go_roundw
     case rel=>
      obtain ⟨g1,g2,g4⟩:=HX.out
      have d:=(Wr.refl Nil wr).drewN nq
      exact ⟨t+1,by omega,by go_num,g1.after d,g2.after d λ_ _=>id,g4.nil d⟩
     case measure=>simp [intOf];omega
    ·have HX:=Lib.hid hW
     clear hP hR hW
     go_wp2
     go_ret
     exact ⟨rfl,HX.out⟩
end Go.Proofs.YtkmikkjjnbikdaaGreat


import Derived.Deep.Cut
import Derived.Test.YtcikfcplagelaaaGreatPortNew
import Derived.Deep.AppendLies
namespace Go.Proofs.YtcikfcplagelaaaGreat
set_option maxHeartbeats 8000000
open _root_.Go.Proofs.Tryz Go.Deep
open Go.RowKit
set_option linter.unusedVariables false
set_option maxRecDepth 100000
theorem sinfo_int:(prog.info? 3).map (λi=>(i.zero,i.size,i.bytes))=some (some (.int .i64 0),1,8):=by kernel_rfl
def SF (r:Nat) (hv dv:Value) (k:Nat):Prop:=k=r∨hv.ownBlock=some k∨dv.ownBlock=some k
structure SrAt (w:World) (r:Nat) (hv dv:Value) (n m:Nat) (xs ys:List Int) (timed probed:Bool):Prop where
 obj:w.heap[r]? =some (.cells #[hv,dv,.bool timed,.bool probed] 119 (0,0))
 st:w.ownsRow 0 3 1 hv n (xs.map (Value.int .i64))
 dl:w.ownsRow 0 3 1 dv m (ys.map (Value.int .i64))
 apart:∀ k,hv.ownBlock=some k→dv.ownBlock=some k→False
 low:hv.ownBlock≠some r∧dv.ownBlock≠some r
theorem s_form {w:World} {base:Nat} {e:TypeId} {size:Nat} {v:Value} {n:Nat} {xs:List Value} (h:w.ownsRow base e size v n xs):∃ so cap,v= .slice so n cap:=by
 obtain ⟨so,cap,e,_⟩:=own_slice h
 exact ⟨so,cap,e⟩
theorem s_one (A:World) (x:Value) (t:TypeId) (b:Nat) (hb:b=A.heap.size):∀ j u,[x][j]? =some u→(A.alloc (.cells #[x] t)).cell? ((⟨b,0,none⟩:Addr).add j)=some u:=by
 subst hb
 intro j u hu
 have hj:j<1:=(List.getElem?_eq_some_iff.1 hu).1
 obtain rfl:j=0:=by omega
 rw [Go.Addr.add_lit,Nat.zero_add,blk_cell (blk_alloc_new A _)]
 exact hu
namespace SrAt
variable {w w' w1:World} {r:Nat} {hv dv hv' dv':Value} {n m:Nat} {xs ys:List Int} {timed probed:Bool}
theorem lt (h:SrAt w r hv dv n m xs ys timed probed) {k:Nat} (hk:SF r hv dv k):k<w.heap.size:=by
 rcases hk with rfl|x|x
 ·exact blk_lt h.obj
 ·exact (h.st.lt k x).2
 ·exact (h.dl.lt k x).2
theorem wrote {S:Nat→Prop} (h:SrAt w r hv dv n m xs ys timed probed) (k:Wr S w w') (hS:∀ b,SF r hv dv b→¬ S b):SrAt w' r hv dv n m xs ys timed probed:=
 ⟨(k.block r (blk_lt h.obj) (hS _ (.inl rfl))).trans h.obj,ownsRow_keep h.st λj hj=>k.block j (h.lt (.inr (.inl hj))) (hS j (.inr (.inl hj))),ownsRow_keep h.dl λj hj=>k.block j (h.lt (.inr (.inr hj))) (hS j (.inr (.inr hj))),h.apart,h.low⟩
theorem after (h:SrAt w r hv dv n m xs ys timed probed) (k:Wr Nil w w'):SrAt w' r hv dv n m xs ys timed probed:=h.wrote k λ_ _=>id
theorem cell0 (h:SrAt w r hv dv n m xs ys timed probed):w.cell? ⟨r,0,none⟩=some hv:=by rw [blk_cell h.obj];rfl
theorem frozen (h:SrAt w r hv dv n m xs ys timed probed) (k:Nat):w.frozen? ⟨r,k,none⟩=false:=blk_frozen h.obj k
theorem grow0 (h:SrAt w r hv dv n m xs ys timed probed) {o:Obj} {x:Int} (hown:w1.ownsRow 0 3 1 hv' (n+1) (xs.map (Value.int .i64)++[.int .i64 x])) (hg:(w.alloc o).grownBy w1 hv.ownBlock) (hat:hv'.ownBlock=hv.ownBlock∨hv'.ownBlock=some (w.alloc o).heap.size):
  w1.heap[r]? =w.heap[r]?∧SrAt (w1.setCell ⟨r,0,none⟩ hv') r hv' dv (n+1) m (xs++[x]) ys timed probed∧Wr (SF r hv dv) w (w1.setCell ⟨r,0,none⟩ hv')∧∀ k,SF r hv' dv k→SF r hv dv k∨w.heap.size≤k:=by
 have hW1:Wr (λk=>hv.ownBlock=some k) w w1:=((Wr.refl _ w).alloc o).grown hg λk hk _=>hk
 have hr:=hW1.block r (blk_lt h.obj) h.low.1
 have hsz:w.heap.size<(w.alloc o).heap.size:=by rw [nblk_alloc];omega
 have hB:Wr (One r) w1 (w1.setCell ⟨r,0,none⟩ hv'):=(Wr.refl _ w1).setCell _ _ λ_=>rfl
 have hne:∀ k,hv'.ownBlock=some k→k≠r∧dv.ownBlock≠some k:=λk hk=>by
  rcases hat with e|e
  ·rw [e] at hk
   exact ⟨λe2=>h.low.1 (by rw [←e2];exact hk),λe2=>h.apart k hk e2⟩
  ·rw [e] at hk
   have e':(w.alloc o).heap.size=k:=by simpa using hk
   exact ⟨λe2=>by have:=blk_lt h.obj;omega,λe2=>by have:=(h.dl.lt k e2).2;omega⟩
 refine ⟨hr,⟨?_,?_,?_,λk h1 h2=>(hne k h1).2 h2,λe=>(hne _ e).1 rfl,h.low.2⟩,(hW1.mono λ_ _ e=> .inr (.inl e)).trans hB λb _ e=>by cases e;exact .inl rfl,λk hk=> ?_⟩
 ·rw [blk_setCell (hr.trans h.obj)];rfl
 ·rw [List.map_append]
  exact ownsRow_keep hown λb hb=>hB.block b (hown.lt b hb).2 (hne b hb).1
 ·refine ownsRow_keep (ownsRow_keep h.dl λb hb=>hW1.block b (h.dl.lt b hb).2 λe=>h.apart b e hb) λb hb=>hB.block b (Nat.lt_of_lt_of_le (h.dl.lt b hb).2 hW1.size) λe=>h.low.2 (by cases e;exact hb)
 ·rcases hk with x|x|x
  ·exact .inl (.inl x)
  ·rcases hat with e|e
   ·exact .inl (.inr (.inl (e▸x)))
   ·rw [e] at x
    have e':(w.alloc o).heap.size=k:=by simpa using x
    exact .inr (by omega)
  ·exact .inl (.inr (.inr x))
theorem grow1 (h:SrAt w r hv dv n m xs ys timed probed) {o:Obj} {x:Int} (hown:w1.ownsRow 0 3 1 dv' (m+1) (ys.map (Value.int .i64)++[.int .i64 x])) (hg:(w.alloc o).grownBy w1 dv.ownBlock) (hat:dv'.ownBlock=dv.ownBlock∨dv'.ownBlock=some (w.alloc o).heap.size):
  w1.heap[r]? =w.heap[r]?∧SrAt (w1.setCell ⟨r,1,none⟩ dv') r hv dv' n (m+1) xs (ys++[x]) timed probed∧Wr (SF r hv dv) w (w1.setCell ⟨r,1,none⟩ dv')∧∀ k,SF r hv dv' k→SF r hv dv k∨w.heap.size≤k:=by
 have hW1:Wr (λk=>dv.ownBlock=some k) w w1:=((Wr.refl _ w).alloc o).grown hg λk hk _=>hk
 have hr:=hW1.block r (blk_lt h.obj) h.low.2
 have hsz:w.heap.size<(w.alloc o).heap.size:=by rw [nblk_alloc];omega
 have hB:Wr (One r) w1 (w1.setCell ⟨r,1,none⟩ dv'):=(Wr.refl _ w1).setCell _ _ λ_=>rfl
 have hne:∀ k,dv'.ownBlock=some k→k≠r∧hv.ownBlock≠some k:=λk hk=>by
  rcases hat with e|e
  ·rw [e] at hk
   exact ⟨λe2=>h.low.2 (by rw [←e2];exact hk),λe2=>h.apart k e2 hk⟩
  ·rw [e] at hk
   have e':(w.alloc o).heap.size=k:=by simpa using hk
   exact ⟨λe2=>by have:=blk_lt h.obj;omega,λe2=>by have:=(h.st.lt k e2).2;omega⟩
 refine ⟨hr,⟨?_,?_,?_,λk h1 h2=>(hne k h2).2 h1,h.low.1,λe=>(hne _ e).1 rfl⟩,(hW1.mono λ_ _ e=> .inr (.inr e)).trans hB λb _ e=>by cases e;exact .inl rfl,λk hk=> ?_⟩
 ·rw [blk_setCell (hr.trans h.obj)];rfl
 ·refine ownsRow_keep (ownsRow_keep h.st λb hb=>hW1.block b (h.st.lt b hb).2 λe=>h.apart b hb e) λb hb=>hB.block b (Nat.lt_of_lt_of_le (h.st.lt b hb).2 hW1.size) λe=>h.low.1 (by cases e;exact hb)
 ·rw [List.map_append]
  exact ownsRow_keep hown λb hb=>hB.block b (hown.lt b hb).2 (hne b hb).1
 ·rcases hk with x|x|x
  ·exact .inl (.inl x)
  ·exact .inl (.inr (.inl x))
  ·rcases hat with e|e
   ·exact .inl (.inr (.inr (e▸x)))
   ·rw [e] at x
    have e':(w.alloc o).heap.size=k:=by simpa using x
    exact .inr (by omega)
end SrAt
def SS.dlS (s:SS) (t:Nat):Int:=if s.st t=1 then s.dl t else-1
def stL (s:SS):List Int:=(List.range s.n).map s.st
def dlL (s:SS):List Int:=(List.range s.n).map s.dlS
def RsAt (w:World) (r:Nat) (hv dv:Value) (s:SS):Prop:=SrAt w r hv dv s.n s.n (stL s) (dlL s) s.timed s.probed
structure RsMk (w:World) (r n m:Nat) (timed probed:Bool) (hv dv:Value) (wr:World):Prop where
 at_:SrAt wr r hv dv n m (List.replicate n 0) (List.replicate m (-1)) timed probed
 new:∀ k,SF r hv dv k→w.heap.size≤k
 wrote:Wr Nil w wr
def RsSt (w:World) (r n m:Nat) (timed probed:Bool) (wr:World):Prop:=∃ hv dv,RsMk w r n m timed probed hv dv wr
def RsNewPost (w:World) (n:Nat) (timed probed:Bool) (e:Ending) (w':World):Prop:=∃ r hv dv,e= .returned (.pointer (some ⟨r,0,none⟩))∧RsAt w' r hv dv (newSeat n timed probed)∧(∀ k,SF r hv dv k→w.heap.size≤k)∧Wr Nil w w'
theorem rep_snoc (k:Nat) (x:Int):List.replicate k x++[x]=List.replicate (k+1) x:=by rw [←List.replicate_succ']
theorem RsMk.grow0 {w wr w1:World} {r n m:Nat} {timed probed:Bool} {hv dv hv':Value} (h:RsMk w r n m timed probed hv dv wr) {o:Obj} (hown:w1.ownsRow 0 3 1 hv' (n+1) ((List.replicate n (0:Int)).map (Value.int .i64)++[.int .i64 0])) (hg:(wr.alloc o).grownBy w1 hv.ownBlock) (hat:hv'.ownBlock=hv.ownBlock∨hv'.ownBlock=some (wr.alloc o).heap.size):
  w1.heap[r]? =wr.heap[r]?∧RsMk w r (n+1) m timed probed hv' dv (w1.setCell ⟨r,0,none⟩ hv'):=by
 obtain ⟨h1,h2,h3,h4⟩:=h.at_.grow0 hown hg hat
 rw [rep_snoc] at h2
 refine ⟨h1,h2,λk hk=> ?_,h.wrote.trans h3 λb hb x=>absurd (h.new b x) (by omega)⟩
 rcases h4 k hk with x|x
 ·exact h.new k x
 ·exact Nat.le_trans h.wrote.size x
theorem RsMk.grow1 {w wr w1:World} {r n m:Nat} {timed probed:Bool} {hv dv dv':Value} (h:RsMk w r n m timed probed hv dv wr) {o:Obj} (hown:w1.ownsRow 0 3 1 dv' (m+1) ((List.replicate m (-1:Int)).map (Value.int .i64)++[.int .i64 (-1)])) (hg:(wr.alloc o).grownBy w1 dv.ownBlock) (hat:dv'.ownBlock=dv.ownBlock∨dv'.ownBlock=some (wr.alloc o).heap.size):
  w1.heap[r]? =wr.heap[r]?∧RsMk w r n (m+1) timed probed hv dv' (w1.setCell ⟨r,1,none⟩ dv'):=by
 obtain ⟨h1,h2,h3,h4⟩:=h.at_.grow1 hown hg hat
 rw [rep_snoc] at h2
 refine ⟨h1,h2,λk hk=> ?_,h.wrote.trans h3 λb hb x=>absurd (h.new b x) (by omega)⟩
 rcases h4 k hk with x|x
 ·exact h.new k x
 ·exact Nat.le_trans h.wrote.size x
theorem rs_start (w:World) (timed probed:Bool):RsSt w w.heap.size 0 0 timed probed (w.alloc (.cells #[.slice none 0 0,.slice none 0 0,.bool timed,.bool probed] 119)):=by
 refine ⟨.slice none 0 0,.slice none 0 0,⟨blk_alloc_new _ _,World.ownsRow_nil _ _ _ _,World.ownsRow_nil _ _ _ _,λk h=>by simp [Value.ownBlock] at h,by simp [Value.ownBlock],by simp [Value.ownBlock]⟩,λk hk=> ?_,(Wr.refl _ _).alloc _⟩
 rcases hk with rfl|x|x
 ·exact Nat.le_refl _
 ·simp [Value.ownBlock] at x
 ·simp [Value.ownBlock] at x
theorem rs_new (n:Nat) (timed probed:Bool) (hn:n≤64) (w:World):
  Calls prog 65 #[.int .i64 (n:Int),.bool timed,.bool probed] w (RsNewPost w n timed probed):=by
 obtain ⟨i0,hi,hz0,hz1,hz2⟩:=info_parts sinfo_int
 have h0:=rs_start w timed probed
 go_enter func65,ntmps65
 go_wp2
 generalize w.alloc (.cells #[.slice none 0 0,.slice none 0 0,.bool timed,.bool probed] 119)=w0 at h0 ⊢
 obtain ⟨r,hr⟩:∃ r,r=w.heap.size:=⟨_,rfl⟩
 rw [←hr] at h0 ⊢
 have HR:=Lib.hid hr
 clear hr
 go_loopw [8] (λi wr=>∃ k:Nat,k≤n∧i= .int .i64 k∧RsSt w r k k timed probed wr) (λi _=>n-(intOf i).toNat)
 case atStart=>exact ⟨0,Nat.zero_le _,rfl,h0⟩
 case round=>
  clear h0
  obtain ⟨k,hk,rfl,hv,dv,hR⟩:=hrel
  by_cases hlt:k<n
  ·have c0:=hR.at_.cell0
   have f0:=hR.at_.frozen 0
   have own1:∀ o,(wr.alloc o).ownsRow 0 3 1 hv k ((List.replicate k (0:Int)).map (Value.int .i64)):=λo=>hR.at_.st.alloc _
   have kH:=λ(o:Obj) (hv':Value) (w1:World) g1 g2 g3=>hR.grow0 (o:=o) (hv':=hv') (w1:=w1) g1 g2 g3
   have hml:k+1≤maxLen:=by unfold maxLen;omega
   have hobj:=hR.at_.obj
   have HO:=Lib.hid hobj
   clear hR hobj
   go_wp2_with (first
    |(at_builtin;refine wpList_append_own_at _ rfl (.tmp 22) (.tmp 23) 22 rfl 0 3 i0 (.int .i64 0) 1 8 underlying22 hi hz0 hz1 hz2 rfl (by decide) hv k _ rfl (own1 _) _ 1 1 [.int .i64 0] rfl rfl (s_one _ _ _ _ rfl) (by simp [Value.oneCell']) hml (by omega) (Nat.zero_le _) ?_;intro hv' w1 g1 g2 _ g3;obtain ⟨so,cp,rfl⟩:=s_form g1;obtain ⟨r1,hR2⟩:=kH _ _ _ g1 g2 g3;rw [HO.out] at r1;clear kH own1 g1 g2 g3;have e0:=(blk_cell r1 0).trans rfl;have e1:=(blk_cell r1 1).trans rfl;have f1:=blk_frozen r1 0;have f2:=blk_frozen r1 1;have own2:∀ o,((w1.setCell ⟨r,0,none⟩ (.slice so (k+1) cp)).alloc o).ownsRow 0 3 1 dv k ((List.replicate k (-1:Int)).map (Value.int .i64)):=λo=>hR2.at_.dl.alloc _;have kV:=λ(o:Obj) (dv':Value) (w3:World) g1 g2 g3=>hR2.grow1 (o:=o) (dv':=dv') (w1:=w3) g1 g2 g3;have hobj2:=hR2.at_.obj;have HO2:=Lib.hid hobj2;clear hR2 hobj2)
    |(at_builtin;refine wpList_append_own_at _ rfl (.tmp 31) (.tmp 32) 22 rfl 0 3 i0 (.int .i64 0) 1 8 underlying22 hi hz0 hz1 hz2 rfl (by decide) dv k _ rfl (own2 _) _ 1 1 [.int .i64 (-1)] rfl rfl (s_one _ _ _ _ (nblk_setCell _ _ _).symm) (by simp [Value.oneCell']) hml (by omega) (Nat.zero_le _) ?_;intro dv' w3 g1 g2 _ g3;obtain ⟨sv,cv,rfl⟩:=s_form g1;obtain ⟨r3,hR3⟩:=kV _ _ _ g1 g2 g3;rw [HO2.out] at r3;clear kV own2 g1 g2 g3;have e4:=(blk_cell r3 1).trans rfl;have f4:=blk_frozen r3 1;have T:=Lib.hid hR3;clear hR3))
   go_roundw
   case rel=>exact ⟨k+1,by omega,by go_num,_,_,T.out⟩
   case measure=>simp [intOf];omega
  ·obtain rfl:k=n:=by omega
   go_wp2
   go_ret
   refine ⟨r,hv,dv,rfl,?_,hR.new,hR.wrote⟩
   have e1:stL (newSeat k timed probed)=List.replicate k 0:=by
    rw [List.eq_replicate_iff]
    exact ⟨by simp [stL,newSeat],λb hb=>by obtain ⟨i,_,rfl⟩:=List.mem_map.1 hb;rfl⟩
   have e2:dlL (newSeat k timed probed)=List.replicate k (-1):=by
    rw [List.eq_replicate_iff]
    exact ⟨by simp [dlL,newSeat],λb hb=>by obtain ⟨i,_,rfl⟩:=List.mem_map.1 hb;exact if_neg (by show ¬ (0:Int)=1;decide)⟩
   show SrAt wr r hv dv k k (stL (newSeat k timed probed)) (dlL (newSeat k timed probed)) timed probed
   rw [e1,e2]
   exact hR.at_
theorem RsAt.after {w w':World} {r:Nat} {hv dv:Value} {s:SS} (h:RsAt w r hv dv s) (k:Wr Nil w w'):RsAt w' r hv dv s:=SrAt.after h k
open Go.RowKit Go.BigFrame
theorem wpList_append_fresh {P:Program} {ops:Array Oper} {rest:List Oper} {o:Oper} {a:Act} {w:World} {Q:Exit→Act→World→Prop}
  (hg:o.guard=none) (s x:Operand) (t:TypeId) (hop:o.op=Op.call {callee:=Callee.builtin Builtin.append,args:= #[s,x],argTypes:= #[t,t]})
  (e:TypeId) (i:TypeInfo) (z:Value) (bytes:Nat) (h1:P.underlying t=some (.slice e)) (h2:P.info? e=some i) (h3:i.zero=some z) (h4:i.size=1) (h5:i.bytes=bytes) (h6:z.cells.size=1)
  (hs:a.eval s= .slice none 0 0) (sa:Option Addr) (m c:Nat) (news:List Value) (hx:a.eval x= .slice sa m c) (hnone:sa=none→m=0) (hn:news.length=m)
  (hc:∀ b,sa=some b→∀ j u,news[j]? =some u→w.cell? (b.add j)=some u) (h1c:∀ u∈news,u.oneCell'=true)
  (b1:m≤maxLen) (b2:m*bytes≤140737488355328)
  (hK:∀ ao cap w',w'.ownsRow w.heap.size e 1 (.slice ao m cap) m news→w.grownBy w' none→wpList P ops Q rest (a.put o.dst (.slice ao m cap)) w'):wpList P ops Q (o::rest) a w:=by
 refine wpList_plain hg λK hK'=> ?_
 have h:=step_append_fresh (P:=P) (ops:=ops) (o:=o) (a:=a) (w:=w) (K:=K) (Q:=Q) (E:=True) hg s x t hop e i z bytes h1 h2 h3 h4 h5 h6 hs sa m c news hx hnone hn hc h1c b1 b2 (λao cap w' r1 r2=>hK' _ _ (hK ao cap w' r1 r2))
 rw [if_pos (by simp [Region.wanted,hg])] at h
 exact h
def cntN (s:PSta) (j:Nat):Nat:=if j%3=0 then s.ac.getD (j/3) 0 else if j%3=1 then s.wc.getD (j/3) 0 else s.mc.getD (j/3) 0
def cntV (s:PSta) (j:Nat):Value:= .int .i64 (cntN s j:Int)
structure RefAt (w:World) (base r bk:Nat) (so:Option Addr) (cap:Nat) (dv:Value) (s:PSta):Prop where
 obj:w.heap[r]? =some (.cells #[.slice so s.ws.length cap,.int .i64 s.ac.length,dv,.slice (some ⟨bk,0,none⟩) s.ac.length s.ac.length] 57 (0,0))
 words:RowAt .u32 w so s.ws.length s.ws
 wblk:∀ a,so=some a→base≤a.block∧a.block≠r∧a.block≠bk∧dv.ownBlock≠some a.block
 touched:w.ownsRow base 282 3 dv s.D.length (s.D.flatMap tchCells)
 tblk:dv.ownBlock≠some r∧dv.ownBlock≠some bk
 counts:w.rowIs bk 121 (s.ac.length*3) (cntV s)
 lv:s.wc.length=s.ac.length
 lm:s.mc.length=s.ac.length
 rngA:∀ x∈s.ac,x≤s.D.length
 rngV:∀ x∈s.wc,x≤s.D.length
 rngM:∀ x∈s.mc,x≤s.D.length
 rngW:∀ z∈s.ws,0≤z∧z<4294967296
 low:base≤r∧base≤bk∧r≠bk
def RefSt (w:World) (base r:Nat) (s:PSta):Prop:=∃ bk so cap dv,RefAt w base r bk so cap dv s
namespace RefAt
variable {w w':World} {base r bk:Nat} {so:Option Addr} {cap:Nat} {dv:Value} {s:PSta}
theorem cell0 (h:RefAt w base r bk so cap dv s):w.cell? ⟨r,0,none⟩=some (.slice so s.ws.length cap):=by rw [blk_cell h.obj];rfl
end RefAt
theorem info_cnt:(prog.info? 121).map (λi=>(i.zero,i.size,i.bytes))=some (some (.agg #[.int .i64 0,.int .i64 0,.int .i64 0]),3,24):=by kernel_rfl
def RNewPost (w0:World) (base:Nat) (s:PSta) (e:Ending) (w':World):Prop:=
 ∃ r,e= .returned (.pointer (some ⟨r,0,none⟩))∧RefSt w' base r s∧Wr Nil w0 w'
theorem made_cnt (n:Nat) (j:Nat) (hj:j<n*3):(madeCells #[Value.int .i64 0,.int .i64 0,.int .i64 0] (n*3))[j]? =some (.int .i64 0):=by
 have h:j%3=0∨j%3=1∨j%3=2:=by omega
 rcases h with h|h|h<;>simp [madeCells,hj,h]
theorem newS_cnt (n:Nat) (vs:List Int) (j:Nat):cntV (newS n vs) j= .int .i64 0:=by
 have h:∀ k,(List.replicate n 0).getD k 0=0:=by
  intro k
  rw [List.getD_eq_getElem?_getD,List.getElem?_replicate]
  split<;>rfl
 unfold cntV cntN newS
 simp only [h]
 split<;>(try split)<;>rfl
theorem rnew_made {w w':World} {ao:Option Addr} {m cap n:Nat} {vs:List Int} (hl:vs.length=m) (wf:∀ z∈vs,0≤z∧z<4294967296)
  (hown:w'.ownsRow ((w.alloc (.cells (madeCells #[.int .i64 0,.int .i64 0,.int .i64 0] (n*3)) 121)).alloc (.cells #[.slice none 0 0,.int .i64 n,.slice none 0 0,.slice (some ⟨w.heap.size,0,none⟩) n n] 57)).heap.size 23 1 (.slice ao m cap) m (vs.map (Value.int .u32)))
  (hgrow:((w.alloc (.cells (madeCells #[.int .i64 0,.int .i64 0,.int .i64 0] (n*3)) 121)).alloc (.cells #[.slice none 0 0,.int .i64 n,.slice none 0 0,.slice (some ⟨w.heap.size,0,none⟩) n n] 57)).grownBy w' none):
  w'.cell? ⟨w.heap.size+1,0,none⟩=some (.slice none 0 0)∧w'.frozen? ⟨w.heap.size+1,0,none⟩=false∧
  RefAt (w'.setCell ⟨w.heap.size+1,0,none⟩ (.slice ao m cap)) w.heap.size (w.heap.size+1) w.heap.size ao cap (.slice none 0 0) (newS n vs)∧Wr Nil w (w'.setCell ⟨w.heap.size+1,0,none⟩ (.slice ao m cap)):=by
 have n1:(w.alloc (.cells (madeCells #[.int .i64 0,.int .i64 0,.int .i64 0] (n*3)) 121)).heap.size=w.heap.size+1:=nblk_alloc _ _
 have n2:((w.alloc (.cells (madeCells #[.int .i64 0,.int .i64 0,.int .i64 0] (n*3)) 121)).alloc (.cells #[.slice none 0 0,.int .i64 n,.slice none 0 0,.slice (some ⟨w.heap.size,0,none⟩) n n] 57)).heap.size=w.heap.size+2:=by rw [nblk_alloc,n1]
 have b1:w'.heap[w.heap.size+1]? =some (.cells #[.slice none 0 0,.int .i64 n,.slice none 0 0,.slice (some ⟨w.heap.size,0,none⟩) n n] 57 (0,0)):=by
  rw [hgrow.block _ (by rw [n2];omega) (by simp),←n1,blk_alloc_new]
 have b0:w'.heap[w.heap.size]? =some (.cells (madeCells #[.int .i64 0,.int .i64 0,.int .i64 0] (n*3)) 121 (0,0)):=by
  rw [hgrow.block _ (by rw [n2];omega) (by simp),blk_alloc_lt _ _ _ (by rw [n1];omega),blk_alloc_new]
 rw [n2] at hown
 have hW:Wr Nil w (w'.setCell ⟨w.heap.size+1,0,none⟩ (.slice ao m cap)):=((((Wr.refl Nil w).alloc _).alloc _).grown hgrow (λk hk=>nomatch hk)).setCell _ _ (λh=>by simp only at h;omega)
 obtain ⟨sa,cp,hv,_,_,hrow,hblk⟩:=own_rowAt hown
 simp only [Value.slice.injEq] at hv
 obtain ⟨rfl,_,rfl⟩:=hv
 have hk:∀ b,b≠w.heap.size+1→(w'.setCell ⟨w.heap.size+1,0,none⟩ (.slice ao m cap)).heap[b]? =w'.heap[b]? :=λb hb=>blk_setCell_other _ _ _ _ hb
 refine ⟨by rw [blk_cell b1];rfl,blk_frozen b1 0,⟨?_,?_,?_,World.ownsRow_nil _ _ _ _,by simp [Value.ownBlock],?_,by simp [newS],by simp [newS],?_,?_,?_,wf,by omega⟩,hW⟩
 ·rw [blk_setCell b1]
  simp [newS,hl]
 ·have:RowAt .u32 (w'.setCell ⟨w.heap.size+1,0,none⟩ (.slice ao m cap)) ao m vs:=hrow.wrote (S:=One (w.heap.size+1)) ((Wr.refl _ w').setCell _ _ λ_=>rfl) (λa ha e=>by have:=(hblk a ha).1;have e':a.block=w.heap.size+1:=e;omega)
  show RowAt _ _ _ vs.length vs
  rw [hl]
  exact this
 ·intro a ha
  have:=(hblk a ha).1
  exact ⟨by omega,by omega,by omega,by simp [Value.ownBlock]⟩
 ·refine ⟨_,(hk _ (by omega)).trans b0,by simp [newS,size_madeCells],λi hi=> ?_⟩
  rw [newS_cnt]
  exact made_cnt n i (by simpa [newS] using hi)
 all_goals
  intro x hx
  simp [newS] at hx
  omega
set_option maxRecDepth 100000 in
theorem rnew_any {w:World} {sb:Option Addr} {m c n:Nat} {vs:List Int} (hv:RowAt .u32 w sb m vs) (wf:∀ z∈vs,0≤z∧z<4294967296) (hn:n≤64) (hm:m≤4096):
  Calls prog 46 #[.int .i64 n,.slice sb m c] w (RNewPost w w.heap.size (newS n vs)):=by
 obtain ⟨i0,hi,hz0,hz1,hz2⟩:=info_parts info_u32
 obtain ⟨i1,gi,gz0,gz1,gz2⟩:=info_parts info_cnt
 have hmk:∀ w:World,(Instr.makeSlice 55 (.int .i64 (n:Int)) (.int .i64 (n:Int))).run prog w= .ok (.slice (some ⟨w.heap.size,0,none⟩) n n) (w.alloc (.cells (madeCells #[.int .i64 0,.int .i64 0,.int .i64 0] (n*3)) 121)):=by
  intro w
  have h:=Go.run_make (P:=prog) w 55 121 i1 _ underlying55 gi gz0 .i64 .i64 n n (by omega) (by omega) (by rw [gz2];omega) (by omega)
  rw [gz1] at h
  simp only [Int.toNat_natCast] at h
  exact h
 have hlen:=hv.len
 have hnews:=(hv.after (((Wr.refl Nil w).alloc (.cells (madeCells #[.int .i64 0,.int .i64 0,.int .i64 0] (n*3)) 121)).alloc (.cells #[.slice none 0 0,.int .i64 n,.slice none 0 0,.slice (some ⟨w.heap.size,0,none⟩) n n] 57))).news
 have hempty:=hv.empty
 have H:=Lib.hid wf
 clear hv wf
 go_enter func46,ntmps46
 go_wp2_with (at_builtin;refine wpList_append_fresh rfl _ _ 53 rfl 23 i0 (.int .u32 0) 4 underlying53 hi hz0 hz1 hz2 rfl rfl sb m c (vs.map (Value.int .u32)) rfl hempty (by simpa using hlen) hnews (by intro u hu;simp only [List.mem_map] at hu;obtain ⟨z,_,rfl⟩:=hu;rfl) (by unfold maxLen;omega) (by omega) ?_;intro ao cap w' hown hgrow;obtain ⟨e0,e1,hR,hW⟩:=rnew_made hlen H.out hown hgrow;have HR:=Lib.hid (And.intro hR hW);clear hown hgrow hR hW hnews hempty)
 go_ret
 unfold RNewPost
 exact ⟨_,rfl,⟨_,_,_,_,HR.out.1⟩,HR.out.2⟩
end Go.Proofs.YtcikfcplagelaaaGreat

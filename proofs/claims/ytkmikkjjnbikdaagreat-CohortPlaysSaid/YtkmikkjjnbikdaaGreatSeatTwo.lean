
import Derived.Test.YtkmikkjjnbikdaaGreatSeatNew
import Derived.Maps.AppendAt
import Derived.BigQuiet
import Derived.Deep.Cut
namespace Go.Proofs.YtkmikkjjnbikdaaGreat
set_option maxHeartbeats 8000000
open _root_.Go.Proofs.Tryz Go.Deep
open Go.RowKit
set_option linter.unusedVariables false
set_option maxRecDepth 100000
theorem sinfo_int:(prog.info? 3).map (λi=>(i.zero,i.size,i.bytes))=some (some (.int .i64 0),1,8):=by kernel_rfl
def SF (r:Nat) (hv dv:Value) (k:Nat):Prop:=k=r∨hv.ownBlock=some k∨dv.ownBlock=some k
structure SrAt (w:World) (r:Nat) (hv dv:Value) (n m:Nat) (xs ys:List Int) (timed probed:Bool):Prop where
 obj:w.heap[r]? =some (.cells #[hv,dv,.bool timed,.bool probed] 100 (0,0))
 st:w.ownsRow 0 3 1 hv n (xs.map (Value.int .i64))
 dl:w.ownsRow 0 3 1 dv m (ys.map (Value.int .i64))
 apart:∀ k,hv.ownBlock=some k→dv.ownBlock=some k→False
 low:hv.ownBlock≠some r∧dv.ownBlock≠some r
theorem s_form {w:World} {base:Nat} {e:TypeId} {size:Nat} {v:Value} {n:Nat} {xs:List Value} (h:w.ownsRow base e size v n xs):∃ so cap,v= .slice so n cap:=by
 obtain ⟨so,cap,e,_⟩:=own_slice h
 exact ⟨so,cap,e⟩
theorem s_one (A:World) (x:Value) (t:TypeId) (b:Nat) (hb:b=A.heap.size):∀ j u,[x][j]? =some u→(A.alloc (.cells #[x] t)).cell? ((⟨b,0,none⟩:Addr).add j)=some u:=by
 subst hb
 intro j u hu
 have hj:j<1:=(List.getElem?_eq_some_iff.1 hu).1
 obtain rfl:j=0:=by omega
 rw [Go.Addr.add_lit,Nat.zero_add,blk_cell (blk_alloc_new A _)]
 exact hu
namespace SrAt
variable {w w' w1:World} {r:Nat} {hv dv hv' dv':Value} {n m:Nat} {xs ys:List Int} {timed probed:Bool}
theorem lt (h:SrAt w r hv dv n m xs ys timed probed) {k:Nat} (hk:SF r hv dv k):k<w.heap.size:=by
 rcases hk with rfl|x|x
 ·exact blk_lt h.obj
 ·exact (h.st.lt k x).2
 ·exact (h.dl.lt k x).2
theorem wrote {S:Nat→Prop} (h:SrAt w r hv dv n m xs ys timed probed) (k:Wr S w w') (hS:∀ b,SF r hv dv b→¬ S b):SrAt w' r hv dv n m xs ys timed probed:=
 ⟨(k.block r (blk_lt h.obj) (hS _ (.inl rfl))).trans h.obj,ownsRow_keep h.st λj hj=>k.block j (h.lt (.inr (.inl hj))) (hS j (.inr (.inl hj))),ownsRow_keep h.dl λj hj=>k.block j (h.lt (.inr (.inr hj))) (hS j (.inr (.inr hj))),h.apart,h.low⟩
theorem after (h:SrAt w r hv dv n m xs ys timed probed) (k:Wr Nil w w'):SrAt w' r hv dv n m xs ys timed probed:=h.wrote k λ_ _=>id
theorem cell0 (h:SrAt w r hv dv n m xs ys timed probed):w.cell? ⟨r,0,none⟩=some hv:=by rw [blk_cell h.obj];rfl
theorem cell1 (h:SrAt w r hv dv n m xs ys timed probed):w.cell? ⟨r,1,none⟩=some dv:=by rw [blk_cell h.obj];rfl
theorem cell2 (h:SrAt w r hv dv n m xs ys timed probed):w.cell? ⟨r,2,none⟩=some (.bool timed):=by rw [blk_cell h.obj];rfl
theorem cell3 (h:SrAt w r hv dv n m xs ys timed probed):w.cell? ⟨r,3,none⟩=some (.bool probed):=by rw [blk_cell h.obj];rfl
theorem frozen (h:SrAt w r hv dv n m xs ys timed probed) (k:Nat):w.frozen? ⟨r,k,none⟩=false:=blk_frozen h.obj k
theorem grow0 (h:SrAt w r hv dv n m xs ys timed probed) {o:Obj} {x:Int} (hown:w1.ownsRow 0 3 1 hv' (n+1) (xs.map (Value.int .i64)++[.int .i64 x])) (hg:(w.alloc o).grownBy w1 hv.ownBlock) (hat:hv'.ownBlock=hv.ownBlock∨hv'.ownBlock=some (w.alloc o).heap.size):
  w1.heap[r]? =w.heap[r]?∧SrAt (w1.setCell ⟨r,0,none⟩ hv') r hv' dv (n+1) m (xs++[x]) ys timed probed∧Wr (SF r hv dv) w (w1.setCell ⟨r,0,none⟩ hv')∧∀ k,SF r hv' dv k→SF r hv dv k∨w.heap.size≤k:=by
 have hW1:Wr (λk=>hv.ownBlock=some k) w w1:=((Wr.refl _ w).alloc o).grown hg λk hk _=>hk
 have hr:=hW1.block r (blk_lt h.obj) h.low.1
 have hsz:w.heap.size<(w.alloc o).heap.size:=by rw [nblk_alloc];omega
 have hB:Wr (One r) w1 (w1.setCell ⟨r,0,none⟩ hv'):=(Wr.refl _ w1).setCell _ _ λ_=>rfl
 have hne:∀ k,hv'.ownBlock=some k→k≠r∧dv.ownBlock≠some k:=λk hk=>by
  rcases hat with e|e
  ·rw [e] at hk
   exact ⟨λe2=>h.low.1 (by rw [←e2];exact hk),λe2=>h.apart k hk e2⟩
  ·rw [e] at hk
   have e':(w.alloc o).heap.size=k:=by simpa using hk
   exact ⟨λe2=>by have:=blk_lt h.obj;omega,λe2=>by have:=(h.dl.lt k e2).2;omega⟩
 refine ⟨hr,⟨?_,?_,?_,λk h1 h2=>(hne k h1).2 h2,λe=>(hne _ e).1 rfl,h.low.2⟩,(hW1.mono λ_ _ e=> .inr (.inl e)).trans hB λb _ e=>by cases e;exact .inl rfl,λk hk=> ?_⟩
 ·rw [blk_setCell (hr.trans h.obj)];rfl
 ·rw [List.map_append]
  exact ownsRow_keep hown λb hb=>hB.block b (hown.lt b hb).2 (hne b hb).1
 ·refine ownsRow_keep (ownsRow_keep h.dl λb hb=>hW1.block b (h.dl.lt b hb).2 λe=>h.apart b e hb) λb hb=>hB.block b (Nat.lt_of_lt_of_le (h.dl.lt b hb).2 hW1.size) λe=>h.low.2 (by cases e;exact hb)
 ·rcases hk with x|x|x
  ·exact .inl (.inl x)
  ·rcases hat with e|e
   ·exact .inl (.inr (.inl (e▸x)))
   ·rw [e] at x
    have e':(w.alloc o).heap.size=k:=by simpa using x
    exact .inr (by omega)
  ·exact .inl (.inr (.inr x))
theorem grow1 (h:SrAt w r hv dv n m xs ys timed probed) {o:Obj} {x:Int} (hown:w1.ownsRow 0 3 1 dv' (m+1) (ys.map (Value.int .i64)++[.int .i64 x])) (hg:(w.alloc o).grownBy w1 dv.ownBlock) (hat:dv'.ownBlock=dv.ownBlock∨dv'.ownBlock=some (w.alloc o).heap.size):
  w1.heap[r]? =w.heap[r]?∧SrAt (w1.setCell ⟨r,1,none⟩ dv') r hv dv' n (m+1) xs (ys++[x]) timed probed∧Wr (SF r hv dv) w (w1.setCell ⟨r,1,none⟩ dv')∧∀ k,SF r hv dv' k→SF r hv dv k∨w.heap.size≤k:=by
 have hW1:Wr (λk=>dv.ownBlock=some k) w w1:=((Wr.refl _ w).alloc o).grown hg λk hk _=>hk
 have hr:=hW1.block r (blk_lt h.obj) h.low.2
 have hsz:w.heap.size<(w.alloc o).heap.size:=by rw [nblk_alloc];omega
 have hB:Wr (One r) w1 (w1.setCell ⟨r,1,none⟩ dv'):=(Wr.refl _ w1).setCell _ _ λ_=>rfl
 have hne:∀ k,dv'.ownBlock=some k→k≠r∧hv.ownBlock≠some k:=λk hk=>by
  rcases hat with e|e
  ·rw [e] at hk
   exact ⟨λe2=>h.low.2 (by rw [←e2];exact hk),λe2=>h.apart k e2 hk⟩
  ·rw [e] at hk
   have e':(w.alloc o).heap.size=k:=by simpa using hk
   exact ⟨λe2=>by have:=blk_lt h.obj;omega,λe2=>by have:=(h.st.lt k e2).2;omega⟩
 refine ⟨hr,⟨?_,?_,?_,λk h1 h2=>(hne k h2).2 h1,h.low.1,λe=>(hne _ e).1 rfl⟩,(hW1.mono λ_ _ e=> .inr (.inr e)).trans hB λb _ e=>by cases e;exact .inl rfl,λk hk=> ?_⟩
 ·rw [blk_setCell (hr.trans h.obj)];rfl
 ·refine ownsRow_keep (ownsRow_keep h.st λb hb=>hW1.block b (h.st.lt b hb).2 λe=>h.apart b hb e) λb hb=>hB.block b (Nat.lt_of_lt_of_le (h.st.lt b hb).2 hW1.size) λe=>h.low.1 (by cases e;exact hb)
 ·rw [List.map_append]
  exact ownsRow_keep hown λb hb=>hB.block b (hown.lt b hb).2 (hne b hb).1
 ·rcases hk with x|x|x
  ·exact .inl (.inl x)
  ·exact .inl (.inr (.inl x))
  ·rcases hat with e|e
   ·exact .inl (.inr (.inr (e▸x)))
   ·rw [e] at x
    have e':(w.alloc o).heap.size=k:=by simpa using x
    exact .inr (by omega)
end SrAt
def SS.dlS (s:SS) (t:Nat):Int:=if s.st t=1 then s.dl t else-1
def stL (s:SS):List Int:=(List.range s.n).map s.st
def dlL (s:SS):List Int:=(List.range s.n).map s.dlS
def RsAt (w:World) (r:Nat) (hv dv:Value) (s:SS):Prop:=SrAt w r hv dv s.n s.n (stL s) (dlL s) s.timed s.probed
structure RsMk (w:World) (r n m:Nat) (timed probed:Bool) (hv dv:Value) (wr:World):Prop where
 at_:SrAt wr r hv dv n m (List.replicate n 0) (List.replicate m (-1)) timed probed
 new:∀ k,SF r hv dv k→w.heap.size≤k
 wrote:Wr Nil w wr
def RsSt (w:World) (r n m:Nat) (timed probed:Bool) (wr:World):Prop:=∃ hv dv,RsMk w r n m timed probed hv dv wr
def RsNewPost (w:World) (n:Nat) (timed probed:Bool) (e:Ending) (w':World):Prop:=∃ r hv dv,e= .returned (.pointer (some ⟨r,0,none⟩))∧RsAt w' r hv dv (newSeat n timed probed)∧(∀ k,SF r hv dv k→w.heap.size≤k)∧Wr Nil w w'
theorem rep_snoc (k:Nat) (x:Int):List.replicate k x++[x]=List.replicate (k+1) x:=by rw [←List.replicate_succ']
theorem RsMk.grow0 {w wr w1:World} {r n m:Nat} {timed probed:Bool} {hv dv hv':Value} (h:RsMk w r n m timed probed hv dv wr) {o:Obj} (hown:w1.ownsRow 0 3 1 hv' (n+1) ((List.replicate n (0:Int)).map (Value.int .i64)++[.int .i64 0])) (hg:(wr.alloc o).grownBy w1 hv.ownBlock) (hat:hv'.ownBlock=hv.ownBlock∨hv'.ownBlock=some (wr.alloc o).heap.size):
  w1.heap[r]? =wr.heap[r]?∧RsMk w r (n+1) m timed probed hv' dv (w1.setCell ⟨r,0,none⟩ hv'):=by
 obtain ⟨h1,h2,h3,h4⟩:=h.at_.grow0 hown hg hat
 rw [rep_snoc] at h2
 refine ⟨h1,h2,λk hk=> ?_,h.wrote.trans h3 λb hb x=>absurd (h.new b x) (by omega)⟩
 rcases h4 k hk with x|x
 ·exact h.new k x
 ·exact Nat.le_trans h.wrote.size x
theorem RsMk.grow1 {w wr w1:World} {r n m:Nat} {timed probed:Bool} {hv dv dv':Value} (h:RsMk w r n m timed probed hv dv wr) {o:Obj} (hown:w1.ownsRow 0 3 1 dv' (m+1) ((List.replicate m (-1:Int)).map (Value.int .i64)++[.int .i64 (-1)])) (hg:(wr.alloc o).grownBy w1 dv.ownBlock) (hat:dv'.ownBlock=dv.ownBlock∨dv'.ownBlock=some (wr.alloc o).heap.size):
  w1.heap[r]? =wr.heap[r]?∧RsMk w r n (m+1) timed probed hv dv' (w1.setCell ⟨r,1,none⟩ dv'):=by
 obtain ⟨h1,h2,h3,h4⟩:=h.at_.grow1 hown hg hat
 rw [rep_snoc] at h2
 refine ⟨h1,h2,λk hk=> ?_,h.wrote.trans h3 λb hb x=>absurd (h.new b x) (by omega)⟩
 rcases h4 k hk with x|x
 ·exact h.new k x
 ·exact Nat.le_trans h.wrote.size x
theorem rs_start (w:World) (timed probed:Bool):RsSt w w.heap.size 0 0 timed probed (w.alloc (.cells #[.slice none 0 0,.slice none 0 0,.bool timed,.bool probed] 100)):=by
 refine ⟨.slice none 0 0,.slice none 0 0,⟨blk_alloc_new _ _,World.ownsRow_nil _ _ _ _,World.ownsRow_nil _ _ _ _,λk h=>by simp [Value.ownBlock] at h,by simp [Value.ownBlock],by simp [Value.ownBlock]⟩,λk hk=> ?_,(Wr.refl _ _).alloc _⟩
 rcases hk with rfl|x|x
 ·exact Nat.le_refl _
 ·simp [Value.ownBlock] at x
 ·simp [Value.ownBlock] at x
theorem rs_new (n:Nat) (timed probed:Bool) (hn:n≤64) (w:World):
  Calls prog 32 #[.int .i64 (n:Int),.bool timed,.bool probed] w (RsNewPost w n timed probed):=by
 obtain ⟨i0,hi,hz0,hz1,hz2⟩:=info_parts sinfo_int
 have h0:=rs_start w timed probed
 go_enter func32,ntmps32
 go_wp2
 generalize w.alloc (.cells #[.slice none 0 0,.slice none 0 0,.bool timed,.bool probed] 100)=w0 at h0 ⊢
 obtain ⟨r,hr⟩:∃ r,r=w.heap.size:=⟨_,rfl⟩
 rw [←hr] at h0 ⊢
 have HR:=Lib.hid hr
 clear hr
 go_loopw [8] (λi wr=>∃ k:Nat,k≤n∧i= .int .i64 k∧RsSt w r k k timed probed wr) (λi _=>n-(intOf i).toNat)
 case atStart=>exact ⟨0,Nat.zero_le _,rfl,h0⟩
 case round=>
  clear h0
  obtain ⟨k,hk,rfl,hv,dv,hR⟩:=hrel
  by_cases hlt:k<n
  ·have c0:=hR.at_.cell0
   have f0:=hR.at_.frozen 0
   have own1:∀ o,(wr.alloc o).ownsRow 0 3 1 hv k ((List.replicate k (0:Int)).map (Value.int .i64)):=λo=>hR.at_.st.alloc _
   have kH:=λ(o:Obj) (hv':Value) (w1:World) g1 g2 g3=>hR.grow0 (o:=o) (hv':=hv') (w1:=w1) g1 g2 g3
   have hml:k+1≤maxLen:=by unfold maxLen;omega
   have hobj:=hR.at_.obj
   have HO:=Lib.hid hobj
   clear hR hobj
   go_wp2_with (first
    |(at_builtin;refine wpList_append_own_at _ rfl (.tmp 22) (.tmp 23) 22 rfl 0 3 i0 (.int .i64 0) 1 8 underlying22 hi hz0 hz1 hz2 rfl (by decide) hv k _ rfl (own1 _) _ 1 1 [.int .i64 0] rfl rfl (s_one _ _ _ _ rfl) (by simp [Value.oneCell']) hml (by omega) (Nat.zero_le _) ?_;intro hv' w1 g1 g2 _ g3;obtain ⟨so,cp,rfl⟩:=s_form g1;obtain ⟨r1,hR2⟩:=kH _ _ _ g1 g2 g3;rw [HO.out] at r1;clear kH own1 g1 g2 g3;have e0:=(blk_cell r1 0).trans rfl;have e1:=(blk_cell r1 1).trans rfl;have f1:=blk_frozen r1 0;have f2:=blk_frozen r1 1;have own2:∀ o,((w1.setCell ⟨r,0,none⟩ (.slice so (k+1) cp)).alloc o).ownsRow 0 3 1 dv k ((List.replicate k (-1:Int)).map (Value.int .i64)):=λo=>hR2.at_.dl.alloc _;have kV:=λ(o:Obj) (dv':Value) (w3:World) g1 g2 g3=>hR2.grow1 (o:=o) (dv':=dv') (w1:=w3) g1 g2 g3;have hobj2:=hR2.at_.obj;have HO2:=Lib.hid hobj2;clear hR2 hobj2)
    |(at_builtin;refine wpList_append_own_at _ rfl (.tmp 31) (.tmp 32) 22 rfl 0 3 i0 (.int .i64 0) 1 8 underlying22 hi hz0 hz1 hz2 rfl (by decide) dv k _ rfl (own2 _) _ 1 1 [.int .i64 (-1)] rfl rfl (s_one _ _ _ _ (nblk_setCell _ _ _).symm) (by simp [Value.oneCell']) hml (by omega) (Nat.zero_le _) ?_;intro dv' w3 g1 g2 _ g3;obtain ⟨sv,cv,rfl⟩:=s_form g1;obtain ⟨r3,hR3⟩:=kV _ _ _ g1 g2 g3;rw [HO2.out] at r3;clear kV own2 g1 g2 g3;have e4:=(blk_cell r3 1).trans rfl;have f4:=blk_frozen r3 1;have T:=Lib.hid hR3;clear hR3))
   go_roundw
   case rel=>exact ⟨k+1,by omega,by go_num,_,_,T.out⟩
   case measure=>simp [intOf];omega
  ·obtain rfl:k=n:=by omega
   go_wp2
   go_ret
   refine ⟨r,hv,dv,rfl,?_,hR.new,hR.wrote⟩
   have e1:stL (newSeat k timed probed)=List.replicate k 0:=by
    rw [List.eq_replicate_iff]
    exact ⟨by simp [stL,newSeat],λb hb=>by obtain ⟨i,_,rfl⟩:=List.mem_map.1 hb;rfl⟩
   have e2:dlL (newSeat k timed probed)=List.replicate k (-1):=by
    rw [List.eq_replicate_iff]
    exact ⟨by simp [dlL,newSeat],λb hb=>by obtain ⟨i,_,rfl⟩:=List.mem_map.1 hb;exact if_neg (by show ¬ (0:Int)=1;decide)⟩
   show SrAt wr r hv dv k k (stL (newSeat k timed probed)) (dlL (newSeat k timed probed)) timed probed
   rw [e1,e2]
   exact hR.at_
open _root_.Go.Proofs.Tryz
theorem stL_set (s:SS) (t:Nat) (x d:Int):stL (s.set t x d)=(stL s).set t x:=by
 apply List.ext_getElem?
 intro i
 rw [List.getElem?_set]
 unfold stL
 rw [List.length_map,List.length_range]
 by_cases hi:i<s.n
 ·rw [List.getElem?_map,List.getElem?_range (show i<(s.set t x d).n from hi),List.getElem?_map,List.getElem?_range hi]
  by_cases e:i=t
  ·subst e;simp [SS.set,upd_same,hi]
  ·rw [if_neg (λh=>e h.symm)];simp [SS.set,upd_other _ _ e]
 ·rw [List.getElem?_eq_none (by simp [SS.set];omega),List.getElem?_eq_none (by simp;omega)]
  by_cases e:t=i
  ·subst e;simp [hi]
  ·rw [if_neg e]
theorem dlL_at (s:SS) {i:Nat} (hi:i<s.n):(dlL s)[i]? =some (s.dlS i):=by unfold dlL;rw [List.getElem?_map,List.getElem?_range hi];rfl
theorem stL_at (s:SS) {i:Nat} (hi:i<s.n):(stL s)[i]? =some (s.st i):=by unfold stL;rw [List.getElem?_map,List.getElem?_range hi];rfl
theorem dlL_len (s:SS):(dlL s).length=s.n:=by simp [dlL]
theorem dlL_set (s:SS) (t:Nat) (x d y:Int) (h:(s.set t x d).dlS t=y):dlL (s.set t x d)=(dlL s).set t y:=by
 apply List.ext_getElem?
 intro i
 rw [List.getElem?_set,dlL_len]
 by_cases hi:i<s.n
 ·rw [dlL_at _ (show i<(s.set t x d).n from hi)]
  by_cases e:t=i
  ·subst e;rw [if_pos rfl,if_pos hi,h]
  ·rw [if_neg e,dlL_at _ hi]
   simp [SS.dlS,SS.set,upd_other _ _ (λh=>e h.symm:i≠t)]
 ·rw [List.getElem?_eq_none (by rw [dlL_len];show s.n≤i;omega)]
  by_cases e:t=i
  ·subst e;rw [if_pos rfl,if_neg hi]
  ·rw [if_neg e,List.getElem?_eq_none (by rw [dlL_len];omega)]
theorem set_same {l:List Int} {t:Nat} {x:Int} (h:l[t]? =some x):l.set t x=l:=by
 apply List.ext_getElem?
 intro i
 rw [List.getElem?_set]
 by_cases e:t=i
 ·subst e
  have:=(List.getElem?_eq_some_iff.1 h).1
  rw [if_pos rfl,if_pos this,h]
 ·rw [if_neg e]
namespace SrAt
variable {w:World} {r:Nat} {hv dv:Value} {n m:Nat} {xs ys:List Int} {timed probed:Bool}
theorem stV (h:SrAt w r hv dv n m xs ys timed probed) (hn:0<n):∃ g cap,hv= .slice (some ⟨g,0,none⟩) n cap∧∀ (k:Nat) (x:Int),xs[k]? =some x→w.cell? ⟨g,k,none⟩=some (.int .i64 x)∧w.frozen? ⟨g,k,none⟩=false:=by
 obtain ⟨so,cap,e,_⟩:=own_slice h.st
 have hs:=h.st
 rw [e] at hs
 obtain ⟨g,hg,_⟩:=ownsRow_cell hs hn
 refine ⟨g,cap,by rw [e,hg],λk x hx=> ?_⟩
 have hl:xs.length=n:=by have:=h.st.1;simpa using this
 have hk:k<n:=by rw [←hl];exact (List.getElem?_eq_some_iff.1 hx).1
 obtain ⟨g',hg',hc,hf⟩:=ownsRow_cell hs hk
 rw [hg] at hg'
 obtain rfl:g=g':=by simpa using hg'
 exact ⟨by rw [hc,List.getElem?_map,hx];rfl,hf⟩
theorem dlV (h:SrAt w r hv dv n m xs ys timed probed) (hn:0<m):∃ g cap,dv= .slice (some ⟨g,0,none⟩) m cap∧∀ (k:Nat) (x:Int),ys[k]? =some x→w.cell? ⟨g,k,none⟩=some (.int .i64 x)∧w.frozen? ⟨g,k,none⟩=false:=by
 obtain ⟨so,cap,e,_⟩:=own_slice h.dl
 have hs:=h.dl
 rw [e] at hs
 obtain ⟨g,hg,_⟩:=ownsRow_cell hs hn
 refine ⟨g,cap,by rw [e,hg],λk x hx=> ?_⟩
 have hl:ys.length=m:=by have:=h.dl.1;simpa using this
 have hk:k<m:=by rw [←hl];exact (List.getElem?_eq_some_iff.1 hx).1
 obtain ⟨g',hg',hc,hf⟩:=ownsRow_cell hs hk
 rw [hg] at hg'
 obtain rfl:g=g':=by simpa using hg'
 exact ⟨by rw [hc,List.getElem?_map,hx];rfl,hf⟩
theorem setS {g cap:Nat} (h:SrAt w r (.slice (some ⟨g,0,none⟩) n cap) dv n m xs ys timed probed) (k:Nat) (hk:k<n) (x:Int):
  SrAt (w.setCell ⟨g,k,none⟩ (.int .i64 x)) r (.slice (some ⟨g,0,none⟩) n cap) dv n m (xs.set k x) ys timed probed∧Wr (SF r (.slice (some ⟨g,0,none⟩) n cap) dv) w (w.setCell ⟨g,k,none⟩ (.int .i64 x)):=by
 have hW:Wr (One g) w (w.setCell ⟨g,k,none⟩ (.int .i64 x)):=(Wr.refl _ w).setCell _ _ λ_=>rfl
 have hg:(Value.slice (some ⟨g,0,none⟩) n cap).ownBlock=some g:=rfl
 refine ⟨⟨(hW.block r (blk_lt h.obj) λe=>h.low.1 (by rw [hg];exact congrArg some (Eq.symm e))).trans h.obj,?_,ownsRow_keep h.dl λb hb=>hW.block b (h.dl.lt b hb).2 λe=>h.apart b (by cases e;rfl) hb,h.apart,h.low⟩,hW.mono λb _ e=> .inr (.inl (by cases e;rfl))⟩
 refine ownsRow_set h.st k _ (by omega) ?_
 rw [←List.map_set]
theorem setD {g cap:Nat} (h:SrAt w r hv (.slice (some ⟨g,0,none⟩) m cap) n m xs ys timed probed) (k:Nat) (hk:k<m) (x:Int):
  SrAt (w.setCell ⟨g,k,none⟩ (.int .i64 x)) r hv (.slice (some ⟨g,0,none⟩) m cap) n m xs (ys.set k x) timed probed∧Wr (SF r hv (.slice (some ⟨g,0,none⟩) m cap)) w (w.setCell ⟨g,k,none⟩ (.int .i64 x)):=by
 have hW:Wr (One g) w (w.setCell ⟨g,k,none⟩ (.int .i64 x)):=(Wr.refl _ w).setCell _ _ λ_=>rfl
 have hg:(Value.slice (some ⟨g,0,none⟩) m cap).ownBlock=some g:=rfl
 refine ⟨⟨(hW.block r (blk_lt h.obj) λe=>h.low.2 (by rw [hg];exact congrArg some (Eq.symm e))).trans h.obj,ownsRow_keep h.st λb hb=>hW.block b (h.st.lt b hb).2 λe=>h.apart b hb (by cases e;rfl),?_,h.apart,h.low⟩,hW.mono λb _ e=> .inr (.inr (by cases e;rfl))⟩
 refine ownsRow_set h.dl k _ (by omega) ?_
 rw [←List.map_set]
end SrAt
def RsPost (w:World) (r:Nat) (hv dv:Value) (s:SS) (x:Int) (e:Ending) (w':World):Prop:=e= .returned (.int .i64 x)∧RsAt w' r hv dv s∧Wr (SF r hv dv) w w'
theorem RsAt.after {w w':World} {r:Nat} {hv dv:Value} {s:SS} (h:RsAt w r hv dv s) (k:Wr Nil w w'):RsAt w' r hv dv s:=SrAt.after h k
theorem RsAt.drew {w:World} {r:Nat} {hv dv:Value} {s:SS} (h:RsAt w r hv dv s):RsAt w.drew r hv dv s:=h.after ((Wr.refl _ w).drew)
theorem RsPost.drew {w w':World} {r:Nat} {hv dv:Value} {s:SS} {x:Int} {e:Ending} (h:RsPost w r hv dv s x e w'):RsPost w r hv dv s x e w'.drew:=⟨h.1,h.2.1.drew,h.2.2.drew⟩
theorem rs_two {w:World} {r n g g2 cap cap2:Nat} {xs ys:List Int} {timed probed:Bool} (h:SrAt w r (.slice (some ⟨g,0,none⟩) n cap) (.slice (some ⟨g2,0,none⟩) n cap2) n n xs ys timed probed) (k:Nat) (hk:k<n) (x y:Int):
  (SrAt ((w.setCell ⟨g,k,none⟩ (.int .i64 x)).setCell ⟨g2,k,none⟩ (.int .i64 y)) r (.slice (some ⟨g,0,none⟩) n cap) (.slice (some ⟨g2,0,none⟩) n cap2) n n (xs.set k x) (ys.set k y) timed probed∧Wr (SF r (.slice (some ⟨g,0,none⟩) n cap) (.slice (some ⟨g2,0,none⟩) n cap2)) w ((w.setCell ⟨g,k,none⟩ (.int .i64 x)).setCell ⟨g2,k,none⟩ (.int .i64 y)))∧
  (SrAt ((w.setCell ⟨g2,k,none⟩ (.int .i64 y)).setCell ⟨g,k,none⟩ (.int .i64 x)) r (.slice (some ⟨g,0,none⟩) n cap) (.slice (some ⟨g2,0,none⟩) n cap2) n n (xs.set k x) (ys.set k y) timed probed∧Wr (SF r (.slice (some ⟨g,0,none⟩) n cap) (.slice (some ⟨g2,0,none⟩) n cap2)) w ((w.setCell ⟨g2,k,none⟩ (.int .i64 y)).setCell ⟨g,k,none⟩ (.int .i64 x))):=by
 obtain ⟨a1,a2⟩:=h.setS k hk x
 obtain ⟨b1,b2⟩:=a1.setD k hk y
 obtain ⟨c1,c2⟩:=h.setD k hk y
 obtain ⟨d1,d2⟩:=c1.setS k hk x
 exact ⟨⟨b1,a2.trans b2 λ_ _ x=>x⟩,⟨d1,c2.trans d2 λ_ _ x=>x⟩⟩
theorem rs_lock {w:World} {r:Nat} {hv dv:Value} {s:SS} (h:RsAt w r hv dv s) (n1:1≤s.n) (n2:s.n≤64) (t d:Int):
  Calls prog 56 #[.pointer (some ⟨r,0,none⟩),.int .i64 t,.int .i64 d] w (RsPost w r hv dv (s.lock t d) (lockE s t d)):=by
 obtain ⟨g,cap,rfl,hg⟩:=SrAt.stV h (by omega)
 obtain ⟨g2,cap2,rfl,hg2⟩:=SrAt.dlV h (by omega)
 have c0:=SrAt.cell0 h
 have c1:=SrAt.cell1 h
 have c2:=SrAt.cell2 h
 by_cases ht:0≤t∧t<s.n
 ·obtain ⟨k,rfl⟩:=Int.eq_ofNat_of_zero_le ht.1
  have hk:k<s.n:=by omega
  obtain ⟨e0,f0⟩:=hg k _ (stL_at s hk)
  obtain ⟨e1,f1⟩:=hg2 k _ (dlL_at s hk)
  have q1:¬ (k:Int)<0:=by omega
  have q2:¬ (s.n:Int)≤(k:Int):=by omega
  by_cases hd:d= -1∨(0≤d∧s.timed=true)
  ·by_cases hx:s.st k=0
   ·have eE:lockE s (k:Int) d=0:=by unfold lockE;rw [if_pos ⟨ht,hd⟩,Int.toNat_natCast,if_pos hx]
    have eS:s.lock (k:Int) d=s.set k 1 d:=by unfold SS.lock;rw [if_pos eE,Int.toNat_natCast]
    rw [eE,eS]
    rw [hx] at e0
    have HE:RsPost w r (.slice (some ⟨g,0,none⟩) s.n cap) (.slice (some ⟨g2,0,none⟩) s.n cap2) (s.set k 1 d) 0 (.returned (.int .i64 0)) ((w.setCell ⟨g,k,none⟩ (.int .i64 1)).setCell ⟨g2,k,none⟩ (.int .i64 d))∧RsPost w r (.slice (some ⟨g,0,none⟩) s.n cap) (.slice (some ⟨g2,0,none⟩) s.n cap2) (s.set k 1 d) 0 (.returned (.int .i64 0)) ((w.setCell ⟨g2,k,none⟩ (.int .i64 d)).setCell ⟨g,k,none⟩ (.int .i64 1)):=by
     obtain ⟨⟨a1,a2⟩,b1,b2⟩:=rs_two h k hk 1 d
     rw [←stL_set s k 1 d,←dlL_set s k 1 d d (by simp [SS.dlS,SS.set,upd_same])] at a1 b1
     exact ⟨⟨rfl,a1,a2⟩,⟨rfl,b1,b2⟩⟩
    have p1:¬ g=g2:=λe=>h.apart g rfl (by rw [e];rfl)
    have p2:¬ g2=g:=λe=>p1 e.symm
    have HE':=Lib.hid HE
    have hn:=n2
    generalize s.n=n at*
    generalize s.timed=tm at*
    clear h HE eE eS hx hg hg2 ht
    rcases hd with rfl|⟨hd,rfl⟩
    all_goals
     go_enter func56,ntmps56
     go_wp2
     go_region
     all_goals
      go_wp2
      go_ret
      first
       |exact HE'.out.1.drew
       |exact HE'.out.2.drew
   ·have eE:lockE s (k:Int) d=2:=by unfold lockE;rw [if_pos ⟨ht,hd⟩,Int.toNat_natCast,if_neg hx]
    have eS:s.lock (k:Int) d=s:=by unfold SS.lock;rw [if_neg (by rw [eE];decide)]
    rw [eE,eS]
    have HE:=Lib.hid h
    have hn:=n2
    generalize s.st k=x at*
    generalize s.n=n at*
    generalize s.timed=tm at*
    clear h eE eS hg hg2 ht
    rcases hd with rfl|⟨hd,rfl⟩
    all_goals
     go_enter func56,ntmps56
     go_wp2
     go_ret
     exact ⟨rfl,HE.out,Wr.refl _ _⟩
  ·have eE:lockE s (k:Int) d=1:=by unfold lockE;rw [if_neg (λx=>hd x.2)]
   have eS:s.lock (k:Int) d=s:=by unfold SS.lock;rw [if_neg (by rw [eE];decide)]
   rw [eE,eS]
   have HE:=Lib.hid h
   have hd2:d< -1∨(¬ d< -1∧-1<d∧s.timed=false):=by
    by_cases h1:d< -1
    ·exact .inl h1
    ·exact .inr ⟨h1,by omega,by cases h2:s.timed;rfl;exact absurd (Or.inr ⟨by omega,h2⟩) hd⟩
   have hn:=n2
   generalize s.n=n at*
   generalize s.timed=tm at*
   clear h eE eS hg hg2 ht hd
   rcases hd2 with hd|⟨hd,hd2,rfl⟩
   all_goals
    go_enter func56,ntmps56
    go_wp2
    go_ret
    exact ⟨rfl,HE.out,Wr.refl _ _⟩
 ·have eE:lockE s t d=1:=by unfold lockE;rw [if_neg (λx=>ht x.1)]
  have eS:s.lock t d=s:=by unfold SS.lock;rw [if_neg (by rw [eE];decide)]
  rw [eE,eS]
  have HE:=Lib.hid h
  have hn:=n2
  have ht2:t<0∨(¬ t<0∧(s.n:Int)≤t):=by omega
  generalize s.n=n at*
  clear h eE eS hg hg2 ht
  rcases ht2 with ht|⟨ht,ht2⟩
  all_goals
   go_enter func56,ntmps56
   go_wp2
   go_ret
   exact ⟨rfl,HE.out,Wr.refl _ _⟩
def rturnE (s:SS) (t x:Int):Int:=if x=4∧s.probed=false then 1 else turnE s t
def SS.rturn (s:SS) (t x:Int):SS:=if x=4∧s.probed=false then s else s.turn t x
theorem rs_turn {w:World} {r:Nat} {hv dv:Value} {s:SS} (h:RsAt w r hv dv s) (n1:1≤s.n) (n2:s.n≤64) (t x:Int) (hx:x≠1):
  Calls prog 57 #[.pointer (some ⟨r,0,none⟩),.int .i64 t,.int .i64 x] w (RsPost w r hv dv (s.rturn t x) (rturnE s t x)):=by
 obtain ⟨g,cap,rfl,hg⟩:=SrAt.stV h (by omega)
 have c0:=SrAt.cell0 h
 have c3:=SrAt.cell3 h
 by_cases ht:0≤t∧t<s.n
 ·obtain ⟨k,rfl⟩:=Int.eq_ofNat_of_zero_le ht.1
  have hk:k<s.n:=by omega
  obtain ⟨e0,f0⟩:=hg k _ (stL_at s hk)
  have q1:¬ (k:Int)<0:=by omega
  have q2:¬ (s.n:Int)≤(k:Int):=by omega
  by_cases hp:x=4∧s.probed=false
  ·have eE:rturnE s (k:Int) x=1:=if_pos hp
   have eS:s.rturn (k:Int) x=s:=if_pos hp
   rw [eE,eS]
   have HE:=Lib.hid h
   have hn:=n2
   generalize s.n=n at*
   generalize s.probed=pr at*
   obtain ⟨rfl,rfl⟩:=hp
   clear h eE eS hg ht
   go_enter func57,ntmps57
   go_wp2
   go_ret
   exact ⟨rfl,HE.out,Wr.refl _ _⟩
  ·have eE0:rturnE s (k:Int) x=turnE s (k:Int):=if_neg hp
   have eS0:s.rturn (k:Int) x=s.turn (k:Int) x:=if_neg hp
   have eE1:turnE s (k:Int)=if s.st k=0 then 3 else if s.st k=2 then 0 else 2:=by unfold turnE;rw [if_pos ht,Int.toNat_natCast]
   have eS1:s.turn (k:Int) x=if turnE s (k:Int)=0 then s.set k x (s.dl k) else s:=by unfold SS.turn;rw [Int.toNat_natCast]
   rw [eE0,eS0,eS1]
   have hp2:(x==4)=false∨((x==4)=true∧s.probed=true):=by
    by_cases h1:x=4
    ·exact .inr ⟨by simp [h1],by cases h2:s.probed;exact absurd ⟨h1,h2⟩ hp;rfl⟩
    ·exact .inl (beq_false_of_ne h1)
   by_cases h0:s.st k=0
   ·rw [if_pos h0] at eE1
    rw [eE1,if_neg (by decide)]
    rw [h0] at e0
    have HE:=Lib.hid h
    have hn:=n2
    generalize s.n=n at*
    generalize s.probed=pr at*
    clear h eE0 eS0 eE1 eS1 hg ht h0 hp hx
    rcases hp2 with p1|⟨p1,rfl⟩
    all_goals
     go_enter func57,ntmps57
     go_wp2
     go_ret
     exact ⟨rfl,HE.out,Wr.refl _ _⟩
   ·rw [if_neg h0] at eE1
    by_cases h2:s.st k=2
    ·rw [if_pos h2] at eE1
     rw [eE1,if_pos rfl]
     have hE:RsPost w r (.slice (some ⟨g,0,none⟩) s.n cap) dv (s.set k x (s.dl k)) 0 (.returned (.int .i64 0)) (w.setCell ⟨g,k,none⟩ (.int .i64 x)):=by
      obtain ⟨a1,a2⟩:=SrAt.setS h k hk x
      rw [←stL_set s k x (s.dl k)] at a1
      have e2:dlL (s.set k x (s.dl k))=dlL s:=by
       rw [dlL_set s k x (s.dl k) (-1) (by simp [SS.dlS,SS.set,upd_same,hx])]
       exact set_same (by rw [dlL_at s hk];simp [SS.dlS,h2])
      rw [←e2] at a1
      exact ⟨rfl,a1,a2⟩
     rw [h2] at e0
     have HE:=Lib.hid hE
     have hn:=n2
     generalize s.n=n at*
     generalize s.probed=pr at*
     clear h eE0 eS0 eE1 eS1 hg ht h0 hp hx hE h2
     rcases hp2 with p1|⟨p1,rfl⟩
     all_goals
      go_enter func57,ntmps57
      go_wp2
      go_ret
      exact HE.out
    ·rw [if_neg h2] at eE1
     rw [eE1,if_neg (by decide)]
     have HE:=Lib.hid h
     have hn:=n2
     generalize s.st k=y at*
     generalize s.n=n at*
     generalize s.probed=pr at*
     clear h eE0 eS0 eE1 eS1 hg ht hp hx
     rcases hp2 with p1|⟨p1,rfl⟩
     all_goals
      go_enter func57,ntmps57
      go_wp2
      go_ret
      exact ⟨rfl,HE.out,Wr.refl _ _⟩
 ·have eE:rturnE s t x=1:=by unfold rturnE turnE;rw [if_neg ht];split<;>rfl
  have eS:s.rturn t x=s:=by unfold SS.rturn SS.turn turnE;rw [if_neg ht];split;rfl;exact if_neg (by decide)
  rw [eE,eS]
  have HE:=Lib.hid h
  have hn:=n2
  have ht2:t<0∨(¬ t<0∧(s.n:Int)≤t):=by omega
  generalize s.n=n at*
  clear h eE eS hg ht
  rcases ht2 with ht|⟨ht,ht2⟩
  all_goals
   go_enter func57,ntmps57
   go_wp2
   go_ret
   exact ⟨rfl,HE.out,Wr.refl _ _⟩
open Go.RowKit Go.BigFrame
theorem s_u3:prog.underlying 139 =some (.array 3 3):=by kernel_rfl
theorem s_u6:prog.underlying 219 =some (.array 6 139):=by kernel_rfl
theorem s_i3:(prog.info? 139).map (λi=>(i.zero,i.size,i.bytes))=some (some (.agg #[.int .i64 0,.int .i64 0,.int .i64 0]),3,24):=by kernel_rfl
theorem s_idx (cs:Array Value) (j:Nat) (hj:j<6) (w:World):(Instr.index 219 (.agg cs) (.int .i64 (j:Int))).run prog w= .ok (.agg (cs.extract (j*3) (j*3+3))) w:=by
 obtain ⟨i0,hi,hz0,hz1,hz2⟩:=info_parts s_i3
 simp [Instr.index,asIntOf,run_underlying s_u6,part,isAgg,run_underlying s_u3,sizeOf,typeInfo,hi,hz1,hj]
theorem s_idx0 (w:World):(Instr.index 219 (.agg #[.int .i64 1,.int .i64 1,.int .i64 2,.int .i64 1,.int .i64 2,.int .i64 0,.int .i64 1,.int .i64 6,.int .i64 0,.int .i64 3,.int .i64 3,.int .i64 0,.int .i64 4,.int .i64 4,.int .i64 2,.int .i64 4,.int .i64 5,.int .i64 2]) (.int .i64 0)).run prog w= .ok (.agg #[.int .i64 1,.int .i64 1,.int .i64 2]) w:=s_idx _ 0 (by decide) w
theorem s_idx1 (w:World):(Instr.index 219 (.agg #[.int .i64 1,.int .i64 1,.int .i64 2,.int .i64 1,.int .i64 2,.int .i64 0,.int .i64 1,.int .i64 6,.int .i64 0,.int .i64 3,.int .i64 3,.int .i64 0,.int .i64 4,.int .i64 4,.int .i64 2,.int .i64 4,.int .i64 5,.int .i64 2]) (.int .i64 1)).run prog w= .ok (.agg #[.int .i64 1,.int .i64 2,.int .i64 0]) w:=s_idx _ 1 (by decide) w
theorem s_idx2 (w:World):(Instr.index 219 (.agg #[.int .i64 1,.int .i64 1,.int .i64 2,.int .i64 1,.int .i64 2,.int .i64 0,.int .i64 1,.int .i64 6,.int .i64 0,.int .i64 3,.int .i64 3,.int .i64 0,.int .i64 4,.int .i64 4,.int .i64 2,.int .i64 4,.int .i64 5,.int .i64 2]) (.int .i64 2)).run prog w= .ok (.agg #[.int .i64 1,.int .i64 6,.int .i64 0]) w:=s_idx _ 2 (by decide) w
theorem s_idx3 (w:World):(Instr.index 219 (.agg #[.int .i64 1,.int .i64 1,.int .i64 2,.int .i64 1,.int .i64 2,.int .i64 0,.int .i64 1,.int .i64 6,.int .i64 0,.int .i64 3,.int .i64 3,.int .i64 0,.int .i64 4,.int .i64 4,.int .i64 2,.int .i64 4,.int .i64 5,.int .i64 2]) (.int .i64 3)).run prog w= .ok (.agg #[.int .i64 3,.int .i64 3,.int .i64 0]) w:=s_idx _ 3 (by decide) w
theorem s_idx4 (w:World):(Instr.index 219 (.agg #[.int .i64 1,.int .i64 1,.int .i64 2,.int .i64 1,.int .i64 2,.int .i64 0,.int .i64 1,.int .i64 6,.int .i64 0,.int .i64 3,.int .i64 3,.int .i64 0,.int .i64 4,.int .i64 4,.int .i64 2,.int .i64 4,.int .i64 5,.int .i64 2]) (.int .i64 4)).run prog w= .ok (.agg #[.int .i64 4,.int .i64 4,.int .i64 2]) w:=s_idx _ 4 (by decide) w
theorem s_idx5 (w:World):(Instr.index 219 (.agg #[.int .i64 1,.int .i64 1,.int .i64 2,.int .i64 1,.int .i64 2,.int .i64 0,.int .i64 1,.int .i64 6,.int .i64 0,.int .i64 3,.int .i64 3,.int .i64 0,.int .i64 4,.int .i64 4,.int .i64 2,.int .i64 4,.int .i64 5,.int .i64 2]) (.int .i64 5)).run prog w= .ok (.agg #[.int .i64 4,.int .i64 5,.int .i64 2]) w:=s_idx _ 5 (by decide) w
def tabA (k:Nat):Int:=[1,1,1,3,4,4].getD k 0
def tabE (k:Nat):Int:=[1,2,6,3,4,5].getD k 0
def tabN (k:Nat):Int:=[2,0,0,0,2,2].getD k 0
theorem tab_hit {x ev:Int} {k:Nat} (hk:k<6) (hx:x=tabA k) (he:ev=tabE k):behindI x ev=some (tabN k):=by
 subst hx he
 have:k=0∨k=1∨k=2∨k=3∨k=4∨k=5:=by omega
 rcases this with rfl|rfl|rfl|rfl|rfl|rfl<;>rfl
def NoRow (x ev:Int) (k:Nat):Prop:=∀ j,j<k→¬ (x=tabA j∧ev=tabE j)
theorem NoRow.snoc {x ev:Int} {k:Nat} (h:NoRow x ev k) (hk:¬ (x=tabA k∧ev=tabE k)):NoRow x ev (k+1):=λj hj=>by
 by_cases e:j=k
 ·rw [e];exact hk
 ·exact h j (by omega)
theorem tab_miss {x ev:Int} (h:NoRow x ev 6):behindI x ev=none:=by
 have h0:=h 0 (by decide)
 have h1:=h 1 (by decide)
 have h2:=h 2 (by decide)
 have h3:=h 3 (by decide)
 have h4:=h 4 (by decide)
 have h5:=h 5 (by decide)
 simp only [tabA,tabE,List.getD_cons_zero,List.getD_cons_succ] at h0 h1 h2 h3 h4 h5
 unfold behindI
 rw [if_neg h0,if_neg (λe=>e.2.elim (λy=>h1 ⟨e.1,y⟩) (λy=>h2 ⟨e.1,y⟩)),if_neg h3,if_neg (λe=>e.2.elim (λy=>h4 ⟨e.1,y⟩) (λy=>h5 ⟨e.1,y⟩))]
def endI (s:SS) (t ev:Int):Int:=if endB s t ev=true then 1 else 0
theorem rs_end {w:World} {r:Nat} {hv dv:Value} {s:SS} (h:RsAt w r hv dv s) (n1:1≤s.n) (n2:s.n≤64) (t ev:Int):
  Calls prog 128 #[.pointer (some ⟨r,0,none⟩),.int .i64 t,.int .i64 ev] w (RsPost w r hv dv (s.fin t ev) (endI s t ev)):=by
 obtain ⟨g,cap,rfl,hg⟩:=SrAt.stV h (by omega)
 obtain ⟨g2,cap2,rfl,hg2⟩:=SrAt.dlV h (by omega)
 have c0:=SrAt.cell0 h
 have c1:=SrAt.cell1 h
 by_cases ht:0≤t∧t<s.n
 ·have eO:endO s t ev=behindI (s.st t.toNat) ev:=if_pos ht
  obtain ⟨k,rfl⟩:=Int.eq_ofNat_of_zero_le ht.1
  rw [Int.toNat_natCast] at eO
  have hk:k<s.n:=by omega
  obtain ⟨e0,f0⟩:=hg k _ (stL_at s hk)
  obtain ⟨e1,f1⟩:=hg2 k _ (dlL_at s hk)
  have q1:¬ (k:Int)<0:=by omega
  have q2:¬ (s.n:Int)≤(k:Int):=by omega
  have p1:¬ g=g2:=λe=>h.apart g rfl (by rw [e];rfl)
  have p2:¬ g2=g:=λe=>p1 e.symm
  have HE:∀ (Y:World) (j:Nat) (x:Int),Wr Nil w Y→j<6→s.st k=tabA j→ev=tabE j→x=tabN j→RsPost w r (.slice (some ⟨g,0,none⟩) s.n cap) (.slice (some ⟨g2,0,none⟩) s.n cap2) (s.fin (k:Int) ev) (endI s (k:Int) ev) (.returned (.int .i64 1)) ((Y.setCell ⟨g,k,none⟩ (.int .i64 x)).setCell ⟨g2,k,none⟩ (.int .i64 (-1)))∧RsPost w r (.slice (some ⟨g,0,none⟩) s.n cap) (.slice (some ⟨g2,0,none⟩) s.n cap2) (s.fin (k:Int) ev) (endI s (k:Int) ev) (.returned (.int .i64 1)) ((Y.setCell ⟨g2,k,none⟩ (.int .i64 (-1))).setCell ⟨g,k,none⟩ (.int .i64 x)):=λY j x hY hj hA hEv hx=>by
   have hb:=tab_hit hj hA hEv
   rw [←hx] at hb
   rw [hb] at eO
   have e3:s.fin (k:Int) ev=s.set k x 0:=by unfold SS.fin;rw [eO,Int.toNat_natCast]
   have e4:endI s (k:Int) ev=1:=by unfold endI endB;rw [eO];rfl
   have hx1:x≠1:=by
    rw [hx]
    have:j=0∨j=1∨j=2∨j=3∨j=4∨j=5:=by omega
    rcases this with rfl|rfl|rfl|rfl|rfl|rfl<;>decide
   rw [e3,e4]
   obtain ⟨⟨a1,a2⟩,b1,b2⟩:=rs_two (h.after hY) k hk x (-1)
   rw [←stL_set s k x 0,←dlL_set s k x 0 (-1) (by simp [SS.dlS,SS.set,upd_same,hx1])] at a1 b1
   have m1:=(hY.mono (T:=SF r (.slice (some ⟨g,0,none⟩) s.n cap) (.slice (some ⟨g2,0,none⟩) s.n cap2)) λ_ _ x=>x.elim)
   exact ⟨⟨rfl,a1,m1.trans a2 λ_ _ x=>x⟩,⟨rfl,b1,m1.trans b2 λ_ _ x=>x⟩⟩
  have HN:∀ (Y:World),Wr Nil w Y→NoRow (s.st k) ev 6→RsPost w r (.slice (some ⟨g,0,none⟩) s.n cap) (.slice (some ⟨g2,0,none⟩) s.n cap2) (s.fin (k:Int) ev) (endI s (k:Int) ev) (.returned (.int .i64 0)) Y:=λY hY hN=>by
   rw [tab_miss hN] at eO
   have e3:s.fin (k:Int) ev=s:=by unfold SS.fin;rw [eO]
   have e4:endI s (k:Int) ev=0:=by unfold endI endB;rw [eO];rfl
   rw [e3,e4]
   exact ⟨rfl,h.after hY,hY.mono λ_ _ x=>x.elim⟩
  have K0:∀ Y,Wr Nil w Y→Y.cell? ⟨r,0,none⟩=some (.slice (some ⟨g,0,none⟩) s.n cap)∧Y.cell? ⟨r,1,none⟩=some (.slice (some ⟨g2,0,none⟩) s.n cap2)∧Y.cell? ⟨g,k,none⟩=some (.int .i64 (s.st k))∧Y.cell? ⟨g2,k,none⟩=some (.int .i64 (s.dlS k))∧Y.frozen? ⟨g,k,none⟩=false∧Y.frozen? ⟨g2,k,none⟩=false:=λY hY=>by
   have hY':=h.after hY
   obtain ⟨g',cap',q,hg'⟩:=SrAt.stV hY' (by omega)
   obtain ⟨g2',cap2',q',hg2'⟩:=SrAt.dlV hY' (by omega)
   simp only [Value.slice.injEq,Option.some.injEq,Addr.mk.injEq,and_true,true_and] at q q'
   obtain ⟨rfl,rfl⟩:=q
   obtain ⟨rfl,rfl⟩:=q'
   exact ⟨SrAt.cell0 hY',SrAt.cell1 hY',(hg' k _ (stL_at s hk)).1,(hg2' k _ (dlL_at s hk)).1,(hg' k _ (stL_at s hk)).2,(hg2' k _ (dlL_at s hk)).2⟩
  have KK:=Lib.hid (And.intro HE (And.intro HN K0))
  generalize s.st k=x at KK
  generalize s.dlS k=y at KK
  have hn:=n2
  clear h eO hg hg2 ht HE HN K0 e0 f0 e1 f1
  generalize s.n=n at*
  generalize (s.fin (k:Int) ev)=S' at*
  generalize (endI s (k:Int) ev)=E' at*
  have hW0:Wr Nil w w:=Wr.refl _ _
  go_enter func128,ntmps128
  go_wp2
  clear c0 c1
  go_loopw [27] (λi wr=>∃ j:Nat,j≤6∧i= .int .i64 j∧Hid (Wr Nil w wr∧NoRow x ev j)) (λi _=>6-(intOf i).toNat)
  case atStart=>exact ⟨0,by decide,rfl,Lib.hid ⟨hW0,λj hj=>by omega⟩⟩
  case round=>
   clear hW0
   obtain ⟨j,hj,rfl,hH⟩:=hrel
   have hjj:j=0∨j=1∨j=2∨j=3∨j=4∨j=5∨j=6:=by omega
   clear hj
   rcases hjj with rfl|rfl|rfl|rfl|rfl|rfl|rfl
   ·obtain ⟨X,hX⟩:∃ X,X=wr.alloc (.cells #[.int .i64 1,.int .i64 1,.int .i64 2] 139):=⟨_,rfl⟩
    have hWX:Wr Nil w X:=by rw [hX];exact hH.out.1.alloc _
    obtain ⟨c0,c1,e0,e1,f0,f1⟩:=KK.out.2.2 _ hWX
    have b0:X.cell? ⟨wr.heap.size,0,none⟩=some (.int .i64 1):=by rw [hX];simp
    have b1:X.cell? ⟨wr.heap.size,1,none⟩=some (.int .i64 1):=by rw [hX];simp
    have b2:X.cell? ⟨wr.heap.size,2,none⟩=some (.int .i64 2):=by rw [hX];simp
    have hIx:=s_idx0
    have HX:=Lib.hid (And.intro hX hWX)
    clear hX hWX
    by_cases hx:x=1
    ·by_cases he:ev=1
     ·have HV:=Lib.hid (And.intro hx he)
      subst hx he
      go_wp2
      rw [←HX.out.1]
      go_big_quiet (fail)
      go_wp2
      go_region
      all_goals
       go_wp2
       go_ret
       first
        |exact (KK.out.1 _ 0 2 (HX.out.2.drewN _) (by decide) rfl rfl rfl).1
        |exact (KK.out.1 _ 0 2 (HX.out.2.drewN _) (by decide) rfl rfl rfl).2
     ·have he2:(ev==1)=false:=beq_false_of_ne he
      have HR:=Lib.hid (hH.out.2.snoc λy=>he y.2)
      subst hx
      clear he
      go_wp2
      rw [←HX.out.1]
      go_big_quiet (fail)
      go_wp2
      go_roundw
      case rel=>exact ⟨1,by decide,rfl,Lib.hid ⟨HX.out.2.drewN _,HR.out⟩⟩
      case measure=>simp [intOf]
    ·have hx2:(x==1)=false:=beq_false_of_ne hx
     have HR:=Lib.hid (hH.out.2.snoc λy=>hx y.1)
     clear hx
     go_wp2
     rw [←HX.out.1]
     go_big_quiet (fail)
     go_wp2
     go_roundw
     case rel=>exact ⟨1,by decide,rfl,Lib.hid ⟨HX.out.2.drewN _,HR.out⟩⟩
     case measure=>simp [intOf]
   ·obtain ⟨X,hX⟩:∃ X,X=wr.alloc (.cells #[.int .i64 1,.int .i64 2,.int .i64 0] 139):=⟨_,rfl⟩
    have hWX:Wr Nil w X:=by rw [hX];exact hH.out.1.alloc _
    obtain ⟨c0,c1,e0,e1,f0,f1⟩:=KK.out.2.2 _ hWX
    have b0:X.cell? ⟨wr.heap.size,0,none⟩=some (.int .i64 1):=by rw [hX];simp
    have b1:X.cell? ⟨wr.heap.size,1,none⟩=some (.int .i64 2):=by rw [hX];simp
    have b2:X.cell? ⟨wr.heap.size,2,none⟩=some (.int .i64 0):=by rw [hX];simp
    have hIx:=s_idx1
    have HX:=Lib.hid (And.intro hX hWX)
    clear hX hWX
    by_cases hx:x=1
    ·by_cases he:ev=2
     ·have HV:=Lib.hid (And.intro hx he)
      subst hx he
      go_wp2
      rw [←HX.out.1]
      go_big_quiet (fail)
      go_wp2
      go_region
      all_goals
       go_wp2
       go_ret
       first
        |exact (KK.out.1 _ 1 0 (HX.out.2.drewN _) (by decide) rfl rfl rfl).1
        |exact (KK.out.1 _ 1 0 (HX.out.2.drewN _) (by decide) rfl rfl rfl).2
     ·have he2:(ev==2)=false:=beq_false_of_ne he
      have HR:=Lib.hid (hH.out.2.snoc λy=>he y.2)
      subst hx
      clear he
      go_wp2
      rw [←HX.out.1]
      go_big_quiet (fail)
      go_wp2
      go_roundw
      case rel=>exact ⟨2,by decide,rfl,Lib.hid ⟨HX.out.2.drewN _,HR.out⟩⟩
      case measure=>simp [intOf]
    ·have hx2:(x==1)=false:=beq_false_of_ne hx
     have HR:=Lib.hid (hH.out.2.snoc λy=>hx y.1)
     clear hx
     go_wp2
     rw [←HX.out.1]
     go_big_quiet (fail)
     go_wp2
     go_roundw
     case rel=>exact ⟨2,by decide,rfl,Lib.hid ⟨HX.out.2.drewN _,HR.out⟩⟩
     case measure=>simp [intOf]
   ·obtain ⟨X,hX⟩:∃ X,X=wr.alloc (.cells #[.int .i64 1,.int .i64 6,.int .i64 0] 139):=⟨_,rfl⟩
    have hWX:Wr Nil w X:=by rw [hX];exact hH.out.1.alloc _
    obtain ⟨c0,c1,e0,e1,f0,f1⟩:=KK.out.2.2 _ hWX
    have b0:X.cell? ⟨wr.heap.size,0,none⟩=some (.int .i64 1):=by rw [hX];simp
    have b1:X.cell? ⟨wr.heap.size,1,none⟩=some (.int .i64 6):=by rw [hX];simp
    have b2:X.cell? ⟨wr.heap.size,2,none⟩=some (.int .i64 0):=by rw [hX];simp
    have hIx:=s_idx2
    have HX:=Lib.hid (And.intro hX hWX)
    clear hX hWX
    by_cases hx:x=1
    ·by_cases he:ev=6
     ·have HV:=Lib.hid (And.intro hx he)
      subst hx he
      go_wp2
      rw [←HX.out.1]
      go_big_quiet (fail)
      go_wp2
      go_region
      all_goals
       go_wp2
       go_ret
       first
        |exact (KK.out.1 _ 2 0 (HX.out.2.drewN _) (by decide) rfl rfl rfl).1
        |exact (KK.out.1 _ 2 0 (HX.out.2.drewN _) (by decide) rfl rfl rfl).2
     ·have he2:(ev==6)=false:=beq_false_of_ne he
      have HR:=Lib.hid (hH.out.2.snoc λy=>he y.2)
      subst hx
      clear he
      go_wp2
      rw [←HX.out.1]
      go_big_quiet (fail)
      go_wp2
      go_roundw
      case rel=>exact ⟨3,by decide,rfl,Lib.hid ⟨HX.out.2.drewN _,HR.out⟩⟩
      case measure=>simp [intOf]
    ·have hx2:(x==1)=false:=beq_false_of_ne hx
     have HR:=Lib.hid (hH.out.2.snoc λy=>hx y.1)
     clear hx
     go_wp2
     rw [←HX.out.1]
     go_big_quiet (fail)
     go_wp2
     go_roundw
     case rel=>exact ⟨3,by decide,rfl,Lib.hid ⟨HX.out.2.drewN _,HR.out⟩⟩
     case measure=>simp [intOf]
   ·obtain ⟨X,hX⟩:∃ X,X=wr.alloc (.cells #[.int .i64 3,.int .i64 3,.int .i64 0] 139):=⟨_,rfl⟩
    have hWX:Wr Nil w X:=by rw [hX];exact hH.out.1.alloc _
    obtain ⟨c0,c1,e0,e1,f0,f1⟩:=KK.out.2.2 _ hWX
    have b0:X.cell? ⟨wr.heap.size,0,none⟩=some (.int .i64 3):=by rw [hX];simp
    have b1:X.cell? ⟨wr.heap.size,1,none⟩=some (.int .i64 3):=by rw [hX];simp
    have b2:X.cell? ⟨wr.heap.size,2,none⟩=some (.int .i64 0):=by rw [hX];simp
    have hIx:=s_idx3
    have HX:=Lib.hid (And.intro hX hWX)
    clear hX hWX
    by_cases hx:x=3
    ·by_cases he:ev=3
     ·have HV:=Lib.hid (And.intro hx he)
      subst hx he
      go_wp2
      rw [←HX.out.1]
      go_big_quiet (fail)
      go_wp2
      go_region
      all_goals
       go_wp2
       go_ret
       first
        |exact (KK.out.1 _ 3 0 (HX.out.2.drewN _) (by decide) rfl rfl rfl).1
        |exact (KK.out.1 _ 3 0 (HX.out.2.drewN _) (by decide) rfl rfl rfl).2
     ·have he2:(ev==3)=false:=beq_false_of_ne he
      have HR:=Lib.hid (hH.out.2.snoc λy=>he y.2)
      subst hx
      clear he
      go_wp2
      rw [←HX.out.1]
      go_big_quiet (fail)
      go_wp2
      go_roundw
      case rel=>exact ⟨4,by decide,rfl,Lib.hid ⟨HX.out.2.drewN _,HR.out⟩⟩
      case measure=>simp [intOf]
    ·have hx2:(x==3)=false:=beq_false_of_ne hx
     have HR:=Lib.hid (hH.out.2.snoc λy=>hx y.1)
     clear hx
     go_wp2
     rw [←HX.out.1]
     go_big_quiet (fail)
     go_wp2
     go_roundw
     case rel=>exact ⟨4,by decide,rfl,Lib.hid ⟨HX.out.2.drewN _,HR.out⟩⟩
     case measure=>simp [intOf]
   ·obtain ⟨X,hX⟩:∃ X,X=wr.alloc (.cells #[.int .i64 4,.int .i64 4,.int .i64 2] 139):=⟨_,rfl⟩
    have hWX:Wr Nil w X:=by rw [hX];exact hH.out.1.alloc _
    obtain ⟨c0,c1,e0,e1,f0,f1⟩:=KK.out.2.2 _ hWX
    have b0:X.cell? ⟨wr.heap.size,0,none⟩=some (.int .i64 4):=by rw [hX];simp
    have b1:X.cell? ⟨wr.heap.size,1,none⟩=some (.int .i64 4):=by rw [hX];simp
    have b2:X.cell? ⟨wr.heap.size,2,none⟩=some (.int .i64 2):=by rw [hX];simp
    have hIx:=s_idx4
    have HX:=Lib.hid (And.intro hX hWX)
    clear hX hWX
    by_cases hx:x=4
    ·by_cases he:ev=4
     ·have HV:=Lib.hid (And.intro hx he)
      subst hx he
      go_wp2
      rw [←HX.out.1]
      go_big_quiet (fail)
      go_wp2
      go_region
      all_goals
       go_wp2
       go_ret
       first
        |exact (KK.out.1 _ 4 2 (HX.out.2.drewN _) (by decide) rfl rfl rfl).1
        |exact (KK.out.1 _ 4 2 (HX.out.2.drewN _) (by decide) rfl rfl rfl).2
     ·have he2:(ev==4)=false:=beq_false_of_ne he
      have HR:=Lib.hid (hH.out.2.snoc λy=>he y.2)
      subst hx
      clear he
      go_wp2
      rw [←HX.out.1]
      go_big_quiet (fail)
      go_wp2
      go_roundw
      case rel=>exact ⟨5,by decide,rfl,Lib.hid ⟨HX.out.2.drewN _,HR.out⟩⟩
      case measure=>simp [intOf]
    ·have hx2:(x==4)=false:=beq_false_of_ne hx
     have HR:=Lib.hid (hH.out.2.snoc λy=>hx y.1)
     clear hx
     go_wp2
     rw [←HX.out.1]
     go_big_quiet (fail)
     go_wp2
     go_roundw
     case rel=>exact ⟨5,by decide,rfl,Lib.hid ⟨HX.out.2.drewN _,HR.out⟩⟩
     case measure=>simp [intOf]
   ·obtain ⟨X,hX⟩:∃ X,X=wr.alloc (.cells #[.int .i64 4,.int .i64 5,.int .i64 2] 139):=⟨_,rfl⟩
    have hWX:Wr Nil w X:=by rw [hX];exact hH.out.1.alloc _
    obtain ⟨c0,c1,e0,e1,f0,f1⟩:=KK.out.2.2 _ hWX
    have b0:X.cell? ⟨wr.heap.size,0,none⟩=some (.int .i64 4):=by rw [hX];simp
    have b1:X.cell? ⟨wr.heap.size,1,none⟩=some (.int .i64 5):=by rw [hX];simp
    have b2:X.cell? ⟨wr.heap.size,2,none⟩=some (.int .i64 2):=by rw [hX];simp
    have hIx:=s_idx5
    have HX:=Lib.hid (And.intro hX hWX)
    clear hX hWX
    by_cases hx:x=4
    ·by_cases he:ev=5
     ·have HV:=Lib.hid (And.intro hx he)
      subst hx he
      go_wp2
      rw [←HX.out.1]
      go_big_quiet (fail)
      go_wp2
      go_region
      all_goals
       go_wp2
       go_ret
       first
        |exact (KK.out.1 _ 5 2 (HX.out.2.drewN _) (by decide) rfl rfl rfl).1
        |exact (KK.out.1 _ 5 2 (HX.out.2.drewN _) (by decide) rfl rfl rfl).2
     ·have he2:(ev==5)=false:=beq_false_of_ne he
      have HR:=Lib.hid (hH.out.2.snoc λy=>he y.2)
      subst hx
      clear he
      go_wp2
      rw [←HX.out.1]
      go_big_quiet (fail)
      go_wp2
      go_roundw
      case rel=>exact ⟨6,by decide,rfl,Lib.hid ⟨HX.out.2.drewN _,HR.out⟩⟩
      case measure=>simp [intOf]
    ·have hx2:(x==4)=false:=beq_false_of_ne hx
     have HR:=Lib.hid (hH.out.2.snoc λy=>hx y.1)
     clear hx
     go_wp2
     rw [←HX.out.1]
     go_big_quiet (fail)
     go_wp2
     go_roundw
     case rel=>exact ⟨6,by decide,rfl,Lib.hid ⟨HX.out.2.drewN _,HR.out⟩⟩
     case measure=>simp [intOf]
   ·go_wp2
    go_ret
    exact KK.out.2.1 _ hH.out.1 hH.out.2
 ·have eO:endO s t ev=none:=if_neg ht
  have e3:s.fin t ev=s:=by unfold SS.fin;rw [eO]
  have e4:endI s t ev=0:=by unfold endI endB;rw [eO];rfl
  rw [e3,e4]
  have HE:=Lib.hid h
  have hn:=n2
  have ht2:t<0∨(¬ t<0∧(s.n:Int)≤t):=by omega
  generalize s.n=n at*
  clear h eO e3 e4 hg hg2 ht
  rcases ht2 with ht|⟨ht,ht2⟩
  all_goals
   go_enter func128,ntmps128
   go_wp2
   go_ret
   exact ⟨rfl,HE.out,Wr.refl _ _⟩
namespace SpAt
variable {w wr W:World} {p b r B:Nat} {hv dv:Value} {s s':SS}
end SpAt
section
variable {w W:World} {p b r B:Nat} {hv dv:Value} {s s':SS}
end
theorem rturn_three (s:SS) (t:Int):s.rturn t 3=s.turn t 3∧rturnE s t 3=turnE s t:=⟨if_neg (λh=>absurd h.1 (by decide)),if_neg (λh=>absurd h.1 (by decide))⟩
theorem rturn_four (s:SS) (t:Int):s.rturn t 4=s.probe t∧rturnE s t 4=probeE s t:=by
 unfold SS.rturn rturnE SS.probe probeE
 cases s.probed<;>simp
end Go.Proofs.YtkmikkjjnbikdaaGreat

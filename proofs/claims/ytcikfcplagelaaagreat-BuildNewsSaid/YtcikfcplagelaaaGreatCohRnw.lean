
import Derived.Test.YtcikfcplagelaaaGreatSlotsRn
import Derived.Test.YtcikfcplagelaaaGreatMcsRn
import Derived.Test.YtcikfcplagelaaaGreatLockFine
namespace Go.Proofs.YtcikfcplagelaaaGreat
set_option maxHeartbeats 8000000
open _root_.Go.Proofs.Tryz Go.Deep
open Go.RowKit Go.BigFrame
set_option linter.unusedVariables false
set_option maxRecDepth 100000
inductive Rp where
 |tk (M:Kf.Mp)
 |cl (M:Kc.Mp)
 |mc (M:Km.Mp)
namespace Rp
def r:Rp→Nat
 |tk M=>M.r
 |cl M=>M.r
 |mc M=>M.r
def F:Rp→Nat→Prop
 |tk M=>Kf.MF M
 |cl M=>Kc.MF M
 |mc M=>Km.MF M
def a:Rp→Int
 |tk M=>M.a
 |cl M=>M.a
 |mc M=>M.a
def cells:Rp→Array Value
 |tk M=> #[.int .i64 1,.pointer (some ⟨M.r,0,none⟩),.pointer none,.pointer none]
 |cl M=> #[.int .i64 3,.pointer none,.pointer (some ⟨M.r,0,none⟩),.pointer none]
 |mc M=> #[.int .i64 4,.pointer none,.pointer none,.pointer (some ⟨M.r,0,none⟩)]
def At (w:World):Rp→Inn→Prop
 |tk M,.tk f=>Kf.MlAt w M f
 |cl M,.cl f=>Kc.MlAt w M f
 |mc M,.mc f=>Km.MlAt w M f
 |_,_=>False
end Rp
def RinPost (w:World) (K:Int) (n:Nat) (a:Int) (e:Ending) (w':World):Prop:=
 ∃ R:Rp,e= .returned (.tuple #[.agg R.cells,.int .i64 (inZ K n:Nat)])∧(∀ ps,R.At w' (newInn K n ps))∧R.a=a∧(w.heap.size≤R.r∧∀ k,R.F k→w.heap.size≤k)∧Wr Nil w w'
theorem results_cell_tmp {P:Program} {fn:Func} {p q:Tmp} {ty:TypeId} (h:fn.results= #[.cell p ty,.tmp q]) (tmps:Array Value) (w:World) (g:Nat) (t:TypeId) (cs:Array Value) (fr:Nat×Nat) (d:TypeDesc)
  (hp:tmps.getD p undef= .pointer (some ⟨g,0,none⟩)) (hg:w.heap[g]? =some (.cells cs t fr))
  (hu:P.underlying ty=some d) (hd:(match d with| .struct _| .array _ _=>true|_=>false)=true) (hi:(P.info? ty).map (·.size)=some cs.size):
  (results fn tmps).run P w= .ok (.tuple #[.agg cs,tmps.getD q undef]) w:=by
 have hp':tmps[p]?.getD undef= .pointer (some ⟨g,0,none⟩):=by simpa using hp
 simp [results,h,hp',asAddr,run_loadVar_row w g t ty cs fr d hg hu hd hi]
theorem i_rin:(prog.info? 105).map (·.size)=some 4:=by kernel_rfl
theorem new_tk {w:World} {M:Kf.Mp} {n:Nat} (h:Kf.MlRaw w M (newSeat n false true) (λ_=>false) (λ_=>0)) (ps:PSta):(Rp.tk M).At w (newTk n ps):=⟨λ_=>0,h,λ_=>⟨by show (0:Int)≤0;decide,by show (0:Int)<4294967296;decide⟩,λ_ _ e=>by have:false=true:=e;cases this⟩
theorem new_cl {w:World} {M:Kc.Mp} {n:Nat} (h:Kc.MlRaw w M (newSeat n false true) (λ_=>0) (Kc.nodeK n) (λ_=>0)) (ps:PSta):(Rp.cl M).At w (newCl n ps):=⟨λ_=>0,h,λ_ _ e=>by have:(0:Int)=2:=e;omega⟩
theorem new_mc {w:World} {M:Km.Mp} {n:Nat} (h:Km.MlRaw w M (newSeat n false true) (λ_=>0) (λ_=>0)) (ps:PSta):(Rp.mc M).At w (newMc n ps):=⟨λ_=>0,h,rfl⟩
theorem rin_tk (n:Nat) (n2:n≤64) (a:Int) (w:World):Calls prog 67 #[.int .i64 1,.int .i64 (n:Int),.int .i64 a] w (RinPost w 1 n a):=by
 have c:=λW=>Kf.ml_new n n2 a W
 obtain ⟨X,hX⟩:∃ X,X=w.alloc (.cells #[.int .i64 0,.pointer none,.pointer none,.pointer none] 105):=⟨_,rfl⟩
 have hb:X.heap[w.heap.size]? =some (.cells #[.int .i64 0,.pointer none,.pointer none,.pointer none] 105 (0,0)):=by rw [hX];exact blk_alloc_new _ _
 have hWX:Wr Nil w X:=by rw [hX];exact (Wr.refl _ w).alloc _
 have HX:=Lib.hid (And.intro hX (And.intro hb hWX))
 clear hb hWX hX
 go_enter func67,ntmps67
 go_wp2_with (go_at_call 36;rw [←HX.out.1];(with_reducible refine (c _).mono ?_);intro e w2 hq;unfold Kf.NewMlPost at hq;obtain ⟨M,rfl,h1,h2,h3,h4,h5⟩:=hq;have b2:=(h5.block _ (blk_lt HX.out.2.1) id).trans HX.out.2.1;have z0:=blk_cell b2 0;have z1:=blk_cell b2 1;have z2:=blk_cell b2 2;have z3:=blk_cell b2 3;have f0:=blk_frozen b2 0;have f1:=blk_frozen b2 1;have f2:=blk_frozen b2 2;have f3:=blk_frozen b2 3;have HQ:=Lib.hid (And.intro h1 (And.intro h2 (And.intro h3 (And.intro h4 (And.intro h5 b2)))));clear h1 h2 h3 h4 h5 b2)
 refine bodyPost_ret (results_cell_tmp rfl _ _ w.heap.size 105 _ (0,0) _ rfl (set4 HQ.out.2.2.2.2.2 rfl _ _ _ _) underlying105 rfl i_rin) rfl ?_
 obtain ⟨h1,h2,h3,⟨h4,h6⟩,h5,b2⟩:=HQ.out
 obtain ⟨hX,hb,hWX⟩:=HX.out
 have hs:X.heap.size=w.heap.size+1:=by rw [hX];exact nblk_alloc _ _
 have hW:=((((Wr.refl (One w.heap.size) w2).setCell ⟨w.heap.size,0,none⟩ (.int .i64 1) λ_=>rfl).setCell ⟨w.heap.size,1,none⟩ (.pointer (some ⟨M.r,0,none⟩)) λ_=>rfl).setCell ⟨w.heap.size,2,none⟩ (.pointer none) λ_=>rfl).setCell ⟨w.heap.size,3,none⟩ (.pointer none) λ_=>rfl
 refine ⟨.tk M,rfl,λps=> ?_,h2,⟨by show w.heap.size≤M.r;omega,λk hk=>by have:=h6 k hk;omega⟩,(hWX.nil h5).trans hW λk hk e=>by unfold One at e;omega⟩
 unfold newInn
 rw [if_pos rfl]
 exact Kf.MlAt.apart (new_tk h1 ps) hW (λe=>by unfold One at e;omega) λj hj e=>by have:=h6 j hj;unfold One at e;omega
theorem rin_cl (n:Nat) (n1:1≤n) (n2:n≤64) (a:Int) (w:World):Calls prog 67 #[.int .i64 3,.int .i64 (n:Int),.int .i64 a] w (RinPost w 3 n a):=by
 have c:=λW=>Kc.ml_new n n1 n2 a W
 obtain ⟨X,hX⟩:∃ X,X=w.alloc (.cells #[.int .i64 0,.pointer none,.pointer none,.pointer none] 105):=⟨_,rfl⟩
 have hb:X.heap[w.heap.size]? =some (.cells #[.int .i64 0,.pointer none,.pointer none,.pointer none] 105 (0,0)):=by rw [hX];exact blk_alloc_new _ _
 have hWX:Wr Nil w X:=by rw [hX];exact (Wr.refl _ w).alloc _
 have HX:=Lib.hid (And.intro hX (And.intro hb hWX))
 clear hb hWX hX
 have hw:IntKind.i64.wrap ((n:Int)+2)=((inZ 3 n:Nat):Int):=by rw [IntKind.wrap_i64];show _=((n+2:Nat):Int);omega
 go_enter func67,ntmps67
 go_wp2_with (go_at_call 40;rw [←HX.out.1];(with_reducible refine (c _).mono ?_);intro e w2 hq;unfold Kc.NewMlPost at hq;obtain ⟨M,rfl,h1,h2,h3,h4,h5⟩:=hq;have b2:=(h5.block _ (blk_lt HX.out.2.1) id).trans HX.out.2.1;have z0:=blk_cell b2 0;have z1:=blk_cell b2 1;have z2:=blk_cell b2 2;have z3:=blk_cell b2 3;have f0:=blk_frozen b2 0;have f1:=blk_frozen b2 1;have f2:=blk_frozen b2 2;have f3:=blk_frozen b2 3;have HQ:=Lib.hid (And.intro h1 (And.intro h2 (And.intro h3 (And.intro h4 (And.intro h5 b2)))));clear h1 h2 h3 h4 h5 b2)
 refine bodyPost_ret (results_cell_tmp rfl _ _ w.heap.size 105 _ (0,0) _ rfl (set4 HQ.out.2.2.2.2.2 rfl _ _ _ _) underlying105 rfl i_rin) rfl ?_
 obtain ⟨h1,h2,h3,⟨h4,h6⟩,h5,b2⟩:=HQ.out
 obtain ⟨hX,hb,hWX⟩:=HX.out
 have hs:X.heap.size=w.heap.size+1:=by rw [hX];exact nblk_alloc _ _
 have hW:=((((Wr.refl (One w.heap.size) w2).setCell ⟨w.heap.size,0,none⟩ (.int .i64 3) λ_=>rfl).setCell ⟨w.heap.size,1,none⟩ (.pointer none) λ_=>rfl).setCell ⟨w.heap.size,2,none⟩ (.pointer (some ⟨M.r,0,none⟩)) λ_=>rfl).setCell ⟨w.heap.size,3,none⟩ (.pointer none) λ_=>rfl
 refine ⟨.cl M,rfl,λps=> ?_,h2,⟨by show w.heap.size≤M.r;omega,λk hk=>by have:=h6 k hk;omega⟩,(hWX.nil h5).trans hW λk hk e=>by unfold One at e;omega⟩
 unfold newInn
 rw [if_neg (by decide),if_pos rfl]
 exact Kc.MlAt.apart (new_cl h1 ps) hW (λe=>by unfold One at e;omega) λj hj e=>by have:=h6 j hj;unfold One at e;omega
theorem rin_mc (n:Nat) (n2:n≤64) (a:Int) (w:World):Calls prog 67 #[.int .i64 4,.int .i64 (n:Int),.int .i64 a] w (RinPost w 4 n a):=by
 have c:=λW=>Km.ml_new n n2 a W
 obtain ⟨X,hX⟩:∃ X,X=w.alloc (.cells #[.int .i64 0,.pointer none,.pointer none,.pointer none] 105):=⟨_,rfl⟩
 have hb:X.heap[w.heap.size]? =some (.cells #[.int .i64 0,.pointer none,.pointer none,.pointer none] 105 (0,0)):=by rw [hX];exact blk_alloc_new _ _
 have hWX:Wr Nil w X:=by rw [hX];exact (Wr.refl _ w).alloc _
 have HX:=Lib.hid (And.intro hX (And.intro hb hWX))
 clear hb hWX hX
 have hw0:IntKind.i64.wrap (2*(n:Int))=2*(n:Int):=by rw [IntKind.wrap_i64];omega
 have hw:IntKind.i64.wrap (2*(n:Int)+1)=((inZ 4 n:Nat):Int):=by rw [IntKind.wrap_i64];show _=((2*n+1:Nat):Int);omega
 go_enter func67,ntmps67
 go_wp2_with (go_at_call 41;rw [←HX.out.1];(with_reducible refine (c _).mono ?_);intro e w2 hq;unfold Km.NewMlPost at hq;obtain ⟨M,rfl,h1,h2,h3,h4,h5⟩:=hq;have b2:=(h5.block _ (blk_lt HX.out.2.1) id).trans HX.out.2.1;have z0:=blk_cell b2 0;have z1:=blk_cell b2 1;have z2:=blk_cell b2 2;have z3:=blk_cell b2 3;have f0:=blk_frozen b2 0;have f1:=blk_frozen b2 1;have f2:=blk_frozen b2 2;have f3:=blk_frozen b2 3;have HQ:=Lib.hid (And.intro h1 (And.intro h2 (And.intro h3 (And.intro h4 (And.intro h5 b2)))));clear h1 h2 h3 h4 h5 b2)
 refine bodyPost_ret (results_cell_tmp rfl _ _ w.heap.size 105 _ (0,0) _ rfl (set4 HQ.out.2.2.2.2.2 rfl _ _ _ _) underlying105 rfl i_rin) rfl ?_
 obtain ⟨h1,h2,h3,⟨h4,h6⟩,h5,b2⟩:=HQ.out
 obtain ⟨hX,hb,hWX⟩:=HX.out
 have hs:X.heap.size=w.heap.size+1:=by rw [hX];exact nblk_alloc _ _
 have hW:=((((Wr.refl (One w.heap.size) w2).setCell ⟨w.heap.size,0,none⟩ (.int .i64 4) λ_=>rfl).setCell ⟨w.heap.size,1,none⟩ (.pointer none) λ_=>rfl).setCell ⟨w.heap.size,2,none⟩ (.pointer none) λ_=>rfl).setCell ⟨w.heap.size,3,none⟩ (.pointer (some ⟨M.r,0,none⟩)) λ_=>rfl
 refine ⟨.mc M,rfl,λps=> ?_,h2,⟨by show w.heap.size≤M.r;omega,λk hk=>by have:=h6 k hk;omega⟩,(hWX.nil h5).trans hW λk hk e=>by unfold One at e;omega⟩
 unfold newInn
 rw [if_neg (by decide),if_neg (by decide)]
 exact Km.MlAt.apart (new_mc h1 ps) hW (λe=>by unfold One at e;omega) λj hj e=>by have:=h6 j hj;unfold One at e;omega
structure Ap (Pt:Nat→Nat→Prop) (lo hi:Nat):Prop where
 ap:∀ i j k,Pt i k→Pt j k→i=j
 lo:∀ i k,Pt i k→lo≤k
 hi:∀ i k,Pt i k→k<hi
theorem Ap.turn {Pt Pt':Nat→Nat→Prop} {lo hi hi':Nat} (h:Ap Pt lo hi) (hlo:lo≤hi) (hle:hi≤hi') (j:Nat) (ho:∀ i k,i≠j→Pt' i k→Pt i k) (hj:∀ k,Pt' j k→Pt j k∨(hi≤k∧k<hi')):Ap Pt' lo hi':=by
 refine ⟨λi m k hi' hm=> ?_,λi k hk=> ?_,λi k hk=> ?_⟩
 ·by_cases e:i=j
  ·by_cases e2:m=j
   ·omega
   ·have q:=ho m k e2 hm
    rcases hj k (e▸hi') with x|x
    ·have:=h.ap j m k x q;omega
    ·have:=h.hi m k q;omega
  ·have q:=ho i k e hi'
   by_cases e2:m=j
   ·rcases hj k (e2▸hm) with x|x
    ·have:=h.ap i j k q x;omega
    ·have:=h.hi i k q;omega
   ·exact h.ap i m k q (ho m k e2 hm)
 ·by_cases e:i=j
  ·rcases hj k (e▸hk) with x|x
   ·exact h.lo j k x
   ·omega
  ·exact h.lo i k (ho i k e hk)
 ·by_cases e:i=j
  ·rcases hj k (e▸hk) with x|x
   ·have:=h.hi j k x;omega
   ·exact x.2
  ·have:=h.hi i k (ho i k e hk);omega
theorem Ap.up {Pt:Nat→Nat→Prop} {lo hi hi':Nat} (h:Ap Pt lo hi) (hle:hi≤hi'):Ap Pt lo hi':=⟨h.ap,h.lo,λi k hk=>Nat.lt_of_lt_of_le (h.hi i k hk) hle⟩
def rowB (n:Nat) (g:Nat→Value):Array Value:=((List.range n).map g).toArray
theorem rowB_at {n:Nat} (g:Nat→Value) {k:Nat} (hk:k<n):(rowB n g)[k]? =some (g k):=by
 unfold rowB
 rw [List.getElem?_toArray,List.getElem?_map,List.getElem?_range hk]
 rfl
theorem rowB_set (n:Nat) (g:Nat→Value) (k:Nat) (v:Value):(rowB n g).setIfInBounds k v=rowB n (upd g k v):=by
 unfold rowB
 rw [List.setIfInBounds_toArray]
 congr 1
 apply List.ext_getElem?
 intro m
 rw [List.getElem?_set,List.getElem?_map,List.getElem?_map]
 by_cases hm:m<n
 ·rw [List.getElem?_range hm]
  by_cases e:k=m
  ·subst e
   rw [if_pos rfl,if_pos (by simpa using hm)]
   show _=some (upd g k v k)
   rw [upd_same]
  ·rw [if_neg e]
   show some (g m)=some (upd g k v m)
   rw [upd_other _ _ (λx=>e x.symm)]
 ·have e0:(List.range n)[m]? =none:=List.getElem?_eq_none (by simp;omega)
  rw [e0]
  by_cases e:k=m
  ·subst e;rw [if_pos rfl,if_neg (by simpa using hm)];rfl
  ·rw [if_neg e];rfl
theorem rowB_congr {n:Nat} {g g':Nat→Value} (h:∀ k,k<n→g k=g' k):rowB n g=rowB n g':=by
 unfold rowB
 congr 1
 exact List.map_congr_left λk hk=>h k (List.mem_range.1 hk)
theorem made_rowB (x:Value) (n:Nat):madeCells #[x] (n*1)=rowB n (λ_=>x):=by
 apply Array.ext'
 apply List.ext_getElem?
 intro m
 unfold madeCells rowB
 rw [Nat.mul_one]
 by_cases hm:m<n
 ·rw [Array.toList_map,List.getElem?_map,Array.toList_range,List.getElem?_range hm,List.getElem?_map,List.getElem?_range hm]
  simp [Nat.mod_one]
 ·rw [List.getElem?_eq_none (by simp;omega),List.getElem?_eq_none (by simp;omega)]
def RowI (w:World) (b o n:Nat) (g:Nat→Int):Prop:=∃ cs:Array Value,w.heap[b]? =some (.cells cs 3 (0,0))∧∀ k,k<n→cs[o+k]? =some (.int .i64 (g k))
namespace RowI
variable {w w':World} {b o n:Nat} {g:Nat→Int}
theorem congr {g':Nat→Int} (h:RowI w b o n g) (e:∀ k,k<n→g k=g' k):RowI w b o n g':=by
 obtain ⟨cs,h1,h2⟩:=h
 exact ⟨cs,h1,λk hk=>by rw [←e k hk];exact h2 k hk⟩
end RowI
theorem RowQ.rowI {w:World} {v:Value} {l:List Nat} (h:RowQ w v (l.map natV)) (h1:1≤l.length):∃ b o cap,v= .slice (some ⟨b,o,none⟩) l.length cap∧RowI w b o l.length λk=>((l.getD k 0:Nat):Int):=by
 rcases h with ⟨_,e⟩|⟨g,off,cap,cur,e,hg,_,_,hc⟩
 ·have:=congrArg List.length e
  rw [List.length_map,List.length_nil] at this
  omega
 ·rw [List.length_map] at e
  refine ⟨g,off,cap,e,cur,hg,λk hk=>hc k _ ?_⟩
  show (l.map natV)[k]? =some (Value.int .i64 ((l.getD k 0:Nat):Int))
  rw [List.getElem?_map,List.getD_eq_getElem?_getD,List.getElem?_eq_getElem hk]
  rfl
namespace Rp
theorem At.after {w w':World} {R:Rp} {x:Inn} (h:R.At w x) (k:Wr Nil w w'):R.At w' x:=by
 cases R<;>cases x
 all_goals first|exact Kf.MlAt.after h k|exact Kc.MlAt.after h k|exact Km.MlAt.after h k|exact h
theorem At.apart {w w':World} {R:Rp} {x:Inn} {S:Nat→Prop} (h:R.At w x) (k:Wr S w w') (h1:¬ S R.r) (h2:∀ j,R.F j→¬ S j):R.At w' x:=by
 cases R<;>cases x
 all_goals first|exact Kf.MlAt.apart h k h1 h2|exact Kc.MlAt.apart h k h1 h2|exact Km.MlAt.apart h k h1 h2|exact h
theorem At.lt {w:World} {R:Rp} {x:Inn} (h:R.At w x):R.r<w.heap.size∧∀ j,R.F j→j<w.heap.size:=by
 cases R<;>cases x
 case tk.tk M f=>obtain ⟨_,h,_⟩:=h;exact ⟨blk_lt h.obj,λj hj=>h.lt hj⟩
 case cl.cl M f=>obtain ⟨_,h,_⟩:=h;exact ⟨blk_lt h.obj,λj hj=>h.lt hj⟩
 case mc.mc M f=>obtain ⟨_,h,_⟩:=h;exact ⟨blk_lt h.obj,λj hj=>h.lt hj⟩
 all_goals exact h.elim
end Rp
def zin:Array Value:= #[.int .i64 0,.pointer none,.pointer none,.pointer none]
def oC (sr:Nat) (a B:Int) (g:Array Value) (l:Nat→Array Value) (v2 v3 v4 v5:Value) (sz:Int) (i:Nat):Value:=
 if i=0 then .pointer (some ⟨sr,0,none⟩) else if i=1 then .int .i64 a else if i=2 then .int .i64 B else if i<7 then g.getD (i-3) undef else if i<39 then (l ((i-7)/4)).getD ((i-7)%4) undef
 else if i=39 then v2 else if i=40 then v3 else if i=41 then v4 else if i=42 then v5 else .int .i64 sz
structure Mp where
 r:Nat
 sr:Nat
 hv:Value
 dv:Value
 nd:Nat
 no:Nat
 nc:Nat
 ow:Nat
 oo:Nat
 oc:Nat
 ph:Nat
 gt:Nat
 a:Int
 B:Int
 sz:Int
 g:Rp
 l:Nat→Rp
 has:Nat→Bool
 pr:Nat
 base:Nat
def Mp.lc (M:Mp) (c:Nat):Array Value:=if M.has c=true then (M.l c).cells else zin
def Mp.oc' (M:Mp) (n:Nat):Nat→Value:=oC M.sr M.a M.B M.g.cells M.lc (.slice (some ⟨M.nd,M.no,none⟩) n M.nc) (.slice (some ⟨M.ow,M.oo,none⟩) n M.oc) (.slice (some ⟨M.ph,0,none⟩) n n) (.slice (some ⟨M.gt,0,none⟩) n n) M.sz
def Mp.Pt (M:Mp):Nat→Nat→Prop
 |0,k=>k=M.r
 |1,k=>SF M.sr M.hv M.dv k
 |2,k=>k=M.nd
 |3,k=>k=M.ow
 |4,k=>k=M.ph
 |5,k=>k=M.gt
 |6,k=>k=M.g.r∨M.g.F k
 |7,_=>False
 |c+8,k=>c<8∧M.has c=true∧(k=(M.l c).r∨(M.l c).F k)
structure MlRaw (w:World) (M:Mp) (f:FL):Prop where
 obj:w.heap[M.r]? =some (.cells (rowB 44 (M.oc' f.s.n)) 108 (0,0))
 seat:RsAt w M.sr M.hv M.dv f.s
 rN:RowI w M.nd M.no f.s.n λk=>(f.nd k:Nat)
 rO:RowI w M.ow M.oo f.s.n λk=>(f.own k:Nat)
 rP:RowI w M.ph 0 f.s.n f.ph
 rG:RowI w M.gt 0 f.s.n f.got
 gat:M.g.At w f.G
 lat:∀ c,c<8→M.has c=true→(M.l c).At w (f.Lc c)
 has:∀ t,t<f.s.n→f.nd t<8∧M.has (f.nd t)=true
 ap:Ap M.Pt 0 M.base
def undone (ops:Array Oper) (L:Array Bool):Nat:=((List.range ops.size).filter λi=> !L.getD i true).length
theorem filter_less {l:List Nat} {p q:Nat→Bool} (h:∀ j,p j=true→q j=true) {i:Nat} (hi:i∈l) (hq:q i=true) (hp:p i=false):(l.filter p).length<(l.filter q).length:=by
 have le:∀ l:List Nat,(l.filter p).length≤(l.filter q).length:=by
  intro l
  induction l with
  |nil=>exact Nat.le_refl _
  |cons x l ih=>
   rw [List.filter_cons,List.filter_cons]
   by_cases px:p x=true
   ·rw [if_pos px,if_pos (h x px)];simp;exact ih
   ·rw [if_neg px]
    split
    ·simp;omega
    ·exact ih
 induction l with
 |nil=>cases hi
 |cons x l ih=>
  rw [List.filter_cons,List.filter_cons]
  rcases List.mem_cons.1 hi with rfl|hi
  ·rw [if_neg (by rw [hp];decide),if_pos hq]
   have:=le l
   simp;omega
  ·have:=ih hi
   by_cases px:p x=true
   ·rw [if_pos px,if_pos (h x px)];simp;exact this
   ·rw [if_neg px]
    split
    ·simp;omega
    ·exact this
section
variable {P:Program} {md:Region.Mode} {ops:Array Oper} {Q:Exit→Act→World→Prop}
theorem mem_ready' {L:Array Bool} {i:Nat} (h:i∈Region.ready md ops L):i∈List.range ops.size∧L.getD i true=false∧∃ o,ops[i]? =some o∧∀ e∈o.after,Region.binds md e=true→L.getD e.on false=true:=by
 unfold Region.ready at h
 obtain ⟨h1,h2⟩:=List.mem_filter.1 h
 simp only [Bool.and_eq_true,Bool.not_eq_true'] at h2
 refine ⟨h1,h2.1,?_⟩
 cases ho:ops[i]? with
 |none=>rw [ho] at h2;simp at h2
 |some o=>
  refine ⟨o,rfl,λe he hb=> ?_⟩
  have h3:=h2.2
  rw [ho] at h3
  simp only [Option.map_some,Option.getD_some,Array.all_eq_true'] at h3
  have:=h3 e he
  simp only [hb,Bool.not_true,Bool.false_or] at this
  exact this
theorem wpAny_inv {I:Array Bool→Act→World→Prop} (hend:∀ L a X,I L a X→Region.ready md ops L=[]→Q .normal a X)
  (hstep:∀ L a X,I L a X→∀ i o,ops[i]? =some o→L.getD i true=false→(∀ e∈o.after,Region.binds md e=true→L.getD e.on false=true)→
    if Region.wanted o (yielded ops a.tmps)=true then Oper.wp P o a X (I (L.setIfInBounds i true)) Q else I (L.setIfInBounds i true) (a.put o.dst undef) X):
  ∀ (n:Nat) (L:Array Bool) (a:Act) (X:World),I L a X→L.size=ops.size→undone ops L≤n→wpAny P md ops Q n L a X:=by
 intro n
 induction n with
 |zero=>
  intro L a X h hs hn
  have e:Region.ready md ops L=[]:=by
   cases hr:Region.ready md ops L with
   |nil=>rfl
   |cons i l=>
    obtain ⟨h1,h2,_⟩:=mem_ready' (show i∈Region.ready md ops L by rw [hr];exact List.mem_cons_self)
    have:i∈(List.range ops.size).filter λi=> !L.getD i true:=List.mem_filter.2 ⟨h1,by rw [h2];rfl⟩
    have:=List.length_pos_of_mem this
    unfold undone at hn
    omega
  exact ⟨e,hend L a X h e⟩
 |succ n ih=>
  intro L a X h hs hn
  refine ⟨λe=>hend L a X h e,λi hi=> ?_⟩
  obtain ⟨h1,h2,o,ho,h3⟩:=mem_ready' hi
  have hiS:i<L.size:=by rw [hs];exact List.mem_range.1 h1
  refine wpOp_mono (K:=I (L.setIfInBounds i true)) (λa' X' h'=>ih _ _ _ h' (by rw [Array.size_setIfInBounds];exact hs) ?_) ?_
  ·have:undone ops (L.setIfInBounds i true)<undone ops L:=by
    unfold undone
    refine filter_less (i:=i) (λj hj=> ?_) h1 (by rw [h2];rfl) ?_
    ·by_cases e:i=j
     ·subst e;rw [h2];rfl
     ·have:(L.setIfInBounds i true).getD j true=L.getD j true:=by
       simp only [Array.getD_eq_getD_getElem?,Array.getElem?_setIfInBounds,if_neg e]
      rw [this] at hj;exact hj
    ·have:(L.setIfInBounds i true).getD i true=true:=by
      simp [Array.getD_eq_getD_getElem?,hiS]
     rw [this];rfl
   omega
  ·have:=hstep L a X h i o ho h2 h3
   unfold wpOp
   rw [ho]
   dsimp only
   split
   ·rename_i hw;rw [if_pos hw] at this;exact .inl this
   ·rename_i hw;rw [if_neg hw] at this;exact this
def aheadB (ops:Array Oper):Bool:=(List.range ops.size).all λi=>((ops[i]?).map λo=>o.after.all λe=>decide (e.on<i)).getD true
theorem ready_nil {L:Array Bool} (ha:aheadB ops=true) (hs:L.size=ops.size) (h:Region.ready md ops L=[]):∀ i,L.getD i true=true:=by
 intro i
 induction i using Nat.strongRecOn with
 |_ i ih=>
  cases hl:L.getD i true with
  |true=>rfl
  |false=>
   exfalso
   have hi:i<L.size:=by
    rcases Nat.lt_or_ge i L.size with q|q
    ·exact q
    ·rw [Array.getD_eq_getD_getElem?,Array.getElem?_eq_none q] at hl;cases hl
   have hi2:i<ops.size:=by omega
   have hm:i∈Region.ready md ops L:=by
    unfold Region.ready
    refine List.mem_filter.2 ⟨List.mem_range.2 hi2,?_⟩
    rw [hl,Array.getElem?_eq_getElem hi2]
    simp only [Bool.not_false,Bool.true_and,Option.map_some,Option.getD_some,Array.all_eq_true']
    intro e he
    have h1:=List.all_eq_true.1 ha i (List.mem_range.2 hi2)
    rw [Array.getElem?_eq_getElem hi2] at h1
    simp only [Option.map_some,Option.getD_some,Array.all_eq_true'] at h1
    have h2:e.on<i:=of_decide_eq_true (h1 e he)
    have h3:=ih e.on h2
    have h4:L.getD e.on false=true:=by
     rw [Array.getD_eq_getD_getElem?] at h3 ⊢
     rw [Array.getElem?_eq_getElem (by omega)] at h3 ⊢
     exact h3
    rw [h4];simp
   rw [h] at hm
   cases hm
theorem wpAny_inv' {I:Array Bool→Act→World→Prop} (hend:∀ L a X,I L a X→(∀ i,L.getD i true=true)→Q .normal a X)
  (hstep:∀ L a X,I L a X→∀ i o,ops[i]? =some o→L.getD i true=false→(∀ e∈o.after,Region.binds md e=true→L.getD e.on false=true)→
    ∀ K':Act→World→Prop,(∀ a' X',I (L.setIfInBounds i true) a' X'→K' a' X')→if Region.wanted o (yielded ops a.tmps)=true then Oper.wp P o a X K' Q else K' (a.put o.dst undef) X)
  (n:Nat) (L:Array Bool) (a:Act) (X:World) (h:I L a X) (hs:L.size=ops.size) (ha:(aheadB ops&&decide (undone ops L≤n))=true):wpAny P md ops Q n L a X:=by
 rw [Bool.and_eq_true] at ha
 refine wpAny_inv (I:=λL a X=>I L a X∧L.size=ops.size) (λL a X q e=>hend L a X q.1 (ready_nil ha.1 q.2 e)) (λL a X q i o ho hl hr=> ?_) n L a X ⟨h,hs⟩ hs (of_decide_eq_true ha.2)
 exact hstep L a X q.1 i o ho hl hr _ λa' X' h'=>⟨h',by rw [Array.size_setIfInBounds];exact q.2⟩
end
theorem getD_sets (L:Array Bool) (i:Nat):(λj=>(L.setIfInBounds i true).getD j true)=upd (λj=>L.getD j true) i true:=by
 funext j
 simp only [Array.getD_eq_getD_getElem?,Array.getElem?_setIfInBounds]
 by_cases e:j=i
 ·subst e
  rw [upd_same]
  by_cases h:j<L.size
  ·simp [h]
  ·simp [h]
 ·rw [upd_other _ _ e,if_neg (λq=>e q.symm)]
theorem getD_ft {L:Array Bool} {j:Nat} (h:L.getD j false=true):L.getD j true=true:=by
 rw [Array.getD_eq_getD_getElem?] at h ⊢
 cases e:L[j]? with
 |none=>rfl
 |some x=>rw [e] at h;exact h
theorem rin_any {K:Int} (hK:K=1∨K=3∨K=4) (n:Nat) (n1:1≤n) (n2:n≤64) (a:Int) (w:World):Calls prog 67 #[.int .i64 K,.int .i64 (n:Int),.int .i64 a] w (RinPost w K n a):=by
 rcases hK with rfl|rfl|rfl
 ·exact rin_tk n n2 a w
 ·exact rin_cl n n1 n2 a w
 ·exact rin_mc n n2 a w
theorem Rp.four (R:Rp):∃ (κ:Int) (p1 p2 p3:Option Addr),R.cells= #[.int .i64 κ,.pointer p1,.pointer p2,.pointer p3]:=by
 cases R
 ·exact ⟨_,_,_,_,rfl⟩
 ·exact ⟨_,_,_,_,rfl⟩
 ·exact ⟨_,_,_,_,rfl⟩
theorem getD_set_at (L:Array Bool) (i j:Nat):(L.setIfInBounds i true).getD j true=if j=i then true else L.getD j true:=by
 have:=congrFun (getD_sets L i) j
 rw [this]
 by_cases e:j=i
 ·subst e;rw [upd_same,if_pos rfl]
 ·rw [upd_other _ _ e,if_neg e]
abbrev zr (n:Nat):Array Value:=rowB n λ_=> .int .i64 0
def objA (r:Nat) (B:Int) (b5 b7 n:Nat):Array Value:= #[.pointer (some ⟨r,0,none⟩),.int .i64 0,.int .i64 B,.int .i64 0,.pointer none,.pointer none,.pointer none,.int .i64 0,.pointer none,.pointer none,.pointer none,.int .i64 0,.pointer none,.pointer none,.pointer none,.int .i64 0,.pointer none,.pointer none,.pointer none,.int .i64 0,.pointer none,.pointer none,.pointer none,.int .i64 0,.pointer none,.pointer none,.pointer none,.int .i64 0,.pointer none,.pointer none,.pointer none,.int .i64 0,.pointer none,.pointer none,.pointer none,.int .i64 0,.pointer none,.pointer none,.pointer none,.slice none 0 0,.slice none 0 0,.slice (some ⟨b5,0,none⟩) n n,.slice (some ⟨b7,0,none⟩) n n,.int .i64 0]
theorem objA_eq (r:Nat) (B:Int) (b5 b7 n:Nat):objA r B b5 b7 n=rowB 44 (oC r 0 B zin (λ_=>zin) (.slice none 0 0) (.slice none 0 0) (.slice (some ⟨b5,0,none⟩) n n) (.slice (some ⟨b7,0,none⟩) n n) 0):=rfl
structure NwC (n:Nat) (B:Int) (w X:World) (l0 l1 l2 l3 l4 l5 l6 l7 l8 l9 l10:Bool) (v12 v20 v21 v22 v23 v24 v25 v26 v27 v28 v29:Value) (rb r b5 b7:Nat) (hv dv:Value):Prop where
 wr:Wr Nil w X
 m0:l0=true→v20= .int .i64 n
 m2:l2=true→v22= .int .i64 0
 m3:l3=true→v23= .int .i64 B
 m4:l4=true→v24= .int .i64 n
 m6:l6=true→v26= .int .i64 n
 k1:l1=true→v21= .pointer (some ⟨r,0,none⟩)∧RsAt X r hv dv (newSeat n false false)∧∀ k,SF r hv dv k→w.heap.size≤k∧(l5=true→k≠b5)∧(l7=true→k≠b7)
 k5:l5=true→v25= .slice (some ⟨b5,0,none⟩) n n∧w.heap.size≤b5∧X.heap[b5]? =some (.cells (zr n) 3 (0,0))
 k7:l7=true→v27= .slice (some ⟨b7,0,none⟩) n n∧w.heap.size≤b7∧X.heap[b7]? =some (.cells (zr n) 3 (0,0))
 ne:l5=true→l7=true→b5≠b7
 k8:l8=true→l1=true∧l2=true∧l3=true∧l5=true∧l7=true∧v28= .agg (objA r B b5 b7 n)
 k9:l9=true→l8=true∧v29= .pointer (some ⟨rb,0,none⟩)∧X.heap[rb]? =some (.cells (objA r B b5 b7 n) 108 (0,0))∧w.heap.size≤rb∧b5≠rb∧b7≠rb∧∀ k,SF r hv dv k→k≠rb
 k10:l10=true→l9=true∧v12=v29
namespace NwC
variable {n:Nat} {B:Int} {w X Y:World} {l0 l1 l2 l3 l4 l5 l6 l7 l8 l9 l10:Bool} {v12 v20 v21 v22 v23 v24 v25 v26 v27 v28 v29:Value} {rb r b5 b7:Nat} {hv dv:Value}
theorem mv0 (h:NwC n B w X l0 l1 l2 l3 l4 l5 l6 l7 l8 l9 l10 v12 v20 v21 v22 v23 v24 v25 v26 v27 v28 v29 rb r b5 b7 hv dv):NwC n B w X true l1 l2 l3 l4 l5 l6 l7 l8 l9 l10 v12 (.int .i64 n) v21 v22 v23 v24 v25 v26 v27 v28 v29 rb r b5 b7 hv dv:=⟨h.wr,λ_=>rfl,h.m2,h.m3,h.m4,h.m6,h.k1,h.k5,h.k7,h.ne,h.k8,h.k9,h.k10⟩
theorem mv2 (h:NwC n B w X l0 l1 l2 l3 l4 l5 l6 l7 l8 l9 l10 v12 v20 v21 v22 v23 v24 v25 v26 v27 v28 v29 rb r b5 b7 hv dv):NwC n B w X l0 l1 true l3 l4 l5 l6 l7 l8 l9 l10 v12 v20 v21 (.int .i64 0) v23 v24 v25 v26 v27 v28 v29 rb r b5 b7 hv dv:=⟨h.wr,h.m0,λ_=>rfl,h.m3,h.m4,h.m6,h.k1,h.k5,h.k7,h.ne,λe=>⟨(h.k8 e).1,rfl,(h.k8 e).2.2⟩,h.k9,h.k10⟩
theorem mv3 (h:NwC n B w X l0 l1 l2 l3 l4 l5 l6 l7 l8 l9 l10 v12 v20 v21 v22 v23 v24 v25 v26 v27 v28 v29 rb r b5 b7 hv dv):NwC n B w X l0 l1 l2 true l4 l5 l6 l7 l8 l9 l10 v12 v20 v21 v22 (.int .i64 B) v24 v25 v26 v27 v28 v29 rb r b5 b7 hv dv:=⟨h.wr,h.m0,h.m2,λ_=>rfl,h.m4,h.m6,h.k1,h.k5,h.k7,h.ne,λe=>⟨(h.k8 e).1,(h.k8 e).2.1,rfl,(h.k8 e).2.2.2⟩,h.k9,h.k10⟩
theorem mv4 (h:NwC n B w X l0 l1 l2 l3 l4 l5 l6 l7 l8 l9 l10 v12 v20 v21 v22 v23 v24 v25 v26 v27 v28 v29 rb r b5 b7 hv dv):NwC n B w X l0 l1 l2 l3 true l5 l6 l7 l8 l9 l10 v12 v20 v21 v22 v23 (.int .i64 n) v25 v26 v27 v28 v29 rb r b5 b7 hv dv:=⟨h.wr,h.m0,h.m2,h.m3,λ_=>rfl,h.m6,h.k1,h.k5,h.k7,h.ne,h.k8,h.k9,h.k10⟩
theorem mv6 (h:NwC n B w X l0 l1 l2 l3 l4 l5 l6 l7 l8 l9 l10 v12 v20 v21 v22 v23 v24 v25 v26 v27 v28 v29 rb r b5 b7 hv dv):NwC n B w X l0 l1 l2 l3 l4 l5 true l7 l8 l9 l10 v12 v20 v21 v22 v23 v24 v25 (.int .i64 n) v27 v28 v29 rb r b5 b7 hv dv:=⟨h.wr,h.m0,h.m2,h.m3,h.m4,λ_=>rfl,h.k1,h.k5,h.k7,h.ne,h.k8,h.k9,h.k10⟩
theorem mk5 {A:Array Value} (hA:zr n=A) (h:NwC n B w X l0 l1 l2 l3 l4 l5 l6 l7 l8 l9 l10 v12 v20 v21 v22 v23 v24 v25 v26 v27 v28 v29 rb r b5 b7 hv dv) (hl:l5=false):NwC n B w (X.alloc (.cells A 3)) l0 l1 l2 l3 l4 true l6 l7 l8 l9 l10 v12 v20 v21 v22 v23 v24 (.slice (some ⟨X.heap.size,0,none⟩) n n) v26 v27 v28 v29 rb r X.heap.size b7 hv dv:=by
 subst hA
 have k:Wr Nil X (X.alloc (.cells (zr n) 3)):=(Wr.refl _ X).alloc _
 have n8:l8=true→False:=λe=>by have:=(h.k8 e).2.2.2.1;rw [hl] at this;cases this
 refine ⟨h.wr.nil k,h.m0,h.m2,h.m3,h.m4,h.m6,λe=> ?_,λ_=>⟨rfl,h.wr.size,blk_alloc_new _ _⟩,λe=>⟨(h.k7 e).1,(h.k7 e).2.1,(k.block _ (blk_lt (h.k7 e).2.2) id).trans (h.k7 e).2.2⟩,?_,λe=>(n8 e).elim,λe=>(n8 (h.k9 e).1).elim,h.k10⟩
 ·obtain ⟨a,b,c⟩:=h.k1 e
  exact ⟨a,b.wrote k λ_ _=>id,λj hj=>⟨(c j hj).1,λ_=>by have:=SrAt.lt b hj;omega,(c j hj).2.2⟩⟩
 ·exact λ_ e=>by have:=blk_lt (h.k7 e).2.2;omega
theorem mk7 {A:Array Value} (hA:zr n=A) (h:NwC n B w X l0 l1 l2 l3 l4 l5 l6 l7 l8 l9 l10 v12 v20 v21 v22 v23 v24 v25 v26 v27 v28 v29 rb r b5 b7 hv dv) (hl:l7=false):NwC n B w (X.alloc (.cells A 3)) l0 l1 l2 l3 l4 l5 l6 true l8 l9 l10 v12 v20 v21 v22 v23 v24 v25 v26 (.slice (some ⟨X.heap.size,0,none⟩) n n) v28 v29 rb r b5 X.heap.size hv dv:=by
 subst hA
 have k:Wr Nil X (X.alloc (.cells (zr n) 3)):=(Wr.refl _ X).alloc _
 have n8:l8=true→False:=λe=>by have:=(h.k8 e).2.2.2.2.1;rw [hl] at this;cases this
 refine ⟨h.wr.nil k,h.m0,h.m2,h.m3,h.m4,h.m6,λe=> ?_,λe=>⟨(h.k5 e).1,(h.k5 e).2.1,(k.block _ (blk_lt (h.k5 e).2.2) id).trans (h.k5 e).2.2⟩,λ_=>⟨rfl,h.wr.size,blk_alloc_new _ _⟩,?_,λe=>(n8 e).elim,λe=>(n8 (h.k9 e).1).elim,h.k10⟩
 ·obtain ⟨a,b,c⟩:=h.k1 e
  exact ⟨a,b.wrote k λ_ _=>id,λj hj=>⟨(c j hj).1,(c j hj).2.1,λ_=>by have:=SrAt.lt b hj;omega⟩⟩
 ·exact λe _=>by have:=blk_lt (h.k5 e).2.2;omega
theorem cl1 (h:NwC n B w X l0 l1 l2 l3 l4 l5 l6 l7 l8 l9 l10 v12 v20 v21 v22 v23 v24 v25 v26 v27 v28 v29 rb r b5 b7 hv dv) (hl:l1=false) {r':Nat} {hv' dv':Value} (hS:RsAt Y r' hv' dv' (newSeat n false false)) (hn:∀ k,SF r' hv' dv' k→X.heap.size≤k) (k:Wr Nil X Y):NwC n B w Y l0 true l2 l3 l4 l5 l6 l7 l8 l9 l10 v12 v20 (.pointer (some ⟨r',0,none⟩)) v22 v23 v24 v25 v26 v27 v28 v29 rb r' b5 b7 hv' dv':=by
 have n8:l8=true→False:=λe=>by have:=(h.k8 e).1;rw [hl] at this;cases this
 refine ⟨h.wr.nil k,h.m0,h.m2,h.m3,h.m4,h.m6,λ_=>⟨rfl,hS,λj hj=>⟨Nat.le_trans h.wr.size (hn j hj),λe=> ?_,λe=> ?_⟩⟩,λe=>⟨(h.k5 e).1,(h.k5 e).2.1,(k.block _ (blk_lt (h.k5 e).2.2) id).trans (h.k5 e).2.2⟩,λe=>⟨(h.k7 e).1,(h.k7 e).2.1,(k.block _ (blk_lt (h.k7 e).2.2) id).trans (h.k7 e).2.2⟩,h.ne,λe=>(n8 e).elim,λe=>(n8 (h.k9 e).1).elim,h.k10⟩
 ·have:=blk_lt (h.k5 e).2.2;have:=hn j hj;omega
 ·have:=blk_lt (h.k7 e).2.2;have:=hn j hj;omega
theorem bd (h:NwC n B w X l0 l1 l2 l3 l4 l5 l6 l7 l8 l9 l10 v12 v20 v21 v22 v23 v24 v25 v26 v27 v28 v29 rb r b5 b7 hv dv) (hl:l8=false) (e1:l1=true) (e2:l2=true) (e3:l3=true) (e5:l5=true) (e7:l7=true):NwC n B w X l0 l1 l2 l3 l4 l5 l6 l7 true l9 l10 v12 v20 v21 v22 v23 v24 v25 v26 v27 (.agg (objA r B b5 b7 n)) v29 rb r b5 b7 hv dv:=
 ⟨h.wr,h.m0,h.m2,h.m3,h.m4,h.m6,h.k1,h.k5,h.k7,h.ne,λ_=>⟨e1,e2,e3,e5,e7,rfl⟩,λe=>(by have:=(h.k9 e).1;rw [hl] at this;cases this),h.k10⟩
theorem bx (h:NwC n B w X l0 l1 l2 l3 l4 l5 l6 l7 l8 l9 l10 v12 v20 v21 v22 v23 v24 v25 v26 v27 v28 v29 rb r b5 b7 hv dv) (hl:l9=false) (e8:l8=true):NwC n B w (X.alloc (.cells (objA r B b5 b7 n) 108)) l0 l1 l2 l3 l4 l5 l6 l7 l8 true l10 v12 v20 v21 v22 v23 v24 v25 v26 v27 v28 (.pointer (some ⟨X.heap.size,0,none⟩)) X.heap.size r b5 b7 hv dv:=by
 have k:Wr Nil X (X.alloc (.cells (objA r B b5 b7 n) 108)):=(Wr.refl _ X).alloc _
 obtain ⟨e1,e2,e3,e5,e7,_⟩:=h.k8 e8
 obtain ⟨a,b,c⟩:=h.k1 e1
 refine ⟨h.wr.nil k,h.m0,h.m2,h.m3,h.m4,h.m6,λe=>⟨a,b.wrote k λ_ _=>id,c⟩,λe=>⟨(h.k5 e).1,(h.k5 e).2.1,(k.block _ (blk_lt (h.k5 e).2.2) id).trans (h.k5 e).2.2⟩,λe=>⟨(h.k7 e).1,(h.k7 e).2.1,(k.block _ (blk_lt (h.k7 e).2.2) id).trans (h.k7 e).2.2⟩,h.ne,h.k8,λe=>⟨e8,rfl,blk_alloc_new _ _,h.wr.size,?_,?_,λj hj=> ?_⟩,λe=>by have:=(h.k10 e).1;rw [hl] at this;cases this⟩
 ·have:=blk_lt (h.k5 e5).2.2;omega
 ·have:=blk_lt (h.k7 e7).2.2;omega
 ·have:=SrAt.lt b hj;omega
theorem ass (h:NwC n B w X l0 l1 l2 l3 l4 l5 l6 l7 l8 l9 l10 v12 v20 v21 v22 v23 v24 v25 v26 v27 v28 v29 rb r b5 b7 hv dv) (e9:l9=true):NwC n B w X l0 l1 l2 l3 l4 l5 l6 l7 l8 l9 true v29 v20 v21 v22 v23 v24 v25 v26 v27 v28 v29 rb r b5 b7 hv dv:=
 ⟨h.wr,h.m0,h.m2,h.m3,h.m4,h.m6,h.k1,h.k5,h.k7,h.ne,h.k8,h.k9,λ_=>⟨e9,rfl⟩⟩
end NwC
section
variable {sr:Nat} {a B:Int} {g g':Array Value} {l l':Nat→Array Value} {v2 v3 v4 v5:Value} {sz:Int} {i:Nat}
theorem oC_g (h:¬ (3≤i∧i<7)):oC sr a B g l v2 v3 v4 v5 sz i=oC sr a B g' l v2 v3 v4 v5 sz i:=by
 unfold oC
 by_cases e0:i=0
 ·rw [if_pos e0,if_pos e0]
 by_cases e1:i=1
 ·rw [if_neg e0,if_neg e0,if_pos e1,if_pos e1]
 by_cases e2:i=2
 ·rw [if_neg e0,if_neg e0,if_neg e1,if_neg e1,if_pos e2,if_pos e2]
 have e7:¬ i<7:=by omega
 rw [if_neg e0,if_neg e0,if_neg e1,if_neg e1,if_neg e2,if_neg e2,if_neg e7,if_neg e7]
theorem oC_l (h:7≤i→i<39→l ((i-7)/4)=l' ((i-7)/4)):oC sr a B g l v2 v3 v4 v5 sz i=oC sr a B g l' v2 v3 v4 v5 sz i:=by
 unfold oC
 by_cases e0:i=0
 ·rw [if_pos e0,if_pos e0]
 by_cases e1:i=1
 ·rw [if_neg e0,if_neg e0,if_pos e1,if_pos e1]
 by_cases e2:i=2
 ·rw [if_neg e0,if_neg e0,if_neg e1,if_neg e1,if_pos e2,if_pos e2]
 by_cases e7:i<7
 ·rw [if_neg e0,if_neg e0,if_neg e1,if_neg e1,if_neg e2,if_neg e2,if_pos e7,if_pos e7]
 by_cases e39:i<39
 ·rw [if_neg e0,if_neg e0,if_neg e1,if_neg e1,if_neg e2,if_neg e2,if_neg e7,if_neg e7,if_pos e39,if_pos e39,h (by omega) e39]
 ·rw [if_neg e0,if_neg e0,if_neg e1,if_neg e1,if_neg e2,if_neg e2,if_neg e7,if_neg e7,if_neg e39,if_neg e39]
theorem oC_in {c j:Nat} (hc:c<8) (hj:j<4):oC sr a B g l v2 v3 v4 v5 sz (7+c*4+j)=(l c).getD j undef:=by
 unfold oC
 rw [if_neg (by omega),if_neg (by omega),if_neg (by omega),if_neg (by omega),if_pos (by omega),show (7+c*4+j-7)/4=c by omega,show (7+c*4+j-7)%4=j by omega]
end
def oo (o:Option Rp):Array Value:=match o with
 |some R=>R.cells
 |none=>zin
theorem oo_if (x:Option Rp) (R:Rp):(if x.isSome=true then (x.getD R).cells else zin)=oo x:=by cases x<;>rfl
structure Rs where
 rb:Nat
 r:Nat
 b5:Nat
 b7:Nat
 cb:Nat
 hv:Value
 dv:Value
 v2:Value
 v3:Value
 g:Option Rp
 l:Nat→Option Rp
 sz:Int
namespace Rs
def oc (q:Rs) (n:Nat) (B:Int):Nat→Value:=oC q.r 0 B (oo q.g) (λc=>oo (q.l c)) q.v2 q.v3 (.slice (some ⟨q.b5,0,none⟩) n n) (.slice (some ⟨q.b7,0,none⟩) n n) q.sz
def Pt (q:Rs):Nat→Nat→Prop
 |0,k=>k=q.rb
 |1,k=>SF q.r q.hv q.dv k
 |2,k=>q.v2.ownBlock=some k
 |3,k=>q.v3.ownBlock=some k
 |4,k=>k=q.b5
 |5,k=>k=q.b7
 |6,k=>∃ R,q.g=some R∧(k=R.r∨R.F k)
 |7,k=>k=q.cb
 |c+8,k=>c<8∧∃ R,q.l c=some R∧(k=R.r∨R.F k)
end Rs
structure RnS (w X:World) (n:Nat) (B G K:Int) (q:Rs) (xs ys:List Nat) (cn:Nat→Nat):Prop where
 wr:Wr Nil w X
 obj:X.heap[q.rb]? =some (.cells (rowB 44 (q.oc n B)) 108 (0,0))
 seat:RsAt X q.r q.hv q.dv (newSeat n false false)
 r5:X.heap[q.b5]? =some (.cells (zr n) 3 (0,0))
 r7:X.heap[q.b7]? =some (.cells (zr n) 3 (0,0))
 cnt:X.heap[q.cb]? =some (.cells (rowB 8 λc=>natV (cn c)) 167 (0,0))
 q2:RowQ X q.v2 (xs.map natV)
 q3:RowQ X q.v3 (ys.map natV)
 gat:∀ R,q.g=some R→R.a=8∧∀ ps,R.At X (newInn G 8 ps)
 lat:∀ c R,c<8→q.l c=some R→R.a=((8+inZ G 8+lZ K cn c:Nat):Int)∧∀ ps,R.At X (newInn K (cn c) ps)
 ap:Ap q.Pt w.heap.size X.heap.size
namespace RnS
variable {w X Y:World} {n:Nat} {B G K:Int} {q:Rs} {xs ys:List Nat} {cn:Nat→Nat}
theorem side (h:RnS w X n B G K q xs ys cn) {S:Nat→Prop} (k:Wr S X Y) (j:Nat) (hS:∀ b,S b→q.Pt 0 b∨q.Pt j b):
  (j≠1→RsAt Y q.r q.hv q.dv (newSeat n false false))∧(j≠4→Y.heap[q.b5]? =some (.cells (zr n) 3 (0,0)))∧(j≠5→Y.heap[q.b7]? =some (.cells (zr n) 3 (0,0)))∧
  (j≠7→Y.heap[q.cb]? =some (.cells (rowB 8 λc=>natV (cn c)) 167 (0,0)))∧(j≠2→RowQ Y q.v2 (xs.map natV))∧(j≠3→RowQ Y q.v3 (ys.map natV))∧
  (j≠6→∀ R,q.g=some R→R.a=8∧∀ ps,R.At Y (newInn G 8 ps))∧(j<8→∀ c R,c<8→q.l c=some R→R.a=((8+inZ G 8+lZ K cn c:Nat):Int)∧∀ ps,R.At Y (newInn K (cn c) ps))∧Wr Nil w Y:=by
 have hn:∀ i b,i≠0→i≠j→q.Pt i b→¬ S b:=λi b i0 ij hb hs=>by
  rcases hS b hs with e|e
  ·exact i0 (h.ap.ap i 0 b hb e)
  ·exact ij (h.ap.ap i j b hb e)
 refine ⟨λe=>h.seat.wrote k λb hb=>hn 1 b (by decide) (Ne.symm e) hb,λe=>(k.block _ (blk_lt h.r5) (hn 4 _ (by decide) (Ne.symm e) rfl)).trans h.r5,λe=>(k.block _ (blk_lt h.r7) (hn 5 _ (by decide) (Ne.symm e) rfl)).trans h.r7,
  λe=>(k.block _ (blk_lt h.cnt) (hn 7 _ (by decide) (Ne.symm e) rfl)).trans h.cnt,λe=>h.q2.wrote k λb hb=>hn 2 b (by decide) (Ne.symm e) hb,λe=>h.q3.wrote k λb hb=>hn 3 b (by decide) (Ne.symm e) hb,
  λe R hR=>⟨(h.gat R hR).1,λps=>((h.gat R hR).2 ps).apart k (hn 6 _ (by decide) (Ne.symm e) ⟨R,hR,.inl rfl⟩) λb hb=>hn 6 b (by decide) (Ne.symm e) ⟨R,hR,.inr hb⟩⟩,
  λe c R hc hR=>⟨(h.lat c R hc hR).1,λps=>((h.lat c R hc hR).2 ps).apart k (hn (c+8) _ (by omega) (by omega) ⟨hc,R,hR,.inl rfl⟩) λb hb=>hn (c+8) b (by omega) (by omega) ⟨hc,R,hR,.inr hb⟩⟩,
  h.wr.trans k λb hb e=> ?_⟩
 rcases hS b e with e|e
 ·have:=h.ap.lo 0 b e;omega
 ·have:=h.ap.lo j b e;omega
theorem after (h:RnS w X n B G K q xs ys cn) (k:Wr Nil X Y):RnS w Y n B G K q xs ys cn:=
 ⟨h.wr.nil k,(k.block _ (blk_lt h.obj) id).trans h.obj,h.seat.wrote k λ_ _=>id,(k.block _ (blk_lt h.r5) id).trans h.r5,(k.block _ (blk_lt h.r7) id).trans h.r7,(k.block _ (blk_lt h.cnt) id).trans h.cnt,h.q2.wrote k λ_ _=>id,h.q3.wrote k λ_ _=>id,
   λR hR=>⟨(h.gat R hR).1,λps=>((h.gat R hR).2 ps).after k⟩,λc R hc hR=>⟨(h.lat c R hc hR).1,λps=>((h.lat c R hc hR).2 ps).after k⟩,h.ap.up k.size⟩
theorem oc39 (v':Value):rowB 44 (upd (q.oc n B) 39 v')=rowB 44 (Rs.oc {q with v2:=v'} n B):=rowB_congr λi hi=>by
 by_cases e:i=39
 ·subst e;rw [upd_same];rfl
 ·rw [upd_other _ _ e];unfold Rs.oc oC;dsimp only;repeat' split
  all_goals first|rfl|omega
theorem oc40 (v':Value):rowB 44 (upd (q.oc n B) 40 v')=rowB 44 (Rs.oc {q with v3:=v'} n B):=rowB_congr λi hi=>by
 by_cases e:i=40
 ·subst e;rw [upd_same];rfl
 ·rw [upd_other _ _ e];unfold Rs.oc oC;dsimp only;repeat' split
  all_goals first|rfl|omega
theorem oc43 (z:Int):rowB 44 (upd (q.oc n B) 43 (.int .i64 z))=rowB 44 (Rs.oc {q with sz:=z} n B):=rowB_congr λi hi=>by
 by_cases e:i=43
 ·subst e;rw [upd_same];rfl
 ·rw [upd_other _ _ e];unfold Rs.oc oC;dsimp only;repeat' split
  all_goals first|rfl|omega
theorem push2 (h:RnS w X n B G K q xs ys cn) {x:Nat} {v':Value} (hp:PushQ X Y q.v2 v' (xs.map natV) (natV x)):RnS w (Y.setCell ⟨q.rb,39,none⟩ v') n B G K {q with v2:=v'} (xs++[x]) ys cn:=by
 have k2:Wr (One q.rb) Y (Y.setCell ⟨q.rb,39,none⟩ v'):=(Wr.refl _ Y).setCell _ _ λ_=>rfl
 have kk:Wr (λb=>q.Pt 0 b∨q.Pt 2 b) X (Y.setCell ⟨q.rb,39,none⟩ v'):=(hp.2.1.mono λb _ e=> .inr e).trans k2 λb _ e=> .inl e
 obtain ⟨s1,s4,s5,s7,s2,s3,s6,s8,s9⟩:=h.side kk 2 λb e=>e
 have o1:=(hp.2.1.block _ (blk_lt h.obj) λe=>absurd (h.ap.ap 0 2 q.rb rfl e) (by decide)).trans h.obj
 have hv:∀ b,v'.ownBlock=some b→q.Pt 2 b∨(X.heap.size≤b∧b<(Y.setCell ⟨q.rb,39,none⟩ v').heap.size):=λb hb=>by
  rcases hp.2.2 with e|e
  ·exact .inl (by show (q.v2).ownBlock=some b;rw [←e];exact hb)
  ·exact .inr ⟨e b hb,Nat.lt_of_lt_of_le (hp.1.lt b hb) k2.size⟩
 have hne:∀ b,v'.ownBlock=some b→¬ One q.rb b:=λb hb e=>by
  have e:b=q.rb:=e
  rcases hv b hb with x|x
  ·exact absurd (h.ap.ap 0 2 b e x) (by decide)
  ·have:=blk_lt h.obj;omega
 have hq:=hp.1.wrote k2 hne
 refine ⟨s9,?_,s1 (by decide),s4 (by decide),s5 (by decide),s7 (by decide),by rw [List.map_append];exact hq,s3 (by decide),s6 (by decide),s8 (by decide),?_⟩
 ·rw [blk_setCell o1,rowB_set,oc39]
 ·refine h.ap.turn h.wr.size kk.size 2 (λi b hi hb=> ?_) hv
  match i,hi,hb with
  |0,_,hb=>exact hb
  |1,_,hb=>exact hb
  |2,hi,hb=>exact absurd rfl hi
  |3,hi,hb=>exact hb
  |4,_,hb=>exact hb
  |5,_,hb=>exact hb
  |6,_,hb=>exact hb
  |7,_,hb=>exact hb
  |c+8,_,hb=>exact hb
theorem push3 (h:RnS w X n B G K q xs ys cn) {x:Nat} {v':Value} (hp:PushQ X Y q.v3 v' (ys.map natV) (natV x)):RnS w (Y.setCell ⟨q.rb,40,none⟩ v') n B G K {q with v3:=v'} xs (ys++[x]) cn:=by
 have k2:Wr (One q.rb) Y (Y.setCell ⟨q.rb,40,none⟩ v'):=(Wr.refl _ Y).setCell _ _ λ_=>rfl
 have kk:Wr (λb=>q.Pt 0 b∨q.Pt 3 b) X (Y.setCell ⟨q.rb,40,none⟩ v'):=(hp.2.1.mono λb _ e=> .inr e).trans k2 λb _ e=> .inl e
 obtain ⟨s1,s4,s5,s7,s2,s3,s6,s8,s9⟩:=h.side kk 3 λb e=>e
 have o1:=(hp.2.1.block _ (blk_lt h.obj) λe=>absurd (h.ap.ap 0 3 q.rb rfl e) (by decide)).trans h.obj
 have hv:∀ b,v'.ownBlock=some b→q.Pt 3 b∨(X.heap.size≤b∧b<(Y.setCell ⟨q.rb,40,none⟩ v').heap.size):=λb hb=>by
  rcases hp.2.2 with e|e
  ·exact .inl (by show (q.v3).ownBlock=some b;rw [←e];exact hb)
  ·exact .inr ⟨e b hb,Nat.lt_of_lt_of_le (hp.1.lt b hb) k2.size⟩
 have hne:∀ b,v'.ownBlock=some b→¬ One q.rb b:=λb hb e=>by
  have e:b=q.rb:=e
  rcases hv b hb with x|x
  ·exact absurd (h.ap.ap 0 3 b e x) (by decide)
  ·have:=blk_lt h.obj;omega
 have hq:=hp.1.wrote k2 hne
 refine ⟨s9,?_,s1 (by decide),s4 (by decide),s5 (by decide),s7 (by decide),s2 (by decide),by rw [List.map_append];exact hq,s6 (by decide),s8 (by decide),?_⟩
 ·rw [blk_setCell o1,rowB_set,oc40]
 ·refine h.ap.turn h.wr.size kk.size 3 (λi b hi hb=> ?_) hv
  match i,hi,hb with
  |0,_,hb=>exact hb
  |1,_,hb=>exact hb
  |2,hi,hb=>exact hb
  |3,hi,hb=>exact absurd rfl hi
  |4,_,hb=>exact hb
  |5,_,hb=>exact hb
  |6,_,hb=>exact hb
  |7,_,hb=>exact hb
  |c+8,_,hb=>exact hb
theorem count (h:RnS w X n B G K q xs ys cn) (hl:∀ c,q.l c=none) (c x:Nat) (hx:x=cn c+1):RnS w (X.setCell ⟨q.cb,c,none⟩ (natV x)) n B G K q xs ys (upd cn c (cn c+1)):=by
 have k:Wr (One q.cb) X (X.setCell ⟨q.cb,c,none⟩ (natV x)):=(Wr.refl _ X).setCell _ _ λ_=>rfl
 obtain ⟨s1,s4,s5,s7,s2,s3,s6,s8,s9⟩:=h.side k 7 λb e=> .inr e
 refine ⟨s9,(k.block _ (blk_lt h.obj) λe=>absurd (h.ap.ap 0 7 q.rb rfl e) (by decide)).trans h.obj,s1 (by decide),s4 (by decide),s5 (by decide),?_,s2 (by decide),s3 (by decide),s6 (by decide),λc R _ hR=> ?_,h.ap.up k.size⟩
 ·rw [blk_setCell h.cnt,rowB_set]
  congr 2
  refine rowB_congr λj _=> ?_
  by_cases e:j=c
  ·subst e;rw [upd_same,upd_same,hx]
  ·rw [upd_other _ _ e,upd_other _ _ e]
 ·rw [hl c] at hR;cases hR
theorem size (h:RnS w X n B G K q xs ys cn) (z:Int):RnS w (X.setCell ⟨q.rb,43,none⟩ (.int .i64 z)) n B G K {q with sz:=z} xs ys cn:=by
 have k:Wr (One q.rb) X (X.setCell ⟨q.rb,43,none⟩ (.int .i64 z)):=(Wr.refl _ X).setCell _ _ λ_=>rfl
 obtain ⟨s1,s4,s5,s7,s2,s3,s6,s8,s9⟩:=h.side k 0 λb e=> .inr e
 refine ⟨s9,by rw [blk_setCell h.obj,rowB_set,oc43],s1 (by decide),s4 (by decide),s5 (by decide),s7 (by decide),s2 (by decide),s3 (by decide),s6 (by decide),s8 (by decide),?_⟩
 refine h.ap.turn h.wr.size k.size 0 (λi b hi hb=> ?_) λb hb=> .inl hb
 match i,hi,hb with
 |0,_,hb=>exact hb
 |1,_,hb=>exact hb
 |2,_,hb=>exact hb
 |3,_,hb=>exact hb
 |4,_,hb=>exact hb
 |5,_,hb=>exact hb
 |6,_,hb=>exact hb
 |7,_,hb=>exact hb
 |c+8,_,hb=>exact hb
def set4B (Y:World) (b o:Nat) (x0 x1 x2 x3:Value):World:=(((Y.setCell ⟨b,o,none⟩ x0).setCell ⟨b,o+1,none⟩ x1).setCell ⟨b,o+2,none⟩ x2).setCell ⟨b,o+3,none⟩ x3
theorem set4B_wr (Y:World) (b o:Nat) (x0 x1 x2 x3:Value):Wr (One b) Y (set4B Y b o x0 x1 x2 x3):=((((Wr.refl (One b) Y).setCell ⟨b,o,none⟩ x0 λ_=>rfl).setCell ⟨b,o+1,none⟩ x1 λ_=>rfl).setCell ⟨b,o+2,none⟩ x2 λ_=>rfl).setCell ⟨b,o+3,none⟩ x3 λ_=>rfl
theorem set4B_blk {Y:World} {b m:Nat} {g:Nat→Value} {t:TypeId} (h:Y.heap[b]? =some (.cells (rowB m g) t (0,0))) (o:Nat) (x0 x1 x2 x3:Value):(set4B Y b o x0 x1 x2 x3).heap[b]? =some (.cells (rowB m (upd (upd (upd (upd g o x0) (o+1) x1) (o+2) x2) (o+3) x3)) t (0,0)):=by
 unfold set4B
 rw [blk_setCell (blk_setCell (blk_setCell (blk_setCell h _ _) _ _) _ _),rowB_set,rowB_set,rowB_set,rowB_set]
theorem setG (h:RnS w X n B G K q xs ys cn) (hg:q.g=none) {R:Rp} (hA:∀ ps,R.At Y (newInn G 8 ps)) (ha:R.a=8) (hr:X.heap.size≤R.r∧∀ k,R.F k→X.heap.size≤k) (k:Wr Nil X Y) {x0 x1 x2 x3:Value} (hc:R.cells= #[x0,x1,x2,x3]):
  RnS w (set4B Y q.rb 3 x0 x1 x2 x3) n B G K {q with g:=some R} xs ys cn:=by
 have h2:=h.after k
 have k2:=set4B_wr Y q.rb 3 x0 x1 x2 x3
 obtain ⟨s1,s4,s5,s7,s2,s3,s6,s8,s9⟩:=h2.side k2 0 λb e=> .inr e
 have hlt:=(hA ⟨[],[],[],[],[]⟩).lt
 have hrb:=blk_lt h.obj
 refine ⟨s9,?_,s1 (by decide),s4 (by decide),s5 (by decide),s7 (by decide),s2 (by decide),s3 (by decide),λR' hR=> ?_,s8 (by decide),?_⟩
 ·rw [set4B_blk h2.obj]
  congr 2
  refine rowB_congr λi hi=> ?_
  unfold Rs.oc
  dsimp only
  by_cases hin:3≤i∧i<7
  ·have e:i=3∨i=4∨i=5∨i=6:=by omega
   have ee:oo (some R)= #[x0,x1,x2,x3]:=hc
   rw [ee]
   rcases e with rfl|rfl|rfl|rfl<;>rfl
  ·rw [upd_other _ _ (by omega),upd_other _ _ (by omega),upd_other _ _ (by omega),upd_other _ _ (by omega)]
   exact oC_g hin
 ·cases hR
  exact ⟨ha,λps=>(hA ps).apart k2 (λe=>by unfold One at e;omega) λj hj e=>by have:=hr.2 j hj;unfold One at e;omega⟩
 ·refine h.ap.turn h.wr.size (Nat.le_trans k.size k2.size) 6 (λi b hi hb=> ?_) λb hb=> .inr ?_
  ·match i,hi,hb with
   |0,_,hb=>exact hb
   |1,_,hb=>exact hb
   |2,_,hb=>exact hb
   |3,_,hb=>exact hb
   |4,_,hb=>exact hb
   |5,_,hb=>exact hb
   |6,hi,hb=>exact absurd rfl hi
   |7,_,hb=>exact hb
   |c+8,_,hb=>exact hb
  ·obtain ⟨R',hR,hb⟩:=hb
   cases hR
   have:=k2.size
   rcases hb with rfl|hb
   ·omega
   ·have:=hr.2 b hb;have:=hlt.2 b hb;omega
theorem setL (h:RnS w X n B G K q xs ys cn) {c:Nat} (hc8:c<8) {R:Rp} (hA:∀ ps,R.At Y (newInn K (cn c) ps)) (ha:R.a=((8+inZ G 8+lZ K cn c:Nat):Int)) (hr:X.heap.size≤R.r∧∀ k,R.F k→X.heap.size≤k) (k:Wr Nil X Y) {x0 x1 x2 x3:Value} (hc:R.cells= #[x0,x1,x2,x3]):
  RnS w (set4B Y q.rb (7+c*4) x0 x1 x2 x3) n B G K {q with l:=upd q.l c (some R)} xs ys cn:=by
 have h2:=h.after k
 have k2:=set4B_wr Y q.rb (7+c*4) x0 x1 x2 x3
 obtain ⟨s1,s4,s5,s7,s2,s3,s6,s8,s9⟩:=h2.side k2 0 λb e=> .inr e
 have hlt:=(hA ⟨[],[],[],[],[]⟩).lt
 have hrb:=blk_lt h.obj
 refine ⟨s9,?_,s1 (by decide),s4 (by decide),s5 (by decide),s7 (by decide),s2 (by decide),s3 (by decide),s6 (by decide),λd R' hd hR=> ?_,?_⟩
 ·rw [set4B_blk h2.obj]
  congr 2
  refine rowB_congr λi hi=> ?_
  unfold Rs.oc
  dsimp only
  have ee:oo (upd q.l c (some R) c)= #[x0,x1,x2,x3]:=by rw [upd_same];exact hc
  by_cases hin:7+c*4≤i∧i<7+c*4+4
  ·by_cases e6:i=7+c*4+3
   ·rw [e6,upd_same,oC_in hc8 (by decide),ee];rfl
   rw [upd_other _ _ e6]
   by_cases e5:i=7+c*4+2
   ·rw [e5,upd_same,oC_in hc8 (by decide),ee];rfl
   rw [upd_other _ _ e5]
   by_cases e4:i=7+c*4+1
   ·rw [e4,upd_same,oC_in hc8 (by decide),ee];rfl
   rw [upd_other _ _ e4]
   have e3:i=7+c*4:=by omega
   subst e3
   rw [upd_same]
   have q0:=oC_in (sr:=q.r) (a:=0) (B:=B) (g:=oo q.g) (l:=λd=>oo (upd q.l c (some R) d)) (v2:=q.v2) (v3:=q.v3) (v4:= .slice (some ⟨q.b5,0,none⟩) n n) (v5:= .slice (some ⟨q.b7,0,none⟩) n n) (sz:=q.sz) hc8 (show 0<4 by decide)
   rw [Nat.add_zero] at q0
   rw [q0,ee];rfl
  ·rw [upd_other _ _ (by omega),upd_other _ _ (by omega),upd_other _ _ (by omega),upd_other _ _ (by omega)]
   exact oC_l λh7 h39=>by rw [upd_other _ _ (by omega)]
 ·by_cases e:d=c
  ·subst e
   have hR:upd q.l d (some R) d=some R':=hR
   rw [upd_same] at hR
   cases hR
   exact ⟨ha,λps=>(hA ps).apart k2 (λe=>by unfold One at e;omega) λj hj e=>by have:=hr.2 j hj;unfold One at e;omega⟩
  ·have hR:upd q.l c (some R) d=some R':=hR
   rw [upd_other _ _ e] at hR
   exact s8 (by decide) d R' hd hR
 ·refine h.ap.turn h.wr.size (Nat.le_trans k.size k2.size) (c+8) (λi b hi hb=> ?_) λb hb=> .inr ?_
  ·match i,hi,hb with
   |0,_,hb=>exact hb
   |1,_,hb=>exact hb
   |2,_,hb=>exact hb
   |3,_,hb=>exact hb
   |4,_,hb=>exact hb
   |5,_,hb=>exact hb
   |6,_,hb=>exact hb
   |7,_,hb=>exact hb
   |d+8,hi,hb=>
    obtain ⟨h8,R',hR,hb⟩:=hb
    have hR:upd q.l c (some R) d=some R':=hR
    rw [upd_other _ _ (by omega)] at hR
    exact ⟨h8,R',hR,hb⟩
  ·obtain ⟨h8,R',hR,hb⟩:=hb
   have hR:upd q.l c (some R) c=some R':=hR
   rw [upd_same] at hR
   cases hR
   have:=k2.size
   rcases hb with rfl|hb
   ·omega
   ·have:=hr.2 b hb;have:=hlt.2 b hb;omega
theorem at2 (h:RnS w X n B G K q xs ys cn) {x:Value} {l:List Value} {v':Value} (hp:PushQ X Y q.v2 v' l x):Y.heap[q.rb]? =some (.cells (rowB 44 (q.oc n B)) 108 (0,0)):=
 (hp.2.1.block _ (blk_lt h.obj) λe=>absurd (h.ap.ap 0 2 q.rb rfl e) (by decide)).trans h.obj
theorem at3 (h:RnS w X n B G K q xs ys cn) {x:Value} {l:List Value} {v':Value} (hp:PushQ X Y q.v3 v' l x):Y.heap[q.rb]? =some (.cells (rowB 44 (q.oc n B)) 108 (0,0)):=
 (hp.2.1.block _ (blk_lt h.obj) λe=>absurd (h.ap.ap 0 3 q.rb rfl e) (by decide)).trans h.obj
theorem cell (h:RnS w X n B G K q xs ys cn) {i:Nat} (hi:i<44):X.cell? ⟨q.rb,i,none⟩=some (q.oc n B i):=by rw [blk_cell h.obj,rowB_at _ hi]
theorem frz (h:RnS w X n B G K q xs ys cn) (i:Nat):X.frozen? ⟨q.rb,i,none⟩=false:=blk_frozen h.obj i
theorem ccell (h:RnS w X n B G K q xs ys cn) {c:Nat} (hc:c<8):X.cell? ⟨q.cb,c,none⟩=some (natV (cn c)):=by rw [blk_cell h.cnt,rowB_at _ hc]
theorem cfrz (h:RnS w X n B G K q xs ys cn) (c:Nat):X.frozen? ⟨q.cb,c,none⟩=false:=blk_frozen h.cnt c
theorem locs (h:RnS w X n B G K q xs ys cn) {rb c:Nat} (hb:q.rb=rb) (hc:c<8) (hn:q.l c=none):X.cell? ⟨rb,7+c*4,none⟩=some (.int .i64 0)∧X.cell? ⟨rb,7+c*4+1,none⟩=some (.pointer none)∧X.cell? ⟨rb,7+c*4+2,none⟩=some (.pointer none)∧X.cell? ⟨rb,7+c*4+3,none⟩=some (.pointer none)∧
  X.frozen? ⟨rb,7+c*4,none⟩=false∧X.frozen? ⟨rb,7+c*4+1,none⟩=false∧X.frozen? ⟨rb,7+c*4+2,none⟩=false∧X.frozen? ⟨rb,7+c*4+3,none⟩=false:=by
 subst hb
 have key:∀ j,j<4→X.cell? ⟨q.rb,7+c*4+j,none⟩=some (zin.getD j undef):=λj hj=>by
  rw [h.cell (by omega)]
  unfold Rs.oc
  rw [oC_in hc hj,hn]
  rfl
 exact ⟨key 0 (by decide),key 1 (by decide),key 2 (by decide),key 3 (by decide),h.frz _,h.frz _,h.frz _,h.frz _⟩
end RnS
theorem RnS.start {n:Nat} {B G K:Int} {w X:World} {v12 v20 v21 v22 v23 v24 v25 v26 v27 v28 v29:Value} {rb r b5 b7:Nat} {hv dv:Value} (h:NwC n B w X true true true true true true true true true true true v12 v20 v21 v22 v23 v24 v25 v26 v27 v28 v29 rb r b5 b7 hv dv) {A:Array Value} (hA:(rowB 8 λ_=>natV 0)=A):
  RnS w (X.alloc (.cells A 167)) n B G K ⟨rb,r,b5,b7,X.heap.size,hv,dv,.slice none 0 0,.slice none 0 0,none,λ_=>none,0⟩ [] [] λ_=>0:=by
 subst hA
 have k:Wr Nil X (X.alloc (.cells (rowB 8 λ_=>natV 0) 167)):=(Wr.refl _ X).alloc _
 obtain ⟨_,s1,s2⟩:=h.k1 rfl
 obtain ⟨_,l5,s5⟩:=h.k5 rfl
 obtain ⟨_,l7,s7⟩:=h.k7 rfl
 obtain ⟨_,_,s9,l9,n5,n7,ns⟩:=h.k9 rfl
 have ne:=h.ne rfl rfl
 have b5':=blk_lt s5
 have b7':=blk_lt s7
 have b9':=blk_lt s9
 refine ⟨h.wr.nil k,((k.block _ b9' id).trans s9).trans ?_,s1.wrote k λ_ _=>id,(k.block _ b5' id).trans s5,(k.block _ b7' id).trans s7,blk_alloc_new _ _,RowQ.nil _,RowQ.nil _,λR hR=>(by cases hR),λc R _ hR=>(by cases hR),?_⟩
 ·rw [objA_eq];rfl
 ·have sz:(X.alloc (.cells (rowB 8 λ_=>natV 0) 167)).heap.size=X.heap.size+1:=nblk_alloc _ _
  have sw:=h.wr.size
  have key:∀ i k,Rs.Pt ⟨rb,r,b5,b7,X.heap.size,hv,dv,.slice none 0 0,.slice none 0 0,none,λ_=>none,0⟩ i k→(i=0∧k=rb)∨(i=1∧SF r hv dv k)∨(i=4∧k=b5)∨(i=5∧k=b7)∨(i=7∧k=X.heap.size):=by
   intro i k hk
   match i,hk with
   |0,hk=>exact .inl ⟨rfl,hk⟩
   |1,hk=>exact .inr (.inl ⟨rfl,hk⟩)
   |2,hk=>cases hk
   |3,hk=>cases hk
   |4,hk=>exact .inr (.inr (.inl ⟨rfl,hk⟩))
   |5,hk=>exact .inr (.inr (.inr (.inl ⟨rfl,hk⟩)))
   |6,hk=>obtain ⟨R,hR,_⟩:=hk;cases hR
   |7,hk=>exact .inr (.inr (.inr (.inr ⟨rfl,hk⟩)))
   |c+8,hk=>obtain ⟨_,R,hR,_⟩:=hk;cases hR
  have sf:∀ k,SF r hv dv k→k<X.heap.size∧w.heap.size≤k∧k≠b5∧k≠b7∧k≠rb:=λk hk=>⟨SrAt.lt s1 hk,(s2 k hk).1,(s2 k hk).2.1 rfl,(s2 k hk).2.2 rfl,ns k hk⟩
  refine ⟨λi j k hi hj=> ?_,λi k hi=> ?_,λi k hi=> ?_⟩
  ·rcases key i k hi with ⟨a,b⟩|⟨a,b⟩|⟨a,b⟩|⟨a,b⟩|⟨a,b⟩<;>rcases key j k hj with ⟨c,d⟩|⟨c,d⟩|⟨c,d⟩|⟨c,d⟩|⟨c,d⟩<;>first|omega|(have:=sf k b;omega)|(have:=sf k d;omega)
  ·rcases key i k hi with ⟨a,b⟩|⟨a,b⟩|⟨a,b⟩|⟨a,b⟩|⟨a,b⟩<;>first|omega|(have:=sf k b;omega)
  ·rw [sz]
   rcases key i k hi with ⟨a,b⟩|⟨a,b⟩|⟨a,b⟩|⟨a,b⟩|⟨a,b⟩<;>first|omega|(have:=sf k b;omega)
def NewMlPost (w:World) (n:Nat) (hN:Nat→Nat) (G K B:Int) (e:Ending) (w':World):Prop:=
 ∃ M:Mp,e= .returned (.pointer (some ⟨M.r,0,none⟩))∧(∀ ps,MlRaw w' M (newCo hN n G K B 0 ps))∧M.a=0∧M.B=B∧M.sz=((8+inZ G 8+lZ K (λc=>cntH hN c n) 8:Nat):Int)∧M.g.a=8∧(∀ c,c<8→M.has c=true→(M.l c).a=((8+inZ G 8+lZ K (λc=>cntH hN c n) c:Nat):Int))∧
  M.base=w'.heap.size∧(∀ i k,M.Pt i k→w.heap.size≤k)∧Wr Nil w w'
theorem RnS.done {w X:World} {n:Nat} {B G K:Int} {q:Rs} {hN:Nat→Nat} (h:RnS w X n B G K q ((List.range n).map hN) ((List.range n).map λt=>cntH hN (hN t) t) λc=>cntH hN c n) (n1:1≤n) (hH:∀ t,t<n→hN t<8) {Rg:Rp} (hg:q.g=some Rg) (hl:∀ c,c<8→((q.l c).isSome=true↔0<cntH hN c n))
  (hs:q.sz=((8+inZ G 8+lZ K (λc=>cntH hN c n) 8:Nat):Int)):NewMlPost w n hN G K B (.returned (.pointer (some ⟨q.rb,0,none⟩))) X:=by
 obtain ⟨bn,no,nc,en,hrn⟩:=h.q2.rowI (by simpa using n1)
 obtain ⟨bo,oo',oc',eo,hro⟩:=h.q3.rowI (by simpa using n1)
 rw [List.length_map,List.length_range] at en eo hrn hro
 obtain ⟨M,hM⟩:∃ M:Mp,M=⟨q.rb,q.r,q.hv,q.dv,bn,no,nc,bo,oo',oc',q.b5,q.b7,0,B,q.sz,Rg,λc=>(q.l c).getD Rg,λc=>(q.l c).isSome,0,X.heap.size⟩:=⟨_,rfl⟩
 have hP:∀ i k,M.Pt i k→q.Pt i k:=by
  intro i k hk
  rw [hM] at hk
  match i,hk with
  |0,hk=>exact hk
  |1,hk=>exact hk
  |2,hk=>show q.v2.ownBlock=some k;rw [en];have hk:k=bn:=hk;subst hk;rfl
  |3,hk=>show q.v3.ownBlock=some k;rw [eo];have hk:k=bo:=hk;subst hk;rfl
  |4,hk=>exact hk
  |5,hk=>exact hk
  |6,hk=>exact ⟨Rg,hg,hk⟩
  |7,hk=>exact hk.elim
  |c+8,hk=>
   obtain ⟨c8,hc,hk⟩:=hk
   dsimp only at hc hk
   obtain ⟨R,hR⟩:=Option.isSome_iff_exists.1 hc
   rw [hR] at hk
   exact ⟨c8,R,hR,hk⟩
 have hz:∀ b,X.heap[b]? =some (.cells (zr n) 3 (0,0))→RowI X b 0 n λ_=>0:=λb hb=>⟨_,hb,λk hk=>by rw [Nat.zero_add,rowB_at _ hk]⟩
 have getR:∀ (f:Nat→Nat) k,k<n→(((((List.range n).map f).getD k 0:Nat)):Int)=((f k:Nat):Int):=λf k hk=>by
  rw [List.getD_eq_getElem?_getD,List.getElem?_map,List.getElem?_range hk];rfl
 refine ⟨M,by rw [hM],λps=>⟨?_,?_,?_,?_,?_,?_,?_,λc c8 hc=> ?_,λt ht=>⟨hH t ht,?_⟩,⟨λi j k hi hj=>h.ap.ap i j k (hP i k hi) (hP j k hj),λ_ _ _=>Nat.zero_le _,λi k hk=> ?_⟩⟩,by rw [hM],by rw [hM],by rw [hM];exact hs,by rw [hM];exact (h.gat Rg hg).1,λc c8 hc=> ?_,by rw [hM],λi k hk=>h.ap.lo i k (hP i k hk),h.wr⟩
 ·have e:M.oc' n=q.oc n B:=by
   rw [hM]
   funext i
   unfold Mp.oc' Rs.oc Mp.lc
   dsimp only
   rw [←en,←eo,hg]
   congr 1
   funext c
   exact oo_if (q.l c) Rg
  rw [hM] at e ⊢
  show X.heap[q.rb]? =some (.cells (rowB 44 (Mp.oc' _ n)) _ _)
  rw [e]
  exact h.obj
 ·rw [hM];exact h.seat
 ·rw [hM];exact hrn.congr λk hk=>getR _ k hk
 ·rw [hM];exact hro.congr λk hk=>getR _ k hk
 ·rw [hM];exact hz _ h.r5
 ·rw [hM];exact hz _ h.r7
 ·rw [hM];exact (h.gat Rg hg).2 ps
 ·rw [hM] at hc ⊢
  dsimp only at hc ⊢
  obtain ⟨R,hR⟩:=Option.isSome_iff_exists.1 hc
  rw [hR]
  exact (h.lat c R c8 hR).2 ps
 ·rw [hM]
  exact (hl _ (hH t ht)).2 ((cntH_pos hN _ n).2 ⟨t,ht,rfl⟩)
 ·have:=h.ap.hi i k (hP i k hk)
  rw [hM];exact this
 ·rw [hM] at hc ⊢
  dsimp only at hc ⊢
  obtain ⟨R,hR⟩:=Option.isSome_iff_exists.1 hc
  rw [hR]
  exact (h.lat c R c8 hR).1
open _root_.Go.Proofs.Tryz
theorem cnt_next (hN:Nat→Nat) (k:Nat):upd (λc=>cntH hN c k) (hN k) (cntH hN (hN k) k+1)=λc=>cntH hN c (k+1):=by
 funext c
 show _=cntH hN c k+(if hN k=c then 1 else 0)
 by_cases e:c=hN k
 ·subst e;rw [upd_same,if_pos rfl]
 ·rw [upd_other _ _ e,if_neg λq=>e q.symm];rfl
theorem range_next (f:Nat→Nat) (k:Nat):(List.range (k+1)).map f=(List.range k).map f++[f k]:=by rw [List.range_succ,List.map_append];rfl
theorem ml_new {w:World} {b o n cp:Nat} {zs:List Int} (hr:RowAt .i64 w (some ⟨b,o,none⟩) n zs) {hN:Nat→Nat} (hH:∀ t,t<n→zs.getD t 0=(hN t:Nat)∧hN t<8) (n1:1≤n) (n2:n≤64) {G K B:Int} (hG:G=1∨G=3∨G=4) (hK:K=1∨K=3∨K=4):
  Calls prog 45 #[.slice (some ⟨b,o,none⟩) n cp,.int .i64 G,.int .i64 K,.int .i64 B,.int .i64 0] w (NewMlPost w n hN G K B):=by
 obtain ⟨i0,hi,hz0,hz1,hz2⟩:=info_parts info_int
 have hmk:∀ w:World,(Instr.makeSlice 22 (.int .i64 (n:Int)) (.int .i64 (n:Int))).run prog w= .ok (.slice (some ⟨w.heap.size,0,none⟩) n n) (w.alloc (.cells (zr n) 3)):=by
  intro w
  have h:=Go.run_make (P:=prog) w 22 3 i0 _ underlying22 hi hz0 .i64 .i64 n n (by omega) (by omega) (by rw [hz2];omega) (by omega)
  rw [hz1] at h
  simp only [Int.toNat_natCast] at h
  rw [show madeCells (Value.int .i64 0).cells (n*1)=zr n from made_rowB (.int .i64 0) n] at h
  exact h
 generalize hA:zr n=A at hmk
 have cS:=λW=>rs_new n false false n2 W
 have HA:=Lib.hid hA
 have HR0:=Lib.hid (And.intro hr (And.intro hH (And.intro hG hK)))
 clear hA hr hH hG hK hi hz0 hz1 hz2
 go_enter func45,ntmps45
 go_wp2
 go_cut [12] from 20 to 29 (λv12 wx=>∃ (rb:Nat) (q:Rs),v12= .pointer (some ⟨rb,0,none⟩)∧∃ (v20 v21 v22 v23 v24 v25 v26 v27 v28 v29:Value) (r b5 b7:Nat) (hv dv:Value),NwC n B w wx true true true true true true true true true true true v12 v20 v21 v22 v23 v24 v25 v26 v27 v28 v29 rb r b5 b7 hv dv)
 case first=>
  refine wp_region_any (by kernel_rfl) ?_
  refine wpAny_inv' (I:=λL act X=>∃ (v12 v20 v21 v22 v23 v24 v25 v26 v27 v28 v29:Value),act=⟨#[.slice (some ⟨b,o,none⟩) n cp,.int .i64 G,.int .i64 K,.int .i64 B,.int .i64 0,undef,undef,undef,undef,undef,.pointer none,.int .i64 (n:Int),v12,undef,undef,undef,undef,undef,.slice (some ⟨b,o,none⟩) n cp,.int .i64 (n:Int),v20,v21,v22,v23,v24,v25,v26,v27,v28,v29,undef,undef,undef,undef,undef,undef,undef,undef,undef,undef,undef,undef,undef,undef,undef,undef,undef,undef,undef,undef,undef,undef,undef,undef,undef,undef,undef,undef,undef,undef,undef,undef,undef,undef,undef,undef,undef,undef,undef,undef,undef,undef,undef,undef,undef,undef,undef,undef,undef,undef,undef,undef,undef,undef,undef,undef,undef,undef,undef,undef,undef,undef,undef,undef,undef,undef,undef,undef,undef,undef,undef,undef,undef,undef,undef,undef,undef,undef,undef,undef,undef,undef,undef],[]⟩∧∃ (rb r b5 b7:Nat) (hv dv:Value),NwC n B w X (L.getD 0 true) (L.getD 1 true) (L.getD 2 true) (L.getD 3 true) (L.getD 4 true) (L.getD 5 true) (L.getD 6 true) (L.getD 7 true) (L.getD 8 true) (L.getD 9 true) (L.getD 10 true) v12 v20 v21 v22 v23 v24 v25 v26 v27 v28 v29 rb r b5 b7 hv dv) ?hend ?hstep _ _ _ _ ?hst rfl (by kernel_rfl)
  case hst=>exact ⟨_,_,_,_,_,_,_,_,_,_,_,rfl,0,0,0,0,.slice none 0 0,.slice none 0 0,⟨(Wr.refl Nil w).drew,λl=>(by cases l),λl=>(by cases l),λl=>(by cases l),λl=>(by cases l),λl=>(by cases l),λl=>(by cases l),λl=>(by cases l),λl=>(by cases l),λl=>(by cases l),λl=>(by cases l),λl=>(by cases l),λl=>(by cases l)⟩⟩
  case hend=>
   intro L act X hI hr
   obtain ⟨v12,v20,v21,v22,v23,v24,v25,v26,v27,v28,v29,rfl,rb,r,b5,b7,hv,dv,hC⟩:=hI
   simp only [hr] at hC
   obtain ⟨_,e12⟩:=hC.k10 rfl
   obtain ⟨_,e29,_⟩:=hC.k9 rfl
   subst e12
   subst e29
   have HS:=Lib.hid hC
   clear hC hr
   go_wp2
   go_meet
   exact ⟨rb,⟨0,0,0,0,0,.pointer none,.pointer none,.pointer none,.pointer none,none,λ_=>none,0⟩,rfl,_,_,_,_,_,_,_,_,_,_,r,b5,b7,hv,dv,HS.out⟩
  case hstep=>
   intro L act X hI i op ho hl hr K' hK
   obtain ⟨v12,v20,v21,v22,v23,v24,v25,v26,v27,v28,v29,rfl,rb,r,b5,b7,hv,dv,hC⟩:=hI
   match i,ho,hl,hK with
   |0,ho,hl,hK=>
    cases ho
    clear hr
    have HC:=Lib.hid (And.intro hC hK)
    clear hC hK hl
    go_simp
    refine HC.out.2 _ _ ⟨_,_,_,_,_,_,_,_,_,_,_,rfl,?_⟩
    simp only [getD_set_at,reduceIte,Nat.reduceEqDiff,Nat.one_ne_zero,eq_self]
    exact ⟨_,_,_,_,_,_,HC.out.1.mv0⟩
   |2,ho,hl,hK=>
    cases ho
    clear hr
    have HC:=Lib.hid (And.intro hC hK)
    clear hC hK hl
    go_simp
    refine HC.out.2 _ _ ⟨_,_,_,_,_,_,_,_,_,_,_,rfl,?_⟩
    simp only [getD_set_at,reduceIte,Nat.reduceEqDiff,eq_self]
    exact ⟨_,_,_,_,_,_,HC.out.1.mv2⟩
   |3,ho,hl,hK=>
    cases ho
    clear hr
    have HC:=Lib.hid (And.intro hC hK)
    clear hC hK hl
    go_simp
    refine HC.out.2 _ _ ⟨_,_,_,_,_,_,_,_,_,_,_,rfl,?_⟩
    simp only [getD_set_at,reduceIte,Nat.reduceEqDiff,eq_self]
    exact ⟨_,_,_,_,_,_,HC.out.1.mv3⟩
   |4,ho,hl,hK=>
    cases ho
    clear hr
    have HC:=Lib.hid (And.intro hC hK)
    clear hC hK hl
    go_simp
    refine HC.out.2 _ _ ⟨_,_,_,_,_,_,_,_,_,_,_,rfl,?_⟩
    simp only [getD_set_at,reduceIte,Nat.reduceEqDiff,eq_self]
    exact ⟨_,_,_,_,_,_,HC.out.1.mv4⟩
   |6,ho,hl,hK=>
    cases ho
    clear hr
    have HC:=Lib.hid (And.intro hC hK)
    clear hC hK hl
    go_simp
    refine HC.out.2 _ _ ⟨_,_,_,_,_,_,_,_,_,_,_,rfl,?_⟩
    simp only [getD_set_at,reduceIte,Nat.reduceEqDiff,eq_self]
    exact ⟨_,_,_,_,_,_,HC.out.1.mv6⟩
   |1,ho,hl,hK=>
    cases ho
    have e:v20= .int .i64 n:=hC.m0 (getD_ft (hr ⟨0,.data⟩ (by simp) rfl))
    subst e
    have HC:=Lib.hid (And.intro hC hl)
    clear hC hl hr
    go_simp
    go_wp2_with (go_at_call 65;(with_reducible refine (cS _).mono ?_);intro e w2 hq;unfold RsNewPost at hq;obtain ⟨r',hv',dv',rfl,hR,hnew,hW⟩:=hq;have HR:=Lib.hid (And.intro hR (And.intro hnew hW));clear hR hnew hW cS)
    try refine hK _ _ ?_
    refine ⟨_,_,_,_,_,_,_,_,_,_,_,rfl,?_⟩
    simp only [getD_set_at,reduceIte,Nat.reduceEqDiff,Nat.zero_ne_one,eq_self]
    exact ⟨_,_,_,_,_,_,HC.out.1.cl1 HC.out.2 HR.out.1 HR.out.2.1 HR.out.2.2⟩
   |5,ho,hl,hK=>
    cases ho
    have e:v24= .int .i64 n:=hC.m4 (getD_ft (hr ⟨4,.data⟩ (by simp) rfl))
    subst e
    have HC:=Lib.hid (And.intro hC (And.intro hl hK))
    clear hC hK hl hr
    go_simp
    refine HC.out.2.2 _ _ ⟨_,_,_,_,_,_,_,_,_,_,_,rfl,?_⟩
    simp only [getD_set_at,reduceIte,Nat.reduceEqDiff,eq_self]
    exact ⟨_,_,_,_,_,_,HC.out.1.mk5 HA.out HC.out.2.1⟩
   |7,ho,hl,hK=>
    cases ho
    have e:v26= .int .i64 n:=hC.m6 (getD_ft (hr ⟨6,.data⟩ (by simp) rfl))
    subst e
    have HC:=Lib.hid (And.intro hC (And.intro hl hK))
    clear hC hK hl hr
    go_simp
    refine HC.out.2.2 _ _ ⟨_,_,_,_,_,_,_,_,_,_,_,rfl,?_⟩
    simp only [getD_set_at,reduceIte,Nat.reduceEqDiff,eq_self]
    exact ⟨_,_,_,_,_,_,HC.out.1.mk7 HA.out HC.out.2.1⟩
   |8,ho,hl,hK=>
    cases ho
    have t1:=getD_ft (hr ⟨1,.data⟩ (by simp) rfl)
    have t2:=getD_ft (hr ⟨2,.data⟩ (by simp) rfl)
    have t3:=getD_ft (hr ⟨3,.data⟩ (by simp) rfl)
    have t5:=getD_ft (hr ⟨5,.data⟩ (by simp) rfl)
    have t7:=getD_ft (hr ⟨7,.data⟩ (by simp) rfl)
    obtain rfl:=(hC.k1 t1).1
    obtain rfl:=hC.m2 t2
    obtain rfl:=hC.m3 t3
    obtain rfl:=(hC.k5 t5).1
    obtain rfl:=(hC.k7 t7).1
    have HC:=Lib.hid (And.intro (hC.bd hl t1 t2 t3 t5 t7) hK)
    clear hC hK hl hr t1 t2 t3 t5 t7
    go_simp
    refine HC.out.2 _ _ ⟨_,_,_,_,_,_,_,_,_,_,_,rfl,?_⟩
    simp only [getD_set_at,reduceIte,Nat.reduceEqDiff,eq_self]
    exact ⟨_,_,_,_,_,_,HC.out.1⟩
   |9,ho,hl,hK=>
    cases ho
    have t8:=getD_ft (hr ⟨8,.data⟩ (by simp) rfl)
    obtain rfl:=(hC.k8 t8).2.2.2.2.2
    have hN:=hC.bx hl t8
    unfold objA at hN
    have HC:=Lib.hid (And.intro hN hK)
    clear hC hK hl hr hN t8
    unfold objA
    go_simp
    refine HC.out.2 _ _ ⟨_,_,_,_,_,_,_,_,_,_,_,rfl,?_⟩
    simp only [getD_set_at,reduceIte,Nat.reduceEqDiff,eq_self]
    exact ⟨_,_,_,_,_,_,HC.out.1⟩
   |10,ho,hl,hK=>
    cases ho
    have HC:=Lib.hid (And.intro (hC.ass (getD_ft (hr ⟨9,.data⟩ (by simp) rfl))) hK)
    clear hC hK hl hr
    go_simp
    refine HC.out.2 _ _ ⟨_,_,_,_,_,_,_,_,_,_,_,rfl,?_⟩
    simp only [getD_set_at,reduceIte,Nat.reduceEqDiff,eq_self]
    exact ⟨_,_,_,_,_,_,HC.out.1⟩
   |i+11,ho,hl,hK=>cases ho
 case rest=>
  obtain ⟨rb,_,rfl,_,_,_,_,_,_,_,_,_,_,r,b5,b7,hv,dv,hS⟩:=hcut
  clear hmk HA cS
  obtain ⟨A,hA⟩:∃ A,(rowB 8 λ_=>natV 0)=A:=⟨_,rfl⟩
  have h0:=RnS.start (G:=G) (K:=K) hS hA
  have e8:A= #[.int .i64 0,.int .i64 0,.int .i64 0,.int .i64 0,.int .i64 0,.int .i64 0,.int .i64 0,.int .i64 0]:=by rw [←hA];rfl
  rw [e8] at h0
  have HS:=Lib.hid h0
  clear hS hA e8 h0
  go_wp2
  generalize hX:wc.alloc _=X at*
  generalize hcb:wc.heap.size=cb at*
  clear hX
  go_loopw [32] (λi wr=>∃ (k:Nat) (q:Rs),k≤n∧i= .int .i64 k∧(q.rb=rb∧q.cb=cb∧q.g=none∧∀ c,q.l c=none)∧RnS w wr n B G K q ((List.range k).map hN) ((List.range k).map λt=>cntH hN (hN t) t) λc=>cntH hN c k) (λi _=>n-(intOf i).toNat)
  case atStart=>exact ⟨0,_,Nat.zero_le _,rfl,⟨rfl,rfl,rfl,λ_=>rfl⟩,HS.out⟩
  case round=>
   clear HS
   obtain ⟨k,q,hk,rfl,⟨hqb,hqc,hqg,hql⟩,hS⟩:=hrel
   by_cases hlt:k<n
   ·obtain ⟨hr,hH,hG,hK⟩:=HR0.out
    obtain ⟨hz,h8⟩:=hH k hlt
    have cz:wr.cell? ⟨b,o+k,none⟩=some (.int .i64 ((hN k:Nat):Int)):=by rw [←hz,←Go.Addr.add_lit];exact (hr.after hS.wr).cell _ rfl k hlt
    have e16:=hr.empty
    clear hr hH hG hK hz
    subst hqb
    subst hqc
    generalize hx:hN k=x at*
    have hk3:IntKind.i64.wrap ((k:Int)+1)=((k+1:Nat):Int):=by rw [IntKind.wrap_i64];omega
    obtain ⟨sa,cap,hv2⟩:=hS.q2.form
    rw [List.length_map,List.length_map,List.length_range] at hv2
    have c39:wr.cell? ⟨q.rb,39,none⟩=some (.slice sa k cap):=by rw [←hv2];exact hS.cell (by decide)
    have q2:=(hS.after ((Wr.refl Nil wr).alloc (.cells #[.int .i64 (x:Int)] 3))).q2
    rw [hv2] at q2
    have HS:=Lib.hid (And.intro hS (And.intro hv2 (And.intro hqg hql)))
    clear hS hv2 hqg hql
    go_wp2_with (at_builtin;refine wpList_push rfl _ _ rfl rfl q2 ⟨wr.heap.size,0,none⟩ (natV x) rfl (by rw [blk_cell (Go.Deep.blk_alloc_new _ _)];rfl) (by simp [natV,Value.oneCell']) (by rw [List.length_map,List.length_map,List.length_range];omega) ?_;intro v' w1 hp;rw [←HS.out.2.1] at hp;have o1:=(HS.out.1.after ((Wr.refl Nil wr).alloc (.cells #[.int .i64 (x:Int)] 3))).at2 hp;have t39:w1.cell? ⟨q.rb,39,none⟩=some (.slice sa k cap):=(by rw [blk_cell o1,rowB_at _ (by decide),←HS.out.2.1];rfl);have f39:=blk_frozen o1 39;obtain ⟨sa',ln',cap',hv'⟩:∃ sa ln cap,v'= .slice sa ln cap:=(by obtain ⟨sa,cap,e⟩:=hp.1.form;exact ⟨_,_,_,e⟩);subst hv';have HN:=Lib.hid ((HS.out.1.after ((Wr.refl Nil wr).alloc (.cells #[.int .i64 (x:Int)] 3))).push2 hp);clear hp o1;go_upto_region 8 with fail)
    generalize hZ:w1.setCell _ _=Z at*
    have HQ:=Lib.hid (And.intro hx HS.out.2.2)
    clear hZ t39 f39 c39 q2 cz HS hx
    obtain ⟨sb,cp3,hv3⟩:=HN.out.q3.form
    rw [List.length_map,List.length_map,List.length_range] at hv3
    have hv3:q.v3= .slice sb k cp3:=hv3
    have t40:Z.cell? ⟨q.rb,40,none⟩=some (.slice sb k cp3):=by rw [←hv3];exact HN.out.cell (i:=40) (by decide)
    have cc:Z.cell? ⟨q.cb,x,none⟩=some (.int .i64 ((cntH hN x k:Nat):Int)):=HN.out.ccell h8
    have hcm:=cntH_le hN x k
    have h8i:(x:Int)<8:=by omega
    generalize hm:cntH hN x k=m at*
    have kd:Wr Nil Z (Z.drew.alloc (.cells #[.int .i64 (m:Int)] 3)):=(Wr.refl Nil Z).drew.alloc _
    have q3:=(HN.out.after kd).q3
    have hv3':(Rs.v3 {q with v2:=Value.slice sa' ln' cap'})= .slice sb k cp3:=hv3
    rw [hv3'] at q3
    have t40b:(Z.alloc (.cells #[.int .i64 (m:Int)] 3)).cell? ⟨q.rb,40,none⟩=some (.slice sb k cp3):=((Wr.refl Nil Z).alloc (.cells #[.int .i64 (m:Int)] 3)).old t40
    have HV:=Lib.hid (And.intro hv3 (And.intro hm kd))
    clear hv3 hv3' hm kd
    go_region_law (refine step_push (by rfl) _ _ (by rfl) (by simp [Act.eval]) q3 ⟨Z.heap.size,0,none⟩ (natV m) (by simp [Act.eval]) (by have:=blk_cell (Go.Deep.blk_alloc_new Z.drew (.cells #[.int .i64 (m:Int)] 3)) 0;exact this) (by simp [natV,Value.oneCell']) (by rw [List.length_map,List.length_map,List.length_range];omega) ?_;intro v'' w5 hp;have hp2:=hp;rw [←HV.out.1] at hp2;have o1:=(HN.out.after HV.out.2.2).at3 hp2;have t40':w5.cell? ⟨q.rb,40,none⟩=some (.slice sb k cp3):=(by rw [blk_cell o1,rowB_at _ (by decide),←HV.out.1];rfl);have f40':=blk_frozen o1 40;obtain ⟨sa'',ln'',cap'',hv''⟩:∃ sa ln cap,v''= .slice sa ln cap:=(by obtain ⟨sa,cap,e⟩:=hp.1.form;exact ⟨_,_,_,e⟩);subst hv'';have HN2:=Lib.hid ((HN.out.after HV.out.2.2).push3 hp2);clear hp hp2 o1)
    all_goals
     go_upto_region 9 with fail
     generalize hZ2:w5.setCell _ _=Z2 at*
     clear hZ2 t40' f40' t40 t40b q3 cc
     have cc:Z2.cell? ⟨q.cb,x,none⟩=some (.int .i64 (m:Int)):=by rw [←HV.out.2.1];exact HN2.out.ccell h8
     have fc:Z2.frozen? ⟨q.cb,x,none⟩=false:=HN2.out.cfrz x
     have hm3:IntKind.i64.wrap ((m:Int)+1)=((m+1:Nat):Int):=by rw [IntKind.wrap_i64];omega
     go_wp2
     go_roundw
     case rel=>
      have hF:=HN2.out.count HQ.out.2.2 x (m+1) (by show m+1=cntH hN x k+1;rw [HV.out.2.1])
      have e1:(List.range (k+1)).map hN=(List.range k).map hN++[x]:=by rw [range_next,HQ.out.1]
      have e2:(List.range (k+1)).map (λt=>cntH hN (hN t) t)=(List.range k).map (λt=>cntH hN (hN t) t)++[m]:=by rw [range_next];show _++[cntH hN (hN k) k]=_;rw [HQ.out.1,HV.out.2.1]
      have e3:upd (λc=>cntH hN c k) x (cntH hN x k+1)=λc=>cntH hN c (k+1):=by rw [←HQ.out.1];exact cnt_next hN k
      refine ⟨k+1,{q with v2:= .slice sa' ln' cap',v3:= .slice sa'' ln'' cap''},by omega,by go_num,⟨rfl,rfl,HQ.out.2.1,HQ.out.2.2⟩,?_⟩
      rw [e1,e2,←e3]
      exact hF
     case measure=>simp [intOf];omega
   ·obtain rfl:k=n:=by omega
    obtain ⟨_,_,hG,hK⟩:=HR0.out
    subst hqb
    subst hqc
    have cI:∀ W:World,Calls prog 67 #[.int .i64 G,.int .i64 8,.int .i64 8] W (RinPost W G 8 8):=λW=>rin_any hG 8 (by decide) (by decide) 8 W
    have HS:=Lib.hid (And.intro hS (And.intro hqg (And.intro hql hK)))
    have hzg:=inZ_le G 8
    have hwg:IntKind.i64.wrap (8+(inZ G 8:Nat))=((8+inZ G 8:Nat):Int):=by rw [IntKind.wrap_i64];omega
    clear hS hqg hql hG hK
    go_wp2_with (go_at_call 67;(with_reducible refine (cI _).mono ?_);intro e w2 hq;unfold RinPost at hq;obtain ⟨R,rfl,hA,ha,hn,hW⟩:=hq;obtain ⟨κ,p1,p2,p3,hc⟩:=R.four;rw [hc];have h2:=HS.out.1.after hW;have d3:w2.cell? ⟨q.rb,3,none⟩=some (.int .i64 0):=(by rw [h2.cell (by decide)];unfold Rs.oc;rw [HS.out.2.1];rfl);have d4:w2.cell? ⟨q.rb,4,none⟩=some (.pointer none):=(by rw [h2.cell (by decide)];unfold Rs.oc;rw [HS.out.2.1];rfl);have d5:w2.cell? ⟨q.rb,5,none⟩=some (.pointer none):=(by rw [h2.cell (by decide)];unfold Rs.oc;rw [HS.out.2.1];rfl);have d6:w2.cell? ⟨q.rb,6,none⟩=some (.pointer none):=(by rw [h2.cell (by decide)];unfold Rs.oc;rw [HS.out.2.1];rfl);have e3:=h2.frz 3;have e4:=h2.frz 4;have e5:=h2.frz 5;have e6:=h2.frz 6;have HN:=Lib.hid (HS.out.1.setG HS.out.2.1 hA ha hn hW hc);clear hA ha hn hW hc h2 cI)
    generalize hZ:World.setCell _ _ _=Z at*
    have hZ':RnS.set4B w2 q.rb 3 (.int .i64 κ) (.pointer p1) (.pointer p2) (.pointer p3)=Z:=hZ
    rw [hZ'] at HN
    have HK:=Lib.hid (And.intro HS.out.2.2.1 HS.out.2.2.2)
    clear hZ hZ' d3 d4 d5 d6 e3 e4 e5 e6 HS
    obtain ⟨cnt,hcnt⟩:∃ cnt:Nat→Nat,cnt=λc=>cntH hN c k:=⟨_,rfl⟩
    rw [←hcnt] at HN
    have hc64:∀ c,cnt c≤64:=λc=>by rw [hcnt];exact Nat.le_trans (cntH_le hN c k) n2
    have HC:=Lib.hid hcnt
    clear hcnt
    go_loopw [4,16,17] (λv4 v16 v17 wr=>∃ (c a:Nat) (q':Rs) (z:Int),c≤8∧v17= .int .i64 c∧v16= .int .i64 z∧v4= .int .i64 (a:Int)∧a=8+inZ G 8+lZ K cnt c∧(q'.rb=q.rb∧q'.cb=q.cb∧(∃ Rg,q'.g=some Rg)∧∀ d,d<8→((q'.l d).isSome=true↔d<c∧0<cnt d))∧RnS w wr k B G K q' ((List.range k).map hN) ((List.range k).map λt=>cntH hN (hN t) t) cnt) (λ_ _ v17 _=>8-(intOf v17).toNat)
    case atStart=>exact ⟨0,_,{q with g:=some R},_,by decide,rfl,rfl,rfl,rfl,⟨rfl,rfl,⟨R,rfl⟩,λd hd=>by rw [show ({q with g:=some R}:Rs).l d=none from HK.out.1 d];simp⟩,HN.out⟩
    case round=>
     clear HN
     obtain ⟨c,a,q',z,hc8,rfl,rfl,rfl,ea,⟨hqb,hqc,hqg,hql⟩,hS⟩:=hrel
     by_cases hlt:c<8
     ·have h8i:(c:Int)<8:=by omega
      have hc3:IntKind.i64.wrap ((c:Int)+1)=((c+1:Nat):Int):=by rw [IntKind.wrap_i64];omega
      have cc:wr.cell? ⟨q.cb,c,none⟩=some (.int .i64 (cnt c:Int)):=by rw [←hqc];exact hS.ccell hlt
      have hz1:=lZ_le K cnt c hc64
      have hm64:=hc64 c
      have hnx:lZ K cnt (c+1)=lZ K cnt c+(if 0<cnt c then inZ K (cnt c) else 0):=rfl
      by_cases hp:0<cnt c
      ·rw [if_pos hp] at hnx
       have cI:=λW=>rin_any HK.out.2 (cnt c) hp hm64 (a:Int) W
       have hz2:=inZ_le K (cnt c)
       have HS:=Lib.hid (And.intro hS (And.intro hqb (And.intro hqc (And.intro hqg (And.intro hql (And.intro hnx (And.intro hp ea)))))))
       have hd:decide (0<cnt c)=true:=by simp;omega
       have hw4:IntKind.i64.wrap ((a:Int)+((inZ K (cnt c):Nat):Int))=((a+inZ K (cnt c):Nat):Int):=by rw [IntKind.wrap_i64];omega
       clear hS hqb hqc hqg hql hnx ea
       generalize hm:cnt c=m at*
       have HM:=Lib.hid hm
       clear hm
       go_upto_region 19 with fail
       have hnl:q'.l c=none:=by
        cases hx:q'.l c with
        |none=>rfl
        |some x=>have:=(HS.out.2.2.2.2.1 c hlt).1 (by rw [hx];rfl);omega
       have HL:=Lib.hid hnl
       clear hnl
       go_region_with (go_at_call 67;(with_reducible refine (cI _).mono ?_);intro e w2 hq;unfold RinPost at hq;obtain ⟨R',rfl,hA,ha,hn,hW⟩:=hq;obtain ⟨κ',p1',p2',p3',hc⟩:=R'.four;rw [hc];have hd2:=(HS.out.1.after ((Wr.refl Nil wr).drew.nil hW)).locs HS.out.2.1 hlt HL.out;obtain ⟨d0,d1,d2,d3,e0,e1,e2,e3⟩:=hd2;have HN:=Lib.hid (And.intro hA (And.intro ha (And.intro hn (And.intro hW hc))));clear hA ha hn hW hc cI)
       all_goals
        generalize hZ:World.setCell _ _ _=Z at*
        have hZ':RnS.set4B w2 q.rb (7+c*4) (.int .i64 κ') (.pointer p1') (.pointer p2') (.pointer p3')=Z:=hZ
        have HZ:=Lib.hid hZ'
        clear hZ hZ' d0 d1 d2 d3 e0 e1 e2 e3
        go_wp2
        go_roundw
        case rel=>
         obtain ⟨hA,ha,hn,hW,hc⟩:=HN.out
         obtain ⟨hS,hqb,hqc,hqg,hql,hnx,hp,ea⟩:=HS.out
         have hF:=hS.setL hlt (by rw [HM.out];exact hA) (by rw [ha,ea]) hn ((Wr.refl Nil wr).drew.nil hW) hc
         rw [←HZ.out,←hqb]
         refine ⟨c+1,a+inZ K m,{q' with l:=upd q'.l c (some R')},_,by omega,by go_num,rfl,by go_num,by rw [hnx,ea];omega,⟨rfl,hqc.trans (by first|rfl|rw [hqb]),hqg,λd hd=> ?_⟩,hF⟩
         show (upd q'.l c (some R') d).isSome=true↔_
         by_cases e:d=c
         ·subst e;rw [upd_same,HM.out];exact ⟨λ_=>⟨by omega,hp⟩,λ_=>rfl⟩
         ·rw [upd_other _ _ e,hql d hd]
          exact ⟨λx=>⟨by omega,x.2⟩,λx=>⟨by omega,x.2⟩⟩
        case measure=>simp [intOf];omega
      ·rw [if_neg hp,Nat.add_zero] at hnx
       have h0:cnt c=0:=by omega
       rw [h0] at cc
       have HS:=Lib.hid (And.intro hS (And.intro hqb (And.intro hqc (And.intro hqg (And.intro hql (And.intro hnx (And.intro h0 ea)))))))
       clear hS hqb hqc hqg hql hnx ea hp h0
       go_wp2
       go_roundw
       case rel=>
        obtain ⟨hS,hqb,hqc,hqg,hql,hnx,h0,ea⟩:=HS.out
        refine ⟨c+1,a,q',z,by omega,by go_num,rfl,rfl,by rw [hnx,ea];omega,⟨hqb,hqc,hqg,λd hd=> ?_⟩,hS⟩
        rw [hql d hd]
        refine ⟨λx=>⟨by omega,x.2⟩,λx=>⟨?_,x.2⟩⟩
        by_cases e:d=c
        ·subst e;omega
        ·omega
       case measure=>simp [intOf];omega
     ·obtain rfl:c=8:=by omega
      have c1:wr.cell? ⟨q.rb,1,none⟩=some (.int .i64 0):=by rw [←hqb,hS.cell (by decide)];rfl
      have c43:∃ z,wr.cell? ⟨q.rb,43,none⟩=some (.int .i64 z):=⟨q'.sz,by rw [←hqb,hS.cell (by decide)];rfl⟩
      obtain ⟨z43,c43⟩:=c43
      have f43:=hS.frz 43
      rw [hqb] at f43
      have hwa:IntKind.i64.wrap (a:Int)=(a:Int):=by rw [IntKind.wrap_i64];have:=lZ_le K cnt 8 hc64;omega
      have HS:=Lib.hid (And.intro hS (And.intro hqb (And.intro hqg (And.intro hql ea))))
      clear hS hqb hqc hqg hql ea
      go_wp2
      go_ret
      obtain ⟨hS,hqb,⟨Rg,hqg⟩,hql,ea⟩:=HS.out
      have hF:=hS.size (a:Int)
      rw [←hqb]
      rw [HC.out] at hF ea hql
      exact hF.done n1 (λt ht=>(HR0.out.2.1 t ht).2) hqg (λc hc=>by rw [hql c hc];exact ⟨λx=>x.2,λx=>⟨hc,x⟩⟩) (by rw [ea])
end Go.Proofs.YtcikfcplagelaaaGreat

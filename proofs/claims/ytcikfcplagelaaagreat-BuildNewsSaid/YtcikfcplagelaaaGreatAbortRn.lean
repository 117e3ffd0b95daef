
import Derived.Test.YtcikfcplagelaaaGreatPortSame
import Derived.Test.YtcikfcplagelaaaGreatBuA
import Derived.Deep.CutBlock
namespace Go.Proofs.YtcikfcplagelaaaGreat.Ka
open Go.RowKit
set_option linter.unusedVariables false
set_option maxRecDepth 100000
def rowA (n:Nat) (g:Nat→Value):Array Value:=((List.range n).map g).toArray
theorem rowA_at {n:Nat} (g:Nat→Value) {k:Nat} (hk:k<n):(rowA n g)[k]? =some (g k):=by
 unfold rowA
 rw [List.getElem?_toArray,List.getElem?_map,List.getElem?_range hk]
 rfl
theorem made_row (x:Value) (n:Nat):madeCells #[x] (n*1)=rowA n (λ_=>x):=by
 apply Array.ext'
 apply List.ext_getElem?
 intro m
 unfold madeCells rowA
 rw [Nat.mul_one]
 by_cases hm:m<n
 ·rw [Array.toList_map,List.getElem?_map,Array.toList_range,List.getElem?_range hm,List.getElem?_map,List.getElem?_range hm]
  simp [Nat.mod_one]
 ·rw [List.getElem?_eq_none (by simp;omega),List.getElem?_eq_none (by simp;omega)]
def inV (m:Nat→Int) (k:Nat):Value:= .int .i64 (m k)
def RowC (w:World) (b n:Nat) (g:Nat→Int):Prop:=∃ cs:Array Value,w.heap[b]? =some (.cells cs 3 (0,0))∧∀ k,k<n→cs[k]? =some (inV g k)
structure Mp where
 r:Nat
 sr:Nat
 hv:Value
 dv:Value
 rw:Nat→Nat
 cp:Nat
 a:Int
 pr:Nat
 base:Nat
structure MlRaw (w:World) (M:Mp) (s:SS) (ea:Nat) (v:Nat→Nat→Int):Prop where
 obj:w.heap[M.r]? =some (.cells #[.pointer (some ⟨M.sr,0,none⟩),.int .i64 M.a,.int .i64 (ea:Nat),.slice (some ⟨M.rw 0,0,none⟩) s.n M.cp,.slice (some ⟨M.rw 1,0,none⟩) s.n s.n,.slice (some ⟨M.rw 2,0,none⟩) s.n s.n,.slice (some ⟨M.rw 3,0,none⟩) s.n s.n] 163 (0,0))
 seat:RsAt w M.sr M.hv M.dv s
 rows:∀ i,i<4→RowC w (M.rw i) s.n (v i)
 ne:∀ i,i<4→M.r≠M.rw i∧∀ j,j<4→i≠j→M.rw i≠M.rw j
 off:∀ k,SF M.sr M.hv M.dv k→k≠M.r∧∀ i,i<4→k≠M.rw i
 low:M.r<M.base∧(∀ i,i<4→M.rw i<M.base)∧∀ k,SF M.sr M.hv M.dv k→k<M.base
def MF (M:Mp) (k:Nat):Prop:=(∃ i,i<4∧k=M.rw i)∨SF M.sr M.hv M.dv k
open Go.RowKit Go.BigFrame
def fv (f:FL):Nat→Nat→Int:=λi j=>match i with|0=>f.pc j|1=>f.nd j|2=>f.oth j|3=>f.tr j|_=>0
set_option maxHeartbeats 8000000
open _root_.Go.Proofs.Tryz Go.Deep
abbrev zrow (n:Nat):Array Value:=rowA n (inV λ_=>0)
structure MkS (n:Nat) (w X:World) (bs:List Nat):Prop where
 wr:Wr Nil w X
 all:∀ b∈bs,w.heap.size≤b∧X.heap[b]? =some (.cells (zrow n) 3 (0,0))
 nd:bs.Nodup
namespace MkS
variable {n:Nat} {w X Y:World} {bs:List Nat} {A:Array Value}
theorem start (n:Nat) (w:World):MkS n w w []:=⟨Wr.refl _ w,λb hb=>by simp at hb,List.nodup_nil⟩
theorem old (h:MkS n w X bs) (k:Wr Nil X Y):MkS n w Y bs:=⟨h.wr.nil k,λb hb=>⟨(h.all b hb).1,(k.block _ (blk_lt (h.all b hb).2) id).trans (h.all b hb).2⟩,h.nd⟩
theorem drew (h:MkS n w X bs):MkS n w X.drew bs:=h.old ((Wr.refl _ X).drew)
theorem alloc (hA:zrow n=A) (h:MkS n w X bs):MkS n w (X.alloc (.cells A 3)) (X.heap.size::bs):=by
 subst hA
 have k:Wr Nil X (X.alloc (.cells (zrow n) 3)):=(Wr.refl _ X).alloc _
 refine ⟨h.wr.nil k,λb hb=> ?_,List.nodup_cons.2 ⟨λq=>by have:=blk_lt (h.all _ q).2;omega,h.nd⟩⟩
 rcases List.mem_cons.1 hb with rfl|hb
 ·exact ⟨h.wr.size,blk_alloc_new _ _⟩
 ·exact (h.old k).all b hb
end MkS
theorem nblk_drew (w:World):w.drew.heap.size=w.heap.size:=rfl
structure MkT (n:Nat) (s:SS) (w X:World) (bs:List Nat) (r:Nat) (hv dv:Value):Prop where
 ms:MkS n w X bs
 seat:RsAt X r hv dv s
 off:∀ k,SF r hv dv k→w.heap.size≤k∧k∉bs
namespace MkT
variable {n:Nat} {s:SS} {w X Y:World} {bs:List Nat} {A:Array Value} {r:Nat} {hv dv:Value}
theorem old (h:MkT n s w X bs r hv dv) (k:Wr Nil X Y):MkT n s w Y bs r hv dv:=⟨h.ms.old k,h.seat.wrote k λ_ _=>id,h.off⟩
theorem alloc (hA:zrow n=A) (h:MkT n s w X bs r hv dv):MkT n s w (X.alloc (.cells A 3)) (X.heap.size::bs) r hv dv:=by
 have k:Wr Nil X (X.alloc (.cells A 3)):=(Wr.refl _ X).alloc _
 refine ⟨h.ms.alloc hA,h.seat.wrote k λ_ _=>id,λj hj=>⟨(h.off j hj).1,λq=> ?_⟩⟩
 rcases List.mem_cons.1 q with e|q
 ·have:=SrAt.lt h.seat hj;omega
 ·exact (h.off j hj).2 q
theorem call (h:MkS n w X bs) (hS:RsAt Y r hv dv s) (hn:∀ k,SF r hv dv k→X.heap.size≤k) (k:Wr Nil X Y):MkT n s w Y bs r hv dv:=
 ⟨h.old k,hS,λj hj=>⟨Nat.le_trans h.wr.size (hn j hj),λq=>by have:=blk_lt (h.all j q).2;have:=hn j hj;omega⟩⟩
end MkT
structure RnSt (w X:World) (n ea:Nat) (a:Int) (rb r b1 b2 b3:Nat) (hv dv:Value) (k:Nat) (v:Value):Prop where
 obj:X.heap[rb]? =some (.cells #[.pointer (some ⟨r,0,none⟩),.int .i64 a,.int .i64 (ea:Nat),v,.slice (some ⟨b1,0,none⟩) n n,.slice (some ⟨b2,0,none⟩) n n,.slice (some ⟨b3,0,none⟩) n n] 163 (0,0))
 mt:MkT n (newSeat n true false) w X [b1,b2,b3] r hv dv
 lt:w.heap.size≤rb∧b1<rb∧b2<rb∧b3<rb∧∀ j,SF r hv dv j→j<rb
 own:X.ownsRow (rb+1) 3 1 v k ((List.range k).map λ_=>Value.int .i64 1)
theorem RnSt.start {w X:World} {n ea:Nat} {a:Int} {r b1 b2 b3:Nat} {bs:List Nat} {hv dv:Value} (h:MkT n (newSeat n true false) w X bs r hv dv) (e1:b1∈bs) (e2:b2∈bs) (e3:b3∈bs) (n12:b1≠b2) (n13:b1≠b3) (n23:b2≠b3):
  RnSt w (X.alloc (.cells #[.pointer (some ⟨r,0,none⟩),.int .i64 a,.int .i64 (ea:Nat),.slice none 0 0,.slice (some ⟨b1,0,none⟩) n n,.slice (some ⟨b2,0,none⟩) n n,.slice (some ⟨b3,0,none⟩) n n] 163)) n ea a X.heap.size r b1 b2 b3 hv dv 0 (.slice none 0 0):=by
 have k:=(Wr.refl Nil X).alloc (.cells #[.pointer (some ⟨r,0,none⟩),.int .i64 a,.int .i64 (ea:Nat),.slice none 0 0,.slice (some ⟨b1,0,none⟩) n n,.slice (some ⟨b2,0,none⟩) n n,.slice (some ⟨b3,0,none⟩) n n] 163)
 have hk:=h.old k
 have l1:=blk_lt (h.ms.all _ e1).2
 have l2:=blk_lt (h.ms.all _ e2).2
 have l3:=blk_lt (h.ms.all _ e3).2
 refine ⟨blk_alloc_new _ _,⟨⟨hk.ms.wr,λb hb=> ?_,?_⟩,hk.seat,λj hj=>⟨(h.off j hj).1,λq=> ?_⟩⟩,⟨h.ms.wr.size,l1,l2,l3,λj hj=>SrAt.lt h.seat hj⟩,World.ownsRow_nil _ _ _ _⟩
 ·simp only [List.mem_cons,List.not_mem_nil,or_false] at hb
  rcases hb with rfl|rfl|rfl
  ·exact hk.ms.all _ e1
  ·exact hk.ms.all _ e2
  ·exact hk.ms.all _ e3
 ·simp [n12,n13,n23]
 ·simp only [List.mem_cons,List.not_mem_nil,or_false] at q
  rcases q with rfl|rfl|rfl
  ·exact (h.off _ hj).2 e1
  ·exact (h.off _ hj).2 e2
  ·exact (h.off _ hj).2 e3
theorem RnSt.start' {w X:World} {n ea:Nat} {a:Int} {rb r b1 b2 b3:Nat} {bs:List Nat} {hv dv:Value} (hb:X.heap.size=rb) (h:MkT n (newSeat n true false) w X bs r hv dv) (e1:b1∈bs) (e2:b2∈bs) (e3:b3∈bs) (n12:b1≠b2) (n13:b1≠b3) (n23:b2≠b3):
  RnSt w (X.alloc (.cells #[.pointer (some ⟨r,0,none⟩),.int .i64 a,.int .i64 (ea:Nat),.slice none 0 0,.slice (some ⟨b1,0,none⟩) n n,.slice (some ⟨b2,0,none⟩) n n,.slice (some ⟨b3,0,none⟩) n n] 163)) n ea a rb r b1 b2 b3 hv dv 0 (.slice none 0 0):=by
 subst hb;exact RnSt.start h e1 e2 e3 n12 n13 n23
theorem RnSt.meet {w X:World} {n ea:Nat} {a:Int} {rb r b1 b2 b3:Nat} {bs:List Nat} {hv dv:Value} (hb:X.heap.size=rb) (h:MkT n (newSeat n true false) w X bs r hv dv) (e1:b1∈bs) (e2:b2∈bs) (e3:b3∈bs) (n12:b1≠b2) (n13:b1≠b3) (n23:b2≠b3):
  ∃ (rb' r' b1' b2' b3':Nat) (hv' dv':Value),Value.pointer (some ⟨rb,0,none⟩)= .pointer (some ⟨rb',0,none⟩)∧RnSt w (X.alloc (.cells #[.pointer (some ⟨r,0,none⟩),.int .i64 a,.int .i64 (ea:Nat),.slice none 0 0,.slice (some ⟨b1,0,none⟩) n n,.slice (some ⟨b2,0,none⟩) n n,.slice (some ⟨b3,0,none⟩) n n] 163)) n ea a rb' r' b1' b2' b3' hv' dv' 0 (.slice none 0 0):=
 ⟨rb,r,b1,b2,b3,hv,dv,rfl,RnSt.start' hb h e1 e2 e3 n12 n13 n23⟩
theorem RnSt.after {w X Y:World} {n ea:Nat} {a:Int} {rb r b1 b2 b3:Nat} {hv dv:Value} {k:Nat} {v:Value} (h:RnSt w X n ea a rb r b1 b2 b3 hv dv k v) (q:Wr Nil X Y):RnSt w Y n ea a rb r b1 b2 b3 hv dv k v:=
 ⟨(q.block _ (blk_lt h.obj) id).trans h.obj,h.mt.old q,h.lt,ownsRow_keep h.own λj hj=>q.block j (h.own.lt j hj).2 id⟩
theorem RnSt.next {w X Y:World} {n ea:Nat} {a:Int} {rb r b1 b2 b3:Nat} {hv dv:Value} {k:Nat} {v v':Value} (h:RnSt w X n ea a rb r b1 b2 b3 hv dv k v) (ho:Y.ownsRow (rb+1) 3 1 v' (k+1) ((List.range k).map (λ_=>Value.int .i64 1)++[.int .i64 1])) (hg:X.grownBy Y v.ownBlock):
  RnSt w (Y.setCell ⟨rb,3,none⟩ v') n ea a rb r b1 b2 b3 hv dv (k+1) v':=by
 have hl:=h.lt
 have k1:Wr (λj=>v.ownBlock=some j) X Y:=(Wr.refl _ X).grown hg λj hj _=>hj
 have hv0:∀ j,v.ownBlock=some j→rb+1≤j:=λj hj=>(h.own.lt j hj).1
 have hlb:=blk_lt h.obj
 have k2:Wr (One rb) Y (Y.setCell ⟨rb,3,none⟩ v'):=(Wr.refl _ Y).setCell _ _ λ_=>rfl
 have kk:Wr (λj=>rb≤j) X (Y.setCell ⟨rb,3,none⟩ v'):=(k1.mono λb _ e=>by have:=hv0 b e;omega).trans k2 λb _ e=>by cases e;exact Nat.le_refl _
 have o1:=(k1.block _ hlb λe=>by have:=hv0 rb e;omega).trans h.obj
 refine ⟨?_,⟨⟨h.mt.ms.wr.trans kk λb hb e=>by omega,λb hb=>⟨(h.mt.ms.all b hb).1,(kk.block _ (blk_lt (h.mt.ms.all b hb).2) λe=> ?_).trans (h.mt.ms.all b hb).2⟩,h.mt.ms.nd⟩,h.mt.seat.wrote kk λj hj e=>by have:=hl.2.2.2.2 j hj;omega,h.mt.off⟩,hl,?_⟩
 ·rw [blk_setCell o1];rfl
 ·simp only [List.mem_cons,List.not_mem_nil,or_false] at hb
  rcases hb with rfl|rfl|rfl<;>omega
 ·rw [List.range_succ,List.map_append]
  exact ownsRow_keep ho λj hj=>k2.block j (ho.lt j hj).2 λe=>by have:=(ho.lt j hj).1;cases e;omega
def rwF (g b1 b2 b3:Nat):Nat→Nat
 |0=>g
 |1=>b1
 |2=>b2
 |_=>b3
def NewMlPost (w:World) (n ea:Nat) (a:Int) (e:Ending) (w':World):Prop:=
 ∃ M:Mp,e= .returned (.pointer (some ⟨M.r,0,none⟩))∧MlRaw w' M (newSeat n true false) ea (fv (newF n ea n))∧M.a=a∧M.base=w'.heap.size∧(w.heap.size≤M.r∧∀ k,MF M k→w.heap.size≤k)∧Wr Nil w w'
theorem RnSt.done {w X:World} {n ea:Nat} {a:Int} {rb r b1 b2 b3:Nat} {hv dv:Value} {v:Value} (n1:1≤n) (h:RnSt w X n ea a rb r b1 b2 b3 hv dv n v):NewMlPost w n ea a (.returned (.pointer (some ⟨rb,0,none⟩))) X:=by
 have hl:=h.lt
 obtain ⟨g,cap,cur,rfl,hg,hc,hcap⟩:∃ g cap cur,v= .slice (some ⟨g,0,none⟩) n cap∧rb+1≤g∧X.heap[g]? =some (.cells cur 3 (0,0))∧∀ k,k<n→cur[k]? =some (Value.int .i64 1):=by
  rcases h.own.2 with ⟨_,e⟩|⟨g,cap,cur,e1,e2,e3,e4,e5,e6,e7⟩
  ·omega
  ·refine ⟨g,cap,cur,e1,e2,e3,λk hk=> ?_⟩
   have:(cur.toList.take (n*1))[k]? =some (Value.int .i64 1):=by rw [e7,List.getElem?_map,List.getElem?_range hk];rfl
   rw [List.getElem?_take_of_lt (by omega)] at this
   simpa using this
 have a1:=h.mt.ms.all b1 (by simp)
 have a2:=h.mt.ms.all b2 (by simp)
 have a3:=h.mt.ms.all b3 (by simp)
 have hnd:=h.mt.ms.nd
 simp only [List.nodup_cons,List.mem_cons,List.not_mem_nil,or_false,not_or,List.nodup_nil,not_false_eq_true,and_true] at hnd
 have hlg:=blk_lt hc
 have hlr:=blk_lt h.obj
 have rz:∀ b,X.heap[b]? =some (.cells (zrow n) 3 (0,0))→RowC X b n (λ_=>0):=λb hb=>⟨_,hb,λk hk=>rowA_at _ hk⟩
 have cases4:∀ i,i<4→i=0∨i=1∨i=2∨i=3:=λi hi=>by omega
 refine ⟨⟨rb,r,hv,dv,rwF g b1 b2 b3,cap,a,0,X.heap.size⟩,rfl,⟨h.obj,h.mt.seat,λi hi=> ?_,λi hi=>⟨?_,λj hj hij=> ?_⟩,λk hk=>⟨?_,λi hi=> ?_⟩,⟨hlr,λi hi=> ?_,λk hk=>SrAt.lt h.mt.seat hk⟩⟩,rfl,rfl,⟨hl.1,λk hk=> ?_⟩,h.mt.ms.wr⟩
 ·rcases cases4 i hi with rfl|rfl|rfl|rfl
  ·exact ⟨_,hc,λk hk=>by rw [hcap k hk];rfl⟩
  ·exact rz _ a1.2
  ·exact rz _ a2.2
  ·exact rz _ a3.2
 ·rcases cases4 i hi with rfl|rfl|rfl|rfl<;>simp only [rwF]<;>omega
 ·rcases cases4 i hi with rfl|rfl|rfl|rfl<;>rcases cases4 j hj with rfl|rfl|rfl|rfl<;>simp only [rwF]<;>first|exact absurd rfl hij|omega
 ·have:=hl.2.2.2.2 k hk;dsimp only;omega
 ·have s1:=hl.2.2.2.2 k hk
  have s2:=(h.mt.off k hk).2
  simp only [List.mem_cons,List.not_mem_nil,or_false,not_or] at s2
  rcases cases4 i hi with rfl|rfl|rfl|rfl<;>simp only [rwF]<;>first|omega|exact s2.1|exact s2.2.1|exact s2.2.2
 ·rcases cases4 i hi with rfl|rfl|rfl|rfl<;>simp only [rwF]<;>omega
 ·rcases hk with ⟨i,hi,rfl⟩|hk
  ·rcases cases4 i hi with rfl|rfl|rfl|rfl<;>simp only [rwF]<;>omega
  ·exact (h.mt.off k hk).1
theorem ml_new (n ea:Nat) (n1:1≤n) (n2:n≤64) (a:Int) (w:World):Calls prog 42 #[.int .i64 (n:Int),.int .i64 (ea:Int),.int .i64 a] w (NewMlPost w n ea a):=by
 obtain ⟨i0,hi,hz0,hz1,hz2⟩:=info_parts info_int
 have hmk:∀ w:World,(Instr.makeSlice 22 (.int .i64 (n:Int)) (.int .i64 (n:Int))).run prog w= .ok (.slice (some ⟨w.heap.size,0,none⟩) n n) (w.alloc (.cells (zrow n) 3)):=by
  intro w
  have h:=Go.run_make (P:=prog) w 22 3 i0 _ underlying22 hi hz0 .i64 .i64 n n (by omega) (by omega) (by rw [hz2];omega) (by omega)
  rw [hz1] at h
  simp only [Int.toNat_natCast] at h
  rw [show madeCells (Value.int .i64 0).cells (n*1)=rowA n (inV λ_=>0) from made_row (.int .i64 0) n] at h
  exact h
 generalize hA:zrow n=A at hmk
 have cS:=λW=>rs_new n true false n2 W
 have HA:=Lib.hid hA
 clear hA
 go_enter func42,ntmps42
 go_wp2
 go_cut [7] from 9 to 21 (λv7 wx=>∃ (rb r b1 b2 b3:Nat) (hv dv:Value),v7= .pointer (some ⟨rb,0,none⟩)∧RnSt w wx n ea a rb r b1 b2 b3 hv dv 0 (.slice none 0 0))
 case first=>
  go_region_with (go_at_call 65;(with_reducible refine (cS _).mono ?_);intro e w2 hq;unfold RsNewPost at hq;obtain ⟨r,hv,dv,rfl,hR,hnew,hW⟩:=hq;have HR:=Lib.hid (And.intro hR (And.intro hnew hW));clear hR hnew hW cS)
  all_goals
   go_wp2
   go_meet
   have hsz:=HR.out.2.2.size
   try simp only [nblk_alloc,nblk_drew] at hsz
   apply RnSt.meet
   rotate_left
   repeat (first|apply MkT.alloc HA.out|apply MkT.drew)
   apply MkT.call _ HR.out.1 HR.out.2.1 HR.out.2.2
   any_goals (repeat (first|apply MkS.alloc HA.out|apply MkS.drew))
   any_goals exact MkS.start n w
   all_goals first|(simp only [nblk_alloc,List.mem_cons,true_or,or_true])|omega
 case rest=>
  obtain ⟨rb,r,b1,b2,b3,hv,dv,rfl,hS⟩:=hcut
  go_wp2
  go_loopw [8] (λi wr=>∃ (k:Nat) (v:Value),k≤n∧i= .int .i64 k∧RnSt w wr n ea a rb r b1 b2 b3 hv dv k v) (λi _=>n-(intOf i).toNat)
  case atStart=>exact ⟨0,_,Nat.zero_le _,rfl,hS⟩
  case round=>
   clear hS
   obtain ⟨k,v,hk,rfl,hS⟩:=hrel
   by_cases hlt:k<n
   ·have HS:=Lib.hid hS
    have k1:Wr Nil wr (wr.alloc (.cells #[.int .i64 1] 3)):=(Wr.refl Nil wr).alloc _
    have hown:=(hS.after k1).own
    have hb:rb<wr.heap.size:=blk_lt hS.obj
    clear hS
    have c3:wr.cell? ⟨rb,3,none⟩=some v:=(blk_cell HS.out.obj 3).trans rfl
    go_wp2_with (at_builtin;refine wpList_append_own _ rfl _ _ 22 rfl (rb+1) 3 i0 (.int .i64 0) 1 8 underlying22 hi hz0 hz1 hz2 rfl (by decide) _ _ _ rfl hown ⟨wr.heap.size,0,none⟩ 1 1 [.int .i64 1] rfl rfl ?c1 ?c2 ?c3 ?c4 ?c5 ?_)
    case c1=>
     intro j u hj
     match j,hj with
     |0,hj=>simp at hj;subst hj;simp [Addr.add]
    case c2=>intro u hu;simp at hu;subst hu;rfl
    case c3=>unfold maxLen;omega
    case c4=>omega
    case c5=>simp;omega
    ·intro v' w1 hown' hgrow _
     obtain ⟨so,cp,rfl⟩:=s_form hown'
     have o1:w1.heap[rb]? =_:=(((Wr.refl (λj=>v.ownBlock=some j) _).grown hgrow λj hj _=>hj).block rb (by have e:=nblk_alloc wr (.cells #[.int .i64 1] 3);omega) (λe=>by have:=(hown.lt rb e).1;omega)).trans (HS.out.after k1).obj
     have e1:w1.cell? ⟨rb,3,none⟩=some v:=(blk_cell o1 3).trans rfl
     have f1:=blk_frozen o1 3
     have HN:=Lib.hid ((HS.out.after k1).next hown' hgrow)
     clear hown' hgrow o1
     go_wp2
     go_roundw
     case rel=>exact ⟨k+1,.slice so (k+1) cp,by omega,by go_num,HN.out⟩
     case measure=>simp [intOf];omega
   ·obtain rfl:k=n:=by omega
    go_wp2
    go_ret
    exact RnSt.done n1 hS
end Go.Proofs.YtcikfcplagelaaaGreat.Ka

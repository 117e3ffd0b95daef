
import Derived.Test.YtmnephejhkfchaaGreatMemHomes
import Derived.Test.YtmnephejhkfchaaGreatCacheRef
namespace Go.Proofs.YtmnephejhkfchaaGreat
open _root_.Go.Proofs.Tryz
open Go.RowKit
set_option linter.unusedVariables false
set_option maxRecDepth 100000
structure PSta where
 ws:List Int
 D:List Tch
 ac:List Nat
 wc:List Nat
 mc:List Nat
def bump (l:List Nat) (t:Nat) (b:Bool):List Nat:=if b then l.set t (l.getD t 0+1) else l
theorem bump_len (l:List Nat) (t:Nat) (b:Bool):(bump l t b).length=l.length:=by cases b<;>simp [bump]
theorem bump_le {l:List Nat} {t:Nat} {b:Bool} {L:Nat} (h:∀ x∈l,x≤L):∀ x∈bump l t b,x≤L+1:=by
 intro x hx
 cases b
 ·exact Nat.le_succ_of_le (h x hx)
 ·rcases List.mem_or_eq_of_mem_set hx with hx|rfl
  ·exact Nat.le_succ_of_le (h x hx)
  ·by_cases ht:t<l.length
   ·have:l.getD t 0=l[t]:=by simp [ht]
    rw [this]
    exact Nat.succ_le_succ (h _ (List.getElem_mem ht))
   ·simp [List.getElem?_eq_none (show l.length≤t by omega)]
theorem getD_le {l:List Nat} {L:Nat} (h:∀ x∈l,x≤L) (t:Nat):l.getD t 0≤L:=by
 by_cases ht:t<l.length
 ·have:l.getD t 0=l[t]:=by simp [ht]
  rw [this]
  exact h _ (List.getElem_mem ht)
 ·simp [List.getElem?_eq_none (show l.length≤t by omega)]
def okT (s:PSta) (t a:Int):Bool:=decide (0≤t∧t<s.ac.length∧0≤a∧a<s.ws.length)
def touchS (s:PSta) (t a:Int) (wr:Bool):PSta:=
 {ws:=s.ws,D:=s.D++[(t,a,wr)],ac:=bump s.ac t.toNat true,wc:=bump s.wc t.toNat wr,mc:=bump s.mc t.toNat (missL s.D t a wr s.ac.length)}
def cntS (s:PSta) (t a:Int) (wr:Bool):PSta:=if okT s t a then touchS s t a wr else s
def okS (s:PSta) (t K a:Int):Bool:=okT s t a&&decide (1≤K∧K≤5)
def doS (s:PSta) (t K a old v:Int):PSta:=if okS s t K a then {touchS s t a (decide (1<K)) with ws:=doL s.ws K a old v} else s
def tellS (s:PSta) (t K a:Int):Int:=if okS s t K a then tellI s.ws K a else 0
theorem okT_at {s:PSta} {t a:Nat} (ht:t<s.ac.length) (ha:a<s.ws.length):okT s t a=true:=by simp [okT,ht,ha]
theorem okT_not {s:PSta} {t a:Int} (h:¬(0≤t∧t<s.ac.length∧0≤a∧a<s.ws.length)):okT s t a=false:=by simp only [okT,decide_eq_false_iff_not];exact h
structure Place where
 p:Nat
 m:Nat
 bw:Nat
 c:Nat
 bc:Nat
 bm:Nat
 ba:Nat
 bv:Nat
 k0:Nat
 k1:Nat
 k2:Nat
 k3:Nat
 hv:Value
def Rng (a b:Nat) (k:Nat):Prop:=a≤k∧k<b
structure Place.ok (q:Place):Prop where
 m:q.k0≤q.m∧q.m<q.k1
 bw:q.k0≤q.bw∧q.bw<q.k1
 hv:∀ k,q.hv.ownBlock=some k→q.k0≤k∧k<q.k1
 c:q.k1≤q.c∧q.c<q.k2
 bc:q.k1≤q.bc∧q.bc<q.k2
 bm:q.k1≤q.bm∧q.bm<q.k2
 p:q.k2≤q.p∧q.p<q.k3
 ba:q.k2≤q.ba∧q.ba<q.k3
 bv:q.k2≤q.bv∧q.bv<q.k3
 ne:q.p≠q.ba∧q.p≠q.bv∧q.ba≠q.bv
 le:q.k0≤q.k1∧q.k1≤q.k2∧q.k2≤q.k3
def natRow (l:List Nat):Array Value:=(l.map λ(n:Nat)=>Value.int .i64 (n:Int)).toArray
theorem natRow_at {l:List Nat} {k:Nat} (hk:k<l.length):(natRow l)[k]? =some (.int .i64 ((l.getD k 0:Nat):Int)):=by simp [natRow,hk]
theorem natRow_set (l:List Nat) (k v:Nat):(natRow l).setIfInBounds k (.int .i64 (v:Int))=natRow (l.set k v):=by simp [natRow,List.map_set]
structure PortAt (w:World) (q:Place) (hs:List Int) (s:PSta):Prop where
 obj:w.heap[q.p]? =some (.cells #[.pointer (some ⟨q.m,0,none⟩),.pointer (some ⟨q.c,0,none⟩),.slice (some ⟨q.ba,0,none⟩) s.ac.length s.ac.length,.slice (some ⟨q.bv,0,none⟩) s.ac.length s.ac.length] 152 (0,0))
 mem:MemAt w q.m q.bw q.hv hs s.ws
 cache:∃ cs,CacheAt w q.c q.bc q.bm cs s.mc s.D.length∧cs.length=s.ws.length∧Rel cs s.ac.length s.D
 acc:w.heap[q.ba]? =some (.cells (natRow s.ac) 3 (0,0))
 wri:w.heap[q.bv]? =some (.cells (natRow s.wc) 3 (0,0))
 lv:s.wc.length=s.ac.length
 lm:s.mc.length=s.ac.length
 rngA:∀ x∈s.ac,x≤s.D.length
 rngV:∀ x∈s.wc,x≤s.D.length
 place:q.ok
namespace PortAt
variable {w w':World} {q:Place} {hs:List Int} {s:PSta}
theorem cell0 (h:PortAt w q hs s):w.cell? ⟨q.p,0,none⟩=some (.pointer (some ⟨q.m,0,none⟩)):=by rw [blk_cell h.obj];rfl
theorem cell1 (h:PortAt w q hs s):w.cell? ⟨q.p,1,none⟩=some (.pointer (some ⟨q.c,0,none⟩)):=by rw [blk_cell h.obj];rfl
theorem cell2 (h:PortAt w q hs s):w.cell? ⟨q.p,2,none⟩=some (.slice (some ⟨q.ba,0,none⟩) s.ac.length s.ac.length):=by rw [blk_cell h.obj];rfl
theorem cell3 (h:PortAt w q hs s):w.cell? ⟨q.p,3,none⟩=some (.slice (some ⟨q.bv,0,none⟩) s.ac.length s.ac.length):=by rw [blk_cell h.obj];rfl
theorem count (h:PortAt w q hs s) {k:Nat} (hk:k<s.ac.length):w.cell? ⟨q.ba,k,none⟩=some (.int .i64 ((s.ac.getD k 0:Nat):Int)):=by rw [blk_cell h.acc,natRow_at hk]
theorem writes (h:PortAt w q hs s) {k:Nat} (hk:k<s.ac.length):w.cell? ⟨q.bv,k,none⟩=some (.int .i64 ((s.wc.getD k 0:Nat):Int)):=by rw [blk_cell h.wri,natRow_at (by rw [h.lv];exact hk)]
theorem frozenA (h:PortAt w q hs s) (k:Nat):w.frozen? ⟨q.ba,k,none⟩=false:=blk_frozen h.acc k
theorem frozenV (h:PortAt w q hs s) (k:Nat):w.frozen? ⟨q.bv,k,none⟩=false:=blk_frozen h.wri k
theorem wrote {S:Nat→Prop} (h:PortAt w q hs s) (k:Wr S w w') (hS:∀ b,q.k0≤b→b<q.k3→¬ S b):PortAt w' q hs s:=by
 obtain ⟨cs,h1,h2,h3⟩:=h.cache
 have P:=h.place
 have q1:=P.m;have q2:=P.bw;have q3:=P.hv;have q4:=P.c;have q5:=P.bc;have q6:=P.bm;have q7:=P.p;have q8:=P.ba;have q9:=P.bv;have q10:=P.le
 refine ⟨(k.block q.p (blk_lt h.obj) (hS _ (by omega) (by omega))).trans h.obj,h.mem.wrote k (hS _ (by omega) (by omega)) (hS _ (by omega) (by omega)) (λj hj=>hS _ (by have:=q3 j hj;omega) (by have:=q3 j hj;omega)),
  ⟨cs,h1.wrote k (hS _ (by omega) (by omega)) (hS _ (by omega) (by omega)) (hS _ (by omega) (by omega)),h2,h3⟩,(k.block q.ba (blk_lt h.acc) (hS _ (by omega) (by omega))).trans h.acc,(k.block q.bv (blk_lt h.wri) (hS _ (by omega) (by omega))).trans h.wri,
  h.lv,h.lm,h.rngA,h.rngV,h.place⟩
theorem memory (h:PortAt w q hs s) {ws':List Int} (hM:MemAt w' q.m q.bw q.hv hs ws') (hl:ws'.length=s.ws.length) (k:Wr (One q.bw) w w'):PortAt w' q hs {s with ws:=ws'}:=by
 obtain ⟨cs,h1,h2,h3⟩:=h.cache
 have P:=h.place
 have q1:=P.m;have q2:=P.bw;have q4:=P.c;have q5:=P.bc;have q6:=P.bm;have q7:=P.p;have q8:=P.ba;have q9:=P.bv;have q10:=P.le
 have n:∀ b,q.k1≤b→¬ One q.bw b:=λb hb e=>by cases e;omega
 exact ⟨(k.block q.p (blk_lt h.obj) (n _ (by omega))).trans h.obj,hM,⟨cs,h1.wrote k (n _ (by omega)) (n _ (by omega)) (n _ (by omega)),h2.trans hl.symm,h3⟩,(k.block q.ba (blk_lt h.acc) (n _ (by omega))).trans h.acc,
  (k.block q.bv (blk_lt h.wri) (n _ (by omega))).trans h.wri,h.lv,h.lm,h.rngA,h.rngV,h.place⟩
theorem counted (h:PortAt w q hs s) {cs:List Nat} {t a:Nat} {wr:Bool} (ht:t<s.ac.length) (ha:a<s.ws.length) (hc:CacheAt w q.c q.bc q.bm cs s.mc s.D.length) (hl:cs.length=s.ws.length) (hr:Rel cs s.ac.length s.D)
  (k:Wr (λb=>b=q.ba∨b=q.bv∨b=q.bc∨b=q.bm) w w') (hA:w'.heap[q.ba]? =some (.cells (natRow (bump s.ac t true)) 3 (0,0))) (hV:w'.heap[q.bv]? =some (.cells (natRow (bump s.wc t wr)) 3 (0,0)))
  (hC:CacheAt w' q.c q.bc q.bm (touchC cs t a wr) (touchM cs s.mc t a wr) (s.D.length+1)):PortAt w' q hs (touchS s t a wr)∧Wr (Rng q.k0 q.k3) w w':=by
 have P:=h.place
 have q1:=P.m;have q2:=P.bw;have q3:=P.hv;have q4:=P.c;have q5:=P.bc;have q6:=P.bm;have q7:=P.p;have q8:=P.ba;have q9:=P.bv;have q10:=P.le;have q11:=P.ne
 have hrow:=hc.row_lt a
 rw [h.lm] at hrow
 have hm:=rel_miss hr ht (by omega) hrow wr
 have hM:touchM cs s.mc t a wr=bump s.mc t (missL s.D t a wr s.ac.length):=by unfold touchM bump;rw [hm]
 rw [hM] at hC
 refine ⟨⟨?_,?_,⟨touchC cs t a wr,?_,?_,?_⟩,?_,?_,?_,?_,?_,?_,P⟩,k.mono ?_⟩
 ·have:=(k.block q.p (blk_lt h.obj) (by rintro (e|e|e|e)<;>omega)).trans h.obj
  simpa [touchS,bump_len] using this
 ·exact h.mem.wrote k (by rintro (e|e|e|e)<;>omega) (by rintro (e|e|e|e)<;>omega) (λj hj=>by have:=q3 j hj;rintro (e|e|e|e)<;>omega)
 ·have:(touchS s t a wr).D.length=s.D.length+1:=by simp [touchS]
  rw [this]
  exact hC
 ·rw [touchC_len];exact hl
 ·have:=rel_touch hr ht (by omega) (a:=a) wr
  simpa [touchS,bump_len] using this
 ·exact hA
 ·exact hV
 ·simp [touchS,bump_len,h.lv]
 ·simp [touchS,bump_len,h.lm]
 ·intro x hx
  have:=bump_le h.rngA x (show x∈bump s.ac t true from hx)
  simpa [touchS] using this
 ·intro x hx
  have:=bump_le h.rngV x (show x∈bump s.wc t wr from hx)
  simpa [touchS] using this
 ·intro b _ hb
  unfold Rng
  rcases hb with e|e|e|e<;>omega
end PortAt
theorem inB_at' {n:Nat} {a:Int} (h:0≤a∧a<n):inB n a=true:=by simp only [inB,decide_eq_true_eq];exact h
theorem pthread_any {w:World} {q:Place} {hs:List Int} {s:PSta} (h:PortAt w q hs s) (t:Int):
  Calls prog 94 #[.pointer (some ⟨q.p,0,none⟩),.int .i64 t] w λe w'=>e= .returned (.bool (inB s.ac.length t))∧w'=w:=by
 have c1:=h.cell2
 have H:=Lib.hid h
 clear h
 by_cases h0:0≤t
 ·by_cases h1:t<s.ac.length
  ·have hh:Hid (inB s.ac.length t=true):=Lib.hid (by simp [inB,h0,h1])
   go_enter func94,ntmps94
   go_wp2
   go_ret
   exact ⟨ret_truth hh.out.symm,rfl⟩
  ·have hh:Hid (inB s.ac.length t=false):=Lib.hid (inB_not (by omega))
   go_enter func94,ntmps94
   go_wp2
   go_ret
   exact ⟨ret_truth hh.out.symm,rfl⟩
 ·have hh:Hid (inB s.ac.length t=false):=Lib.hid (inB_not (by omega))
  go_enter func94,ntmps94
  go_wp2
  go_ret
  exact ⟨ret_truth hh.out.symm,rfl⟩
theorem pword_any {w:World} {q:Place} {hs:List Int} {s:PSta} (h:PortAt w q hs s) (a:Int):
  Calls prog 95 #[.pointer (some ⟨q.p,0,none⟩),.int .i64 a] w λe w'=>e= .returned (.bool (inB s.ws.length a))∧w'=w:=by
 have c1:=h.cell0
 have c2:=len_any h.mem
 have H:=Lib.hid h
 clear h
 by_cases h0:0≤a
 ·by_cases h1:a<s.ws.length
  ·have hh:Hid (inB s.ws.length a=true):=Lib.hid (by simp [inB,h0,h1])
   go_enter func95,ntmps95
   go_wp2_with (go_at_call 101;refine c2.mono ?_;rintro e w' ⟨rfl,rfl⟩)
   go_ret
   exact ⟨ret_truth hh.out.symm,rfl⟩
  ·have hh:Hid (inB s.ws.length a=false):=Lib.hid (inB_not (by omega))
   go_enter func95,ntmps95
   go_wp2_with (go_at_call 101;refine c2.mono ?_;rintro e w' ⟨rfl,rfl⟩)
   go_ret
   exact ⟨ret_truth (by rw [hh.out];simp;omega),rfl⟩
 ·have hh:Hid (inB s.ws.length a=false):=Lib.hid (inB_not (by omega))
  go_enter func95,ntmps95
  go_wp2
  go_ret
  exact ⟨ret_truth hh.out.symm,rfl⟩
set_option maxHeartbeats 8000000
open _root_.Go.Proofs.Tryz Go.Deep
def CountPost (q:Place) (hs:List Int) (s:PSta) (b:Bool) (w:World) (e:Ending) (w':World):Prop:=
 e= .returned (.bool b)∧PortAt w' q hs s∧Wr (Rng q.k0 q.k3) w w'
theorem block_at {w:World} {b:Nat} {l:List Nat} {t:TypeId} (h:w.heap[b]? =some (.cells (natRow l) t (0,0))) (k:Nat):(w.setCell ⟨b,k,none⟩ (.int .i64 (((l.getD k 0:Nat):Int)+1))).heap[b]? =some (.cells (natRow (bump l k true)) t (0,0)):=by
 rw [blk_setCell h]
 have:=natRow_set l k (l.getD k 0+1)
 simp only [bump,if_pos]
 rw [←this]
 rfl
set_option maxRecDepth 100000 in
theorem count_ok {w:World} {q:Place} {hs:List Int} {s:PSta} (h:PortAt w q hs s) (t a:Nat) (wr:Bool) (ht:t<s.ac.length) (ha:a<s.ws.length) (hD:s.D.length<4611686018427387904):
  Calls prog 89 #[.pointer (some ⟨q.p,0,none⟩),.int .i64 t,.int .i64 a,.bool wr] w (CountPost q hs (touchS s t a wr) true w):=by
 have c1:=pthread_any h t
 rw [inB_at ht] at c1
 have c2:=pword_any h a
 rw [inB_at ha] at c2
 have d1:=h.cell1
 have d2:=h.cell2
 have d3:=h.cell3
 have d4:=h.count ht
 have d5:=h.writes ht
 have d6:=h.frozenA t
 have d7:=h.frozenV t
 have ht':(t:Int)<s.ac.length:=by omega
 have ht0:(0:Int)≤t:=by omega
 have b1:((s.ac.getD t 0:Nat):Int)+1≤9223372036854775807:=by have:=getD_le h.rngA t;omega
 have b2:((s.wc.getD t 0:Nat):Int)+1≤9223372036854775807:=by have:=getD_le h.rngV t;omega
 have P:=h.place
 have n1:¬ q.p=q.ba:=P.ne.1
 have n2:¬ q.p=q.bv:=P.ne.2.1
 have n3:¬ q.bv=q.ba:=P.ne.2.2.symm
 have n4:∀ b,b<q.k2→b≠q.ba∧b≠q.bv:=λb hb=>by have:=P.ba;have:=P.bv;omega
 obtain ⟨cs,hc,hl,hr⟩:=h.cache
 have k1:∀ b,b<q.k2→(w.setCell ⟨q.ba,t,none⟩ (.int .i64 (((s.ac.getD t 0:Nat):Int)+1))).heap[b]? =w.heap[b]? :=λb hb=>blk_setCell_other _ _ _ _ (n4 b hb).1
 have k2:∀ b,b<q.k2→((w.setCell ⟨q.ba,t,none⟩ (.int .i64 (((s.ac.getD t 0:Nat):Int)+1))).setCell ⟨q.bv,t,none⟩ (.int .i64 (((s.wc.getD t 0:Nat):Int)+1))).heap[b]? =w.heap[b]? :=λb hb=>(blk_setCell_other _ _ _ _ (n4 b hb).2).trans (k1 b hb)
 have W1:Wr (λb=>b=q.ba∨b=q.bv∨b=q.bc∨b=q.bm) w (w.setCell ⟨q.ba,t,none⟩ (.int .i64 (((s.ac.getD t 0:Nat):Int)+1))):=(Wr.refl _ w).setCell _ _ λ_=> .inl rfl
 have W2:=W1.setCell ⟨q.bv,t,none⟩ (.int .i64 (((s.wc.getD t 0:Nat):Int)+1)) λ_=> .inr (.inl rfl)
 have hC1:=hc.keep (k1 q.c P.c.2) (k1 q.bc P.bc.2) (k1 q.bm P.bm.2)
 have hC2:=hc.keep (k2 q.c P.c.2) (k2 q.bc P.bc.2) (k2 q.bm P.bm.2)
 have hA1:=block_at h.acc t
 have hA2:=(blk_setCell_other (w.setCell ⟨q.ba,t,none⟩ (.int .i64 (((s.ac.getD t 0:Nat):Int)+1))) ⟨q.bv,t,none⟩ (.int .i64 (((s.wc.getD t 0:Nat):Int)+1)) q.ba (P.ne.2.2)).trans hA1
 have hV1:=(blk_setCell_other w ⟨q.ba,t,none⟩ (.int .i64 (((s.ac.getD t 0:Nat):Int)+1)) q.bv (P.ne.2.2.symm)).trans h.wri
 have hV2:=block_at hV1 t
 have hlm:=h.lm
 have hP:∀ w',Wr (λb=>b=q.ba∨b=q.bv∨b=q.bc∨b=q.bm) w w'→w'.heap[q.ba]? =some (.cells (natRow (bump s.ac t true)) 3 (0,0))→w'.heap[q.bv]? =some (.cells (natRow (bump s.wc t wr)) 3 (0,0))→
   CacheAt w' q.c q.bc q.bm (touchC cs t a wr) (touchM cs s.mc t a wr) (s.D.length+1)→PortAt w' q hs (touchS s t a wr)∧Wr (Rng q.k0 q.k3) w w':=λw' x1 x2 x3 x4=>h.counted ht ha hc hl hr x1 x2 x3 x4
 have hne:∀ b,q.k2≤b→¬ Two q.bc q.bm b:=λb hb e=>by have:=P.bc;have:=P.bm;rcases e with e|e<;>omega
 have hba:=P.ba.1
 have hbv:=P.bv.1
 obtain ⟨x,hx⟩:∃ x,x=s.ac.getD t 0:=⟨_,rfl⟩
 obtain ⟨y,hy⟩:∃ y,y=s.wc.getD t 0:=⟨_,rfl⟩
 rw [←hx] at d4 b1 k1 k2 W1 W2 hC1 hC2 hA1 hA2 hV1 hV2
 rw [←hy] at d5 b2 k2 W2 hC2 hA2 hV2
 cases wr
 ·have cT:=touch_there hC1 t a false (by omega) (by omega) hD
  have HH:=Lib.hid (And.intro W1 (And.intro hA1 (And.intro hV1 (And.intro hP (And.intro hne (And.intro hba hbv))))))
  clear hC1 hC2 hA1 hA2 hV1 hV2 hP hne hba hbv W1 W2 k1 k2 hx hy h P hc hr n4
  go_enter func89,ntmps89
  go_wp2_with (first
   |(go_at_call 94;with_reducible refine c1.mono ?_;rintro e w' ⟨rfl,rfl⟩)
   |(go_at_call 95;with_reducible refine c2.mono ?_;rintro e w' ⟨rfl,rfl⟩)
   |(go_at_call 96;with_reducible refine cT.mono ?_;intro e w3 h3;unfold TouchPost at h3;obtain ⟨rfl,hC3,hW3⟩:=h3))
  go_ret
  obtain ⟨f1,f2,f3,f4,f5,f6,f7⟩:=HH.out
  have r:=f4 w3 (f1.trans hW3 λb _ e=>by rcases e with e|e<;>simp [e]) ((hW3.block _ (blk_lt f2) (f5 _ f6)).trans f2) ((hW3.block _ (blk_lt f3) (f5 _ f7)).trans f3) hC3
  exact ⟨rfl,r.1,r.2⟩
 ·have cT:=touch_there hC2 t a true (by omega) (by omega) hD
  have HH:=Lib.hid (And.intro W2 (And.intro hA2 (And.intro hV2 (And.intro hP (And.intro hne (And.intro hba hbv))))))
  clear hC1 hC2 hA1 hA2 hV1 hV2 hP hne hba hbv W1 W2 k1 k2 hx hy h P hc hr n4
  go_enter func89,ntmps89
  go_wp2_with (first
   |(go_at_call 94;with_reducible refine c1.mono ?_;rintro e w' ⟨rfl,rfl⟩)
   |(go_at_call 95;with_reducible refine c2.mono ?_;rintro e w' ⟨rfl,rfl⟩)
   |(go_at_call 96;with_reducible refine cT.mono ?_;intro e w3 h3;unfold TouchPost at h3;obtain ⟨rfl,hC3,hW3⟩:=h3))
  go_ret
  obtain ⟨f1,f2,f3,f4,f5,f6,f7⟩:=HH.out
  have r:=f4 w3 (f1.trans hW3 λb _ e=>by rcases e with e|e<;>simp [e]) ((hW3.block _ (blk_lt f2) (f5 _ f6)).trans f2) ((hW3.block _ (blk_lt f3) (f5 _ f7)).trans f3) hC3
  exact ⟨rfl,r.1,r.2⟩
theorem count_not {w:World} {q:Place} {hs:List Int} {s:PSta} (h:PortAt w q hs s) (t a:Int) (wr:Bool) (hn:¬(0≤t∧t<s.ac.length∧0≤a∧a<s.ws.length)):
  Calls prog 89 #[.pointer (some ⟨q.p,0,none⟩),.int .i64 t,.int .i64 a,.bool wr] w λe w'=>e= .returned (.bool false)∧w'=w:=by
 have c1:=pthread_any h t
 have c2:=pword_any h a
 by_cases ht:0≤t∧t<s.ac.length
 ·rw [inB_at' ht] at c1
  rw [inB_not (by omega)] at c2
  clear h hn ht
  go_enter func89,ntmps89
  go_wp2_with (first
   |(go_at_call 94;with_reducible refine c1.mono ?_;rintro e w' ⟨rfl,rfl⟩)
   |(go_at_call 95;with_reducible refine c2.mono ?_;rintro e w' ⟨rfl,rfl⟩))
  go_ret
  exact ⟨rfl,rfl⟩
 ·rw [inB_not ht] at c1
  clear h hn ht c2
  go_enter func89,ntmps89
  go_wp2_with (first
   |(go_at_call 94;with_reducible refine c1.mono ?_;rintro e w' ⟨rfl,rfl⟩))
  go_ret
  exact ⟨rfl,rfl⟩
theorem count_any {w:World} {q:Place} {hs:List Int} {s:PSta} (h:PortAt w q hs s) (t a:Int) (wr:Bool) (hD:s.D.length<4611686018427387904):
  Calls prog 89 #[.pointer (some ⟨q.p,0,none⟩),.int .i64 t,.int .i64 a,.bool wr] w (CountPost q hs (cntS s t a wr) (okT s t a) w):=by
 by_cases hn:0≤t∧t<s.ac.length∧0≤a∧a<s.ws.length
 ·obtain ⟨t,rfl⟩:=Int.eq_ofNat_of_zero_le hn.1
  obtain ⟨a,rfl⟩:=Int.eq_ofNat_of_zero_le hn.2.2.1
  unfold cntS
  rw [okT_at (show t<s.ac.length by omega) (show a<s.ws.length by omega),if_pos rfl]
  exact count_ok h t a wr (by omega) (by omega) hD
 ·unfold cntS
  rw [okT_not hn,if_neg (by decide)]
  refine (count_not h t a wr hn).mono ?_
  rintro e w' ⟨rfl,rfl⟩
  exact ⟨rfl,h,Wr.refl _ _⟩
theorem doS_not {s:PSta} {t K a old v:Int} (h:okT s t a=false):doS s t K a old v=s:=by simp [doS,okS,h]
theorem tellS_not {s:PSta} {t K a:Int} (h:okT s t a=false):tellS s t K a=0:=by simp [tellS,okS,h]
theorem cntS_not {s:PSta} {t a:Int} {wr:Bool} (h:okT s t a=false):cntS s t a wr=s:=by simp [cntS,h]
theorem cntS_ok {s:PSta} {t a:Int} {wr:Bool} (h:okT s t a=true):cntS s t a wr=touchS s t a wr:=by simp [cntS,h]
def AccPost (q:Place) (hs:List Int) (s:PSta) (v:Value) (w:World) (e:Ending) (w':World):Prop:=
 e= .returned v∧PortAt w' q hs s∧Wr (Rng q.k0 q.k3) w w'
theorem mem_rng {q:Place} (P:q.ok) {w w' w'':World} (h:Wr (Rng q.k0 q.k3) w w') (k:Wr (One q.bw) w' w''):Wr (Rng q.k0 q.k3) w w'':=
 h.trans k λb _ e=>by have:=P.bw;have:=P.le;cases e;unfold Rng;omega
theorem pload_any {w:World} {q:Place} {hs:List Int} {s:PSta} (h:PortAt w q hs s) (t a:Int) (hD:s.D.length<4611686018427387904):
  Calls prog 85 #[.pointer (some ⟨q.p,0,none⟩),.int .i64 t,.int .i64 a] w (AccPost q hs (doS s t 1 a 0 0) (.int .u32 (tellS s t 1 a)) w):=by
 have c:=count_any h t a false hD
 cases hb:okT s t a
 ·rw [hb,cntS_not hb] at c
  rw [doS_not hb,tellS_not hb]
  clear hb h
  go_enter func85,ntmps85
  go_wp2_with (go_at_call 89;with_reducible refine c.mono ?_;intro e w' h';unfold CountPost at h';obtain ⟨rfl,hP,hW⟩:=h')
  go_ret
  exact ⟨rfl,hP,hW⟩
 ·rw [hb,cntS_ok hb] at c
  have e1:tellS s t 1 a=loadI s.ws a:=by simp [tellS,okS,hb,tellI]
  have e2:doS s t 1 a 0 0=touchS s t a false:=by simp [doS,okS,hb,doL,touchS]
  rw [e1,e2]
  clear hb h e1 e2
  go_enter func85,ntmps85
  go_wp2_with (first
   |(go_at_call 89;with_reducible refine c.mono ?_;intro e w' h';unfold CountPost at h';obtain ⟨rfl,hP,hW⟩:=h';have d0:=hP.cell0)
   |(go_at_call 90;with_reducible refine (load_any hP.mem a).mono ?_;rintro e w3 ⟨rfl,rfl⟩))
  go_ret
  exact ⟨rfl,hP,hW⟩
theorem pstore_any {w:World} {q:Place} {hs:List Int} {s:PSta} (h:PortAt w q hs s) (t a v:Int) (v0:0≤v) (v1:v<4294967296) (hD:s.D.length<4611686018427387904):
  Calls prog 98 #[.pointer (some ⟨q.p,0,none⟩),.int .i64 t,.int .i64 a,.int .u32 v] w (AccPost q hs (doS s t 2 a 0 v) (.tuple #[]) w):=by
 have c:=count_any h t a true hD
 cases hb:okT s t a
 ·rw [hb,cntS_not hb] at c
  rw [doS_not hb]
  clear hb h
  go_enter func98,ntmps98
  go_wp2_with (go_at_call 89;with_reducible refine c.mono ?_;intro e w' h';unfold CountPost at h';obtain ⟨rfl,hP,hW⟩:=h')
  go_end0
  exact ⟨rfl,hP,hW⟩
 ·rw [hb,cntS_ok hb] at c
  have e2:doS s t 2 a 0 v={touchS s t a true with ws:=storeL s.ws a v}:=by simp [doS,okS,hb,doL,touchS]
  rw [e2]
  clear hb h e2
  go_enter func98,ntmps98
  go_wp2_with (first
   |(go_at_call 89;with_reducible refine c.mono ?_;intro e w' h';unfold CountPost at h';obtain ⟨rfl,hP,hW⟩:=h';have d0:=hP.cell0)
   |(go_at_call 64;with_reducible refine (store_any hP.mem a v v0 v1).mono ?_;rintro e w3 ⟨rfl,hM,hW3⟩))
  go_end0
  exact ⟨rfl,hP.memory hM (storeL_len _ _ _) hW3,mem_rng hP.place hW hW3⟩
theorem pswap_any {w:World} {q:Place} {hs:List Int} {s:PSta} (h:PortAt w q hs s) (t a v:Int) (v0:0≤v) (v1:v<4294967296) (hD:s.D.length<4611686018427387904):
  Calls prog 156 #[.pointer (some ⟨q.p,0,none⟩),.int .i64 t,.int .i64 a,.int .u32 v] w (AccPost q hs (doS s t 3 a 0 v) (.int .u32 (tellS s t 3 a)) w):=by
 have c:=count_any h t a true hD
 cases hb:okT s t a
 ·rw [hb,cntS_not hb] at c
  rw [doS_not hb,tellS_not hb]
  clear hb h
  go_enter func156,ntmps156
  go_wp2_with (go_at_call 89;with_reducible refine c.mono ?_;intro e w' h';unfold CountPost at h';obtain ⟨rfl,hP,hW⟩:=h')
  go_ret
  exact ⟨rfl,hP,hW⟩
 ·rw [hb,cntS_ok hb] at c
  have e1:tellS s t 3 a=loadI s.ws a:=by simp [tellS,okS,hb,tellI]
  have e2:doS s t 3 a 0 v={touchS s t a true with ws:=storeL s.ws a v}:=by simp [doS,okS,hb,doL,touchS]
  rw [e1,e2]
  clear hb h e1 e2
  go_enter func156,ntmps156
  go_wp2_with (first
   |(go_at_call 89;with_reducible refine c.mono ?_;intro e w' h';unfold CountPost at h';obtain ⟨rfl,hP,hW⟩:=h';have d0:=hP.cell0)
   |(go_at_call 157;with_reducible refine (swap_any hP.mem a v v0 v1).mono ?_;rintro e w3 ⟨rfl,hM,hW3⟩))
  go_ret
  exact ⟨rfl,hP.memory hM (storeL_len _ _ _) hW3,mem_rng hP.place hW hW3⟩
theorem padd_any {w:World} {q:Place} {hs:List Int} {s:PSta} (h:PortAt w q hs s) (t a v:Int) (v0:0≤v) (v1:v<4294967296) (hD:s.D.length<4611686018427387904):
  Calls prog 141 #[.pointer (some ⟨q.p,0,none⟩),.int .i64 t,.int .i64 a,.int .u32 v] w (AccPost q hs (doS s t 5 a 0 v) (.int .u32 (tellS s t 5 a)) w):=by
 have c:=count_any h t a true hD
 cases hb:okT s t a
 ·rw [hb,cntS_not hb] at c
  rw [doS_not hb,tellS_not hb]
  clear hb h
  go_enter func141,ntmps141
  go_wp2_with (go_at_call 89;with_reducible refine c.mono ?_;intro e w' h';unfold CountPost at h';obtain ⟨rfl,hP,hW⟩:=h')
  go_ret
  exact ⟨rfl,hP,hW⟩
 ·rw [hb,cntS_ok hb] at c
  have e1:tellS s t 5 a=loadI s.ws a:=by simp [tellS,okS,hb,tellI]
  have e2:doS s t 5 a 0 v={touchS s t a true with ws:=addL s.ws a v}:=by simp [doS,okS,hb,doL,touchS]
  rw [e1,e2]
  clear hb h e1 e2
  go_enter func141,ntmps141
  go_wp2_with (first
   |(go_at_call 89;with_reducible refine c.mono ?_;intro e w' h';unfold CountPost at h';obtain ⟨rfl,hP,hW⟩:=h';have d0:=hP.cell0)
   |(go_at_call 143;with_reducible refine (add_any hP.mem a v v0 v1).mono ?_;rintro e w3 ⟨rfl,hM,hW3⟩))
  go_ret
  exact ⟨rfl,hP.memory hM (storeL_len _ _ _) hW3,mem_rng hP.place hW hW3⟩
theorem pcas_any {w:World} {q:Place} {hs:List Int} {s:PSta} (h:PortAt w q hs s) (t a old v:Int) (v0:0≤v) (v1:v<4294967296) (hD:s.D.length<4611686018427387904):
  Calls prog 171 #[.pointer (some ⟨q.p,0,none⟩),.int .i64 t,.int .i64 a,.int .u32 old,.int .u32 v] w (AccPost q hs (doS s t 4 a old v) (.bool (okT s t a&&casB s.ws a old)) w):=by
 have c:=count_any h t a true hD
 cases hb:okT s t a
 ·rw [hb,cntS_not hb] at c
  rw [doS_not hb,Bool.false_and]
  clear hb h
  go_enter func171,ntmps171
  go_wp2_with (go_at_call 89;with_reducible refine c.mono ?_;intro e w' h';unfold CountPost at h';obtain ⟨rfl,hP,hW⟩:=h')
  go_ret
  exact ⟨rfl,hP,hW⟩
 ·rw [hb,cntS_ok hb] at c
  have e2:doS s t 4 a old v={touchS s t a true with ws:=casL s.ws a old v}:=by simp [doS,okS,hb,doL,touchS]
  rw [e2,Bool.true_and]
  clear hb h e2
  go_enter func171,ntmps171
  go_wp2_with (first
   |(go_at_call 89;with_reducible refine c.mono ?_;intro e w' h';unfold CountPost at h';obtain ⟨rfl,hP,hW⟩:=h';have d0:=hP.cell0)
   |(go_at_call 172;with_reducible refine (cas_any hP.mem a old v v0 v1).mono ?_;rintro e w3 ⟨rfl,hM,hW3⟩))
  go_ret
  exact ⟨rfl,hP.memory hM (casL_len _ _ _ _) hW3,mem_rng hP.place hW hW3⟩
def newS (n:Nat) (vs:List Int):PSta:={ws:=vs,D:=[],ac:=List.replicate n 0,wc:=List.replicate n 0,mc:=List.replicate n 0}
def NewPortPost (w0:World) (hs:List Int) (s:PSta) (e:Ending) (w':World):Prop:=
 ∃ q:Place,e= .returned (.tuple #[.pointer (some ⟨q.p,0,none⟩),.int .i64 0])∧PortAt w' q hs s∧w0.heap.size≤q.k0∧q.k3≤w'.heap.size∧Wr Nil w0 w'
theorem made_port {wr X:World} {p b bw c bc bm ba bv k0 k1 k2 k3 n:Nat} {hv:Value} {hs vs:List Int} (hM:MemAt wr b bw hv hs vs) (hC:CacheAt wr c bc bm (List.replicate vs.length 0) (List.replicate n 0) 0) (hW:Wr Nil wr X)
  (ho:X.heap[p]? =some (.cells #[.pointer (some ⟨b,0,none⟩),.pointer (some ⟨c,0,none⟩),.slice (some ⟨ba,0,none⟩) n n,.slice (some ⟨bv,0,none⟩) n n] 152 (0,0)))
  (hA:X.heap[ba]? =some (.cells (natRow (List.replicate n 0)) 3 (0,0))) (hV:X.heap[bv]? =some (.cells (natRow (List.replicate n 0)) 3 (0,0))) (hP:(Place.mk p b bw c bc bm ba bv k0 k1 k2 k3 hv).ok):
  PortAt X ⟨p,b,bw,c,bc,bm,ba,bv,k0,k1,k2,k3,hv⟩ hs (newS n vs):=by
 refine ⟨?_,hM.after hW,⟨_,hC.after hW,by simp [newS],?_⟩,hA,hV,by simp [newS],by simp [newS],?_,?_,hP⟩
 ·simpa [newS] using ho
 ·have:=rel_new vs.length n
  simpa [newS] using this
 ·intro x hx
  simp [newS] at hx
  omega
 ·intro x hx
  simp [newS] at hx
  omega
def mixL (vs:List Int) (k:Nat):List Int:=vs.take k++List.replicate (vs.length-k) 0
theorem mixL_zero (vs:List Int):mixL vs 0=List.replicate vs.length 0:=by simp [mixL]
theorem mixL_all (vs:List Int):mixL vs vs.length=vs:=by simp [mixL]
theorem mixL_step {vs:List Int} {k:Nat} (hk:k<vs.length):storeL (mixL vs k) k (vs.getD k 0)=mixL vs (k+1):=by
 rw [store_at]
 apply List.ext_getElem?
 intro j
 unfold mixL
 rw [List.getElem?_set]
 by_cases e:k=j
 ·subst e
  rw [if_pos rfl,if_pos (by simp;omega),List.getElem?_append_left (by simp;omega)]
  simp [hk,List.getElem?_take_of_lt]
 ·rw [if_neg e]
  by_cases hj:j<k
  ·rw [List.getElem?_append_left (by simp;omega),List.getElem?_append_left (by simp;omega),List.getElem?_take_of_lt hj,List.getElem?_take_of_lt (by omega)]
  ·rw [List.getElem?_append_right (by simp;omega),List.getElem?_append_right (by simp;omega)]
   simp only [List.length_take,List.getElem?_replicate]
   have e1:min k vs.length=k:=by omega
   have e2:min (k+1) vs.length=k+1:=by omega
   rw [e1,e2]
   by_cases hjn:j<vs.length
   ·rw [if_pos (by omega),if_pos (by omega)]
   ·rw [if_neg (by omega),if_neg (by omega)]
set_option maxRecDepth 100000 in
theorem pnew_good {w0 w:World} (h0:Wr Nil w0 w) {sa sb:Option Addr} {m c1 c2 n:Nat} {hs vs:List Int} (hr:RowAt .i64 w sa m hs) (hv:RowAt .u32 w sb m vs) (wf:∀ j,0≤vs.getD j 0∧vs.getD j 0<4294967296)
  (n1:1≤n) (n2:n≤64) (hm:m≤4096) (ho:homesOK hs=true):
  Calls prog 41 #[.int .i64 n,.slice sa m c1,.slice sb m c2] w (NewPortPost w0 hs (newS n vs)):=by
 have cM:=new_ok (c:=c1) hr hm ho
 have hat:=hv.at
 have hlv:=hv.len
 obtain ⟨i1,gi,gz0,gz1,gz2⟩:=info_parts info_i64
 have hmk2:∀ w:World,(Instr.makeSlice 22 (.int .i64 (n:Int)) (.int .i64 (n:Int))).run prog w= .ok (.slice (some ⟨w.heap.size,0,none⟩) n n) (w.alloc (.cells (natRow (List.replicate n 0)) 3)):=by
  intro w
  have h:=Go.run_make (P:=prog) w 22 3 i1 _ underlying22 gi gz0 .i64 .i64 n n (by omega) (by omega) (by rw [gz2];omega) (by omega)
  rw [gz1] at h
  simp only [Int.toNat_natCast] at h
  rw [made_i64] at h
  exact h
 generalize hB:natRow (List.replicate n 0)=B at hmk2
 have HB:=Lib.hid hB
 have HV:=Lib.hid (And.intro hlv wf)
 have k1:¬ (n:Int)<1:=by omega
 have k2:¬ (64:Int)<n:=by omega
 have hsz:=h0.size
 clear hr hv wf hB hlv
 go_enter func41,ntmps41
 go_wp2_with (first
  |(go_at_call 62;with_reducible refine cM.mono ?_;rintro e w1 ⟨b,bw,hv,rfl,hM1,hb,hbw,hown,hW1⟩)
  |(go_at_call 63;have cC:=cnew_good (w:=w1) (threads:=n) (words:=m) n1 n2 hm;with_reducible refine cC.mono ?_;intro e w2 h2;unfold NewCachePost at h2;obtain ⟨c,bc,bm,rfl,hC2,g1,g2,g3,hW2⟩:=h2))
 have hM2:=hM1.after hW2
 have hlt1:=hM1.lt
 have hlt2:=hC2.lt
 have hs1:=hW1.size
 have hs2:=hW2.size
 have HQ:=Lib.hid (And.intro hlt1 (And.intro hlt2 (And.intro hown (And.intro hM1.ne (And.intro hC2 (And.intro hW1 hW2))))))
 have HS:=Lib.hid (And.intro hb (And.intro hbw (And.intro g1 (And.intro g2 (And.intro g3 (And.intro hs1 (And.intro hs2 hsz)))))))
 clear hM1 hlt1 hlt2 hs1 hs2 hown hb hbw g1 g2 g3 hsz hC2 hW1 hW2
 go_loopw [46] (λi wr=>∃ k:Nat,k≤m∧i= .int .i64 k∧MemAt wr b bw hv hs (mixL vs k)∧Wr (One bw) w2 wr) (λi _=>m-(intOf i).toNat)
 case atStart=>exact ⟨0,Nat.zero_le _,rfl,by rw [mixL_zero,HV.out.1];exact hM2,Wr.refl _ _⟩
 case round=>
  clear hM2
  obtain ⟨k,hk,rfl,hM,hW⟩:=hrel
  by_cases hlt:k<m
  ·rcases hat with e0|⟨ob,oo,rfl,hcell⟩
   ·omega
   ·have hne:ob<w.heap.size:=World.block_lt_of_cell? w _ (hcell k hlt)
    have hcl:wr.cell? ⟨ob,oo+k,none⟩=some (.int .u32 (vs.getD k 0)):=by
     have e1:=HQ.out.2.2.2.2.2.1.old (hcell k hlt)
     have e2:=HQ.out.2.2.2.2.2.2.old e1
     refine hW.cell e2 ?_
     intro e
     have e':ob=bw:=e
     have:=HS.out.2.1
     omega
    obtain ⟨x,hx⟩:∃ x,x=vs.getD k 0:=⟨_,rfl⟩
    rw [←hx] at hcl
    have x01:0≤x∧x<4294967296:=by rw [hx];exact HV.out.2 k
    obtain ⟨x0,x1⟩:=x01
    have cS:=store_any hM (k:Int) x x0 x1
    rw [hx,mixL_step (by rw [HV.out.1];exact hlt),←hx] at cS
    have HX:=Lib.hid (And.intro hx (And.intro hcell hM))
    clear hx hcell hM
    go_wp2_with (go_at_call 64;with_reducible refine cS.mono ?_;rintro e w3 ⟨rfl,hM3,hW3⟩)
    go_roundw
    case rel=>exact ⟨k+1,by omega,by go_num,hM3,hW.trans hW3 λ_ _=>id⟩
    case measure=>simp [intOf];omega
  ·obtain rfl:k=m:=by omega
   clear hat
   have HM:=Lib.hid (And.intro hM hW)
   clear hM hW
   go_wp2
   go_region
   all_goals
    go_wp2
    go_ret2
    obtain ⟨l1,l2,l3,l4,hC,hW1,hW2⟩:=HQ.out
    obtain ⟨s1,s2,s3,s4,s5,s6,s7,s8⟩:=HS.out
    obtain ⟨hM,hW⟩:=HM.out
    obtain rfl:=HB.out
    have hlv:=HV.out.1
    subst hlv
    rw [mixL_all] at hM
    have hs3:=hW.size
    have hCr:=hC.wrote hW (by intro e;have:c=bw:=e;omega) (by intro e;have:bc=bw:=e;omega) (by intro e;have:bm=bw:=e;omega)
    have hWr:Wr Nil w0 wr:=(h0.nil (hW1.nil hW2)).one hW (by omega)
    unfold NewPortPost
    first
     |(obtain ⟨b0,b1,b2,hWx⟩:=three_blocks wr (.cells (natRow (List.replicate n 0)) 3) (.cells (natRow (List.replicate n 0)) 3) (.cells #[.pointer (some ⟨b,0,none⟩),.pointer (some ⟨c,0,none⟩),.slice (some ⟨wr.heap.size,0,none⟩) n n,.slice (some ⟨wr.heap.size+1,0,none⟩) n n] 152)
       refine ⟨⟨wr.heap.size+1+1,b,bw,c,bc,bm,wr.heap.size,wr.heap.size+1,w.heap.size,w1.heap.size,w2.heap.size,wr.heap.size+3,hv⟩,rfl,made_port hM hCr hWx b2 b0 b1 ?_,s8,?_,hWr.nil hWx⟩
       ·exact ⟨⟨s1,l1.1⟩,⟨s2,l1.2.1⟩,λk hk=>⟨l3 k hk,l1.2.2 k hk⟩,⟨s3,l2.1⟩,⟨s4,l2.2.1⟩,⟨s5,l2.2.2⟩,by simp only;omega,by simp only;omega,by simp only;omega,by simp only;omega,by simp only;omega⟩
       ·exact Nat.le_of_eq (by show wr.heap.size+3=(((wr.alloc _).alloc _).alloc _).heap.size;rw [nblk_alloc,nblk_alloc,nblk_alloc]))
     |(obtain ⟨b0,b1,b2,hWx⟩:=three_blocks wr (.cells (natRow (List.replicate n 0)) 3) (.cells (natRow (List.replicate n 0)) 3) (.cells #[.pointer (some ⟨b,0,none⟩),.pointer (some ⟨c,0,none⟩),.slice (some ⟨wr.heap.size+1,0,none⟩) n n,.slice (some ⟨wr.heap.size,0,none⟩) n n] 152)
       refine ⟨⟨wr.heap.size+1+1,b,bw,c,bc,bm,wr.heap.size+1,wr.heap.size,w.heap.size,w1.heap.size,w2.heap.size,wr.heap.size+3,hv⟩,rfl,made_port hM hCr hWx b2 b1 b0 ?_,s8,?_,hWr.nil hWx⟩
       ·exact ⟨⟨s1,l1.1⟩,⟨s2,l1.2.1⟩,λk hk=>⟨l3 k hk,l1.2.2 k hk⟩,⟨s3,l2.1⟩,⟨s4,l2.2.1⟩,⟨s5,l2.2.2⟩,by simp only;omega,by simp only;omega,by simp only;omega,by simp only;omega,by simp only;omega⟩
       ·exact Nat.le_of_eq (by show wr.heap.size+3=(((wr.alloc _).alloc _).alloc _).heap.size;rw [nblk_alloc,nblk_alloc,nblk_alloc]))
end Go.Proofs.YtmnephejhkfchaaGreat


import Derived.Test.YtmnephejhkfchaaGreatMemHomes
import Derived.Test.YtmnephejhkfchaaGreatCacheRef
namespace Go.Proofs.YtmnephejhkfchaaGreat
open _root_.Go.Proofs.Tryz
open Go.RowKit
set_option linter.unusedVariables false
set_option maxRecDepth 100000
structure AK where
 ws:List Int
 D:List Re
 ac:List Nat
 wc:List Nat
 mc:List Nat
def GA (l:List Nat) (t:Nat) (b:Bool):List Nat:=if b then l.set t (l.getD t 0+1) else l
theorem Au (l:List Nat) (t:Nat) (b:Bool):(GA l t b).length=l.length:=by cases b<;>simp [GA]
theorem OZ {l:List Nat} {t:Nat} {b:Bool} {L:Nat} (h:∀ x∈l,x<=L):∀ x∈GA l t b,x<=L+1:=by
 intro x hx;cases b
 ·exact Nat.le_succ_of_le (h x hx)
 ·rcases List.mem_or_eq_of_mem_set hx with hx|rfl
  ·exact Nat.le_succ_of_le (h x hx)
  ·by_cases ht:t<l.length
   ·have:l.getD t 0=l[t]:=by simp [ht]
    rw [this];exact Nat.succ_le_succ (h _ (List.getElem_mem ht))
   ·simp [List.getElem?_eq_none (show l.length<=t by omega)]
theorem Oo {l:List Nat} {L:Nat} (h:∀ x∈l,x<=L) (t:Nat):l.getD t 0<=L:=by
 by_cases ht:t<l.length
 ·have:l.getD t 0=l[t]:=by simp [ht]
  rw [this];exact h _ (List.getElem_mem ht)
 ·simp [List.getElem?_eq_none (show l.length<=t by omega)]
def EH (s:AK) (t a:Int):Bool:=decide (0<=t/\t<s.ac.length/\0<=a/\a<s.ws.length)
def AR (s:AK) (t a:Int) (wr:Bool):AK:=
 {ws:=s.ws,D:=s.D++[(t,a,wr)],ac:=GA s.ac t.toNat true,wc:=GA s.wc t.toNat wr,mc:=GA s.mc t.toNat (P8 s.D t a wr s.ac.length)}
def NM (s:AK) (t a:Int) (wr:Bool):AK:=if EH s t a then AR s t a wr else s
def Dg (s:AK) (t K a:Int):Bool:=EH s t a&&decide (1<=K/\K<=5)
def A5 (s:AK) (t K a old v:Int):AK:=if Dg s t K a then {AR s t a (decide (1<K)) with ws:=Gb s.ws K a old v} else s
def A6 (s:AK) (t K a:Int):Int:=if Dg s t K a then CR s.ws K a else 0
theorem Ld {s:AK} {t a:Nat} (ht:t<s.ac.length) (ha:a<s.ws.length):EH s t a=true:=by simp [EH,ht,ha]
theorem WC {s:AK} {t a:Int} (h:¬(0<=t/\t<s.ac.length/\0<=a/\a<s.ws.length)):EH s t a=false:=by simp only [EH,decide_eq_false_iff_not];exact h
structure Place where
 p:Nat
 m:Nat
 bw:Nat
 c:Nat
 bc:Nat
 bm:Nat
 ba:Nat
 bv:Nat
 k0:Nat
 k1:Nat
 k2:Nat
 k3:Nat
 hv:Value
def Bk (a b:Nat) (k:Nat):Prop:=a<=k/\k<b
structure Place.ok (q:Place):Prop where
 m:q.k0<=q.m/\q.m<q.k1
 bw:q.k0<=q.bw/\q.bw<q.k1
 hv:∀ k,q.hv.ownBlock=some k->q.k0<=k/\k<q.k1
 c:q.k1<=q.c/\q.c<q.k2
 bc:q.k1<=q.bc/\q.bc<q.k2
 bm:q.k1<=q.bm/\q.bm<q.k2
 p:q.k2<=q.p/\q.p<q.k3
 ba:q.k2<=q.ba/\q.ba<q.k3
 bv:q.k2<=q.bv/\q.bv<q.k3
 ne:q.p≠q.ba/\q.p≠q.bv/\q.ba≠q.bv
 le:q.k0<=q.k1/\q.k1<=q.k2/\q.k2<=q.k3
def C9 (l:List Nat):Array Value:=(l.map λ(n:Nat)=>Value.int .i64 (n:Int)).toArray
theorem K8 {l:List Nat} {k:Nat} (hk:k<l.length):(C9 l)[k]? =some (.int .i64 ((l.getD k 0:Nat):Int)):=by simp [C9,hk]
theorem Nr (l:List Nat) (k v:Nat):(C9 l).setIfInBounds k (.int .i64 (v:Int))=C9 (l.set k v):=by simp [C9,List.map_set]
structure PortAt (w:World) (q:Place) (hs:List Int) (s:AK):Prop where
 obj:w.heap[q.p]? =some (.cells #[.pointer (some ⟨q.m,0,none⟩),.pointer (some ⟨q.c,0,none⟩),.slice (some ⟨q.ba,0,none⟩) s.ac.length s.ac.length,.slice (some ⟨q.bv,0,none⟩) s.ac.length s.ac.length] 152 (0,0))
 mem:MemAt w q.m q.bw q.hv hs s.ws
 cache:∃ cs,CacheAt w q.c q.bc q.bm cs s.mc s.D.length/\cs.length=s.ws.length/\Rel cs s.ac.length s.D
 acc:w.heap[q.ba]? =some (.cells (C9 s.ac) 3 (0,0))
 Ym:w.heap[q.bv]? =some (.cells (C9 s.wc) 3 (0,0))
 lv:s.wc.length=s.ac.length
 lm:s.mc.length=s.ac.length
 WS:∀ x∈s.ac,x<=s.D.length
 WT:∀ x∈s.wc,x<=s.D.length
 place:q.ok
namespace PortAt
variable {w w':World} {q:Place} {hs:List Int} {s:AK}
theorem cell0 (h:PortAt w q hs s):w.cell? ⟨q.p,0,none⟩=some (.pointer (some ⟨q.m,0,none⟩)):=by rw [A1 h.obj];rfl
theorem cell1 (h:PortAt w q hs s):w.cell? ⟨q.p,1,none⟩=some (.pointer (some ⟨q.c,0,none⟩)):=by rw [A1 h.obj];rfl
theorem AY (h:PortAt w q hs s):w.cell? ⟨q.p,2,none⟩=some (.slice (some ⟨q.ba,0,none⟩) s.ac.length s.ac.length):=by rw [A1 h.obj];rfl
theorem AV (h:PortAt w q hs s):w.cell? ⟨q.p,3,none⟩=some (.slice (some ⟨q.bv,0,none⟩) s.ac.length s.ac.length):=by rw [A1 h.obj];rfl
theorem count (h:PortAt w q hs s) {k:Nat} (hk:k<s.ac.length):w.cell? ⟨q.ba,k,none⟩=some (.int .i64 ((s.ac.getD k 0:Nat):Int)):=by rw [A1 h.acc,K8 hk]
theorem writes (h:PortAt w q hs s) {k:Nat} (hk:k<s.ac.length):w.cell? ⟨q.bv,k,none⟩=some (.int .i64 ((s.wc.getD k 0:Nat):Int)):=by rw [A1 h.Ym,K8 (by rw [h.lv];exact hk)]
theorem VI (h:PortAt w q hs s) (k:Nat):w.frozen? ⟨q.ba,k,none⟩=false:=A4 h.acc k
theorem VL (h:PortAt w q hs s) (k:Nat):w.frozen? ⟨q.bv,k,none⟩=false:=A4 h.Ym k
theorem wrote {S:Nat->Prop} (h:PortAt w q hs s) (k:Wr S w w') (hS:∀ b,q.k0<=b->b<q.k3->¬ S b):PortAt w' q hs s:=by
 obtain ⟨cs,h1,h2,h3⟩:=h.cache;have P:=h.place;have q1:=P.m;have q2:=P.bw;have q3:=P.hv;have q4:=P.c;have q5:=P.bc;have q6:=P.bm;have q7:=P.p;have q8:=P.ba;have q9:=P.bv;have kj:=P.le
 refine ⟨(k.block q.p (A2 h.obj) (hS _ (by omega) (by omega))).trans h.obj,h.mem.wrote k (hS _ (by omega) (by omega)) (hS _ (by omega) (by omega)) (λj hj=>hS _ (by have:=q3 j hj;omega) (by have:=q3 j hj;omega)),
  ⟨cs,h1.wrote k (hS _ (by omega) (by omega)) (hS _ (by omega) (by omega)) (hS _ (by omega) (by omega)),h2,h3⟩,(k.block q.ba (A2 h.acc) (hS _ (by omega) (by omega))).trans h.acc,(k.block q.bv (A2 h.Ym) (hS _ (by omega) (by omega))).trans h.Ym,
  h.lv,h.lm,h.WS,h.WT,h.place⟩
theorem memory (h:PortAt w q hs s) {jI:List Int} (hM:MemAt w' q.m q.bw q.hv hs jI) (hl:jI.length=s.ws.length) (k:Wr (One q.bw) w w'):PortAt w' q hs {s with ws:=jI}:=by
 obtain ⟨cs,h1,h2,h3⟩:=h.cache;have P:=h.place;have q1:=P.m;have q2:=P.bw;have q4:=P.c;have q5:=P.bc;have q6:=P.bm;have q7:=P.p;have q8:=P.ba;have q9:=P.bv;have kj:=P.le;have n:∀ b,q.k1<=b->¬ One q.bw b:=λb hb e=>by cases e;omega
 exact ⟨(k.block q.p (A2 h.obj) (n _ (by omega))).trans h.obj,hM,⟨cs,h1.wrote k (n _ (by omega)) (n _ (by omega)) (n _ (by omega)),h2.trans hl.symm,h3⟩,(k.block q.ba (A2 h.acc) (n _ (by omega))).trans h.acc,
  (k.block q.bv (A2 h.Ym) (n _ (by omega))).trans h.Ym,h.lv,h.lm,h.WS,h.WT,h.place⟩
theorem counted (h:PortAt w q hs s) {cs:List Nat} {t a:Nat} {wr:Bool} (ht:t<s.ac.length) (ha:a<s.ws.length) (hc:CacheAt w q.c q.bc q.bm cs s.mc s.D.length) (hl:cs.length=s.ws.length) (hr:Rel cs s.ac.length s.D)
  (k:Wr (λb=>b=q.ba\/b=q.bv\/b=q.bc\/b=q.bm) w w') (hA:w'.heap[q.ba]? =some (.cells (C9 (GA s.ac t true)) 3 (0,0))) (hV:w'.heap[q.bv]? =some (.cells (C9 (GA s.wc t wr)) 3 (0,0)))
  (hC:CacheAt w' q.c q.bc q.bm (EC cs t a wr) (GI cs s.mc t a wr) (s.D.length+1)):PortAt w' q hs (AR s t a wr)/\Wr (Bk q.k0 q.k3) w w':=by
 have P:=h.place;have q1:=P.m;have q2:=P.bw;have q3:=P.hv;have q4:=P.c;have q5:=P.bc;have q6:=P.bm;have q7:=P.p;have q8:=P.ba;have q9:=P.bv;have kj:=P.le;have oP:=P.ne;have hrow:=hc.Lh a;rw [h.lm] at hrow;have hm:=Th hr ht (by omega) hrow wr;have hM:GI cs s.mc t a wr=GA s.mc t (P8 s.D t a wr s.ac.length):=by unfold GI GA;rw [hm]
 rw [hM] at hC;refine ⟨⟨?_,?_,⟨EC cs t a wr,?_,?_,?_⟩,?_,?_,?_,?_,?_,?_,P⟩,k.mono ?_⟩
 ·have:=(k.block q.p (A2 h.obj) (by rintro (e|e|e|e)<;>omega)).trans h.obj
  simpa [AR,Au] using this
 ·exact h.mem.wrote k (by rintro (e|e|e|e)<;>omega) (by rintro (e|e|e|e)<;>omega) (λj hj=>by have:=q3 j hj;rintro (e|e|e|e)<;>omega)
 ·have:(AR s t a wr).D.length=s.D.length+1:=by simp [AR]
  rw [this];exact hC
 ·rw [OG];exact hl
 ·have:=R3 hr ht (by omega) (a:=a) wr
  simpa [AR,Au] using this
 ·exact hA
 ·exact hV
 ·simp [AR,Au,h.lv]
 ·simp [AR,Au,h.lm]
 ·intro x hx
  have:=OZ h.WS x (show x∈GA s.ac t true from hx);simpa [AR] using this
 ·intro x hx
  have:=OZ h.WT x (show x∈GA s.wc t wr from hx);simpa [AR] using this
 ·intro b _ hb
  unfold Bk;rcases hb with e|e|e|e<;>omega
end PortAt
theorem Va {n:Nat} {a:Int} (h:0<=a/\a<n):IJ n a=true:=by simp only [IJ,decide_eq_true_eq];exact h
theorem IQ {w:World} {q:Place} {hs:List Int} {s:AK} (h:PortAt w q hs s) (t:Int):
  Calls prog 94 #[.pointer (some ⟨q.p,0,none⟩),.int .i64 t] w λe w'=>e= .returned (.bool (IJ s.ac.length t))/\w'=w:=by
 have c1:=h.AY;have H:=Qw h;clear h;by_cases h0:0<=t
 ·by_cases h1:t<s.ac.length
  ·have hh:Hid (IJ s.ac.length t=true):=Qw (by simp [IJ,h0,h1])
   exact zz1v
  ·exact zz84
 ·exact zz84
theorem KL {w:World} {q:Place} {hs:List Int} {s:AK} (h:PortAt w q hs s) (a:Int):
  Calls prog 95 #[.pointer (some ⟨q.p,0,none⟩),.int .i64 a] w λe w'=>e= .returned (.bool (IJ s.ws.length a))/\w'=w:=by
 have c1:=h.cell0;have c2:=Vf h.mem;have H:=Qw h;clear h;by_cases h0:0<=a
 ·by_cases h1:a<s.ws.length
  ·have hh:Hid (IJ s.ws.length a=true):=Qw (by simp [IJ,h0,h1])
   go_in
   go_wp2_with (go_at_call 101;refine c2.mono ?_;rintro e w' ⟨rfl,rfl⟩)
   go_ret;exact ⟨C3 hh.out.symm,rfl⟩
  ·have hh:Hid (IJ s.ws.length a=false):=Qw (E4 (by omega))
   go_in
   go_wp2_with (go_at_call 101;refine c2.mono ?_;rintro e w' ⟨rfl,rfl⟩)
   go_ret;exact ⟨C3 (by rw [hh.out];simp;omega),rfl⟩
 ·have hh:Hid (IJ s.ws.length a=false):=Qw (E4 (by omega))
  exact zz1v
set_option maxHeartbeats 8000000
open _root_.Go.Proofs.Tryz Go.Deep
def C2 (q:Place) (hs:List Int) (s:AK) (b:Bool) (w:World) (e:Ending) (w':World):Prop:=
 e= .returned (.bool b)/\PortAt w' q hs s/\Wr (Bk q.k0 q.k3) w w'
theorem M6 {w:World} {b:Nat} {l:List Nat} {t:TypeId} (h:w.heap[b]? =some (.cells (C9 l) t (0,0))) (k:Nat):(w.setCell ⟨b,k,none⟩ (.int .i64 (((l.getD k 0:Nat):Int)+1))).heap[b]? =some (.cells (C9 (GA l k true)) t (0,0)):=by
 rw [A3 h];have:=Nr l k (l.getD k 0+1);simp only [GA,Qj];rw [<-this];rfl
set_option maxRecDepth 100000 in
theorem S0 {w:World} {q:Place} {hs:List Int} {s:AK} (h:PortAt w q hs s) (t a:Nat) (wr:Bool) (ht:t<s.ac.length) (ha:a<s.ws.length) (hD:s.D.length<4611686018427387904):
  Calls prog 89 #[.pointer (some ⟨q.p,0,none⟩),.int .i64 t,.int .i64 a,.bool wr] w (C2 q hs (AR s t a wr) true w):=by
 have c1:=IQ h t;rw [LQ ht] at c1;have c2:=KL h a;rw [LQ ha] at c2;have d1:=h.cell1;have d2:=h.AY;have d3:=h.AV;have d4:=h.count ht;have d5:=h.writes ht;have d6:=h.VI t;have d7:=h.VL t;have ht':(t:Int)<s.ac.length:=by omega
 have ht0:(0:Int)<=t:=by omega
 have b1:((s.ac.getD t 0:Nat):Int)+1<=9223372036854775807:=by have:=Oo h.WS t;omega
 have b2:((s.wc.getD t 0:Nat):Int)+1<=9223372036854775807:=by have:=Oo h.WT t;omega
 have P:=h.place;have n1:¬ q.p=q.ba:=P.ne.1;have n2:¬ q.p=q.bv:=P.ne.2.1;have n3:¬ q.bv=q.ba:=P.ne.2.2.symm;have n4:∀ b,b<q.k2->b≠q.ba/\b≠q.bv:=λb hb=>by have:=P.ba;have:=P.bv;omega
 obtain ⟨cs,hc,hl,hr⟩:=h.cache;have k1:∀ b,b<q.k2->(w.setCell ⟨q.ba,t,none⟩ (.int .i64 (((s.ac.getD t 0:Nat):Int)+1))).heap[b]? =w.heap[b]? :=λb hb=>blk_setCell_other _ _ _ _ (n4 b hb).1;have k2:∀ b,b<q.k2->((w.setCell ⟨q.ba,t,none⟩ (.int .i64 (((s.ac.getD t 0:Nat):Int)+1))).setCell ⟨q.bv,t,none⟩ (.int .i64 (((s.wc.getD t 0:Nat):Int)+1))).heap[b]? =w.heap[b]? :=λb hb=>(blk_setCell_other _ _ _ _ (n4 b hb).2).trans (k1 b hb);have W1:Wr (λb=>b=q.ba\/b=q.bv\/b=q.bc\/b=q.bm) w (w.setCell ⟨q.ba,t,none⟩ (.int .i64 (((s.ac.getD t 0:Nat):Int)+1))):=(Wr.refl _ w).setCell _ _ λ_=> .inl rfl;have W2:=W1.setCell ⟨q.bv,t,none⟩ (.int .i64 (((s.wc.getD t 0:Nat):Int)+1)) λ_=> .inr (.inl rfl);have J9:=hc.keep (k1 q.c P.c.2) (k1 q.bc P.bc.2) (k1 q.bm P.bm.2);have Gj:=hc.keep (k2 q.c P.c.2) (k2 q.bc P.bc.2) (k2 q.bm P.bm.2);have Zf:=M6 h.acc t;have Im:=(blk_setCell_other (w.setCell ⟨q.ba,t,none⟩ (.int .i64 (((s.ac.getD t 0:Nat):Int)+1))) ⟨q.bv,t,none⟩ (.int .i64 (((s.wc.getD t 0:Nat):Int)+1)) q.ba (P.ne.2.2)).trans Zf;have hV1:=(blk_setCell_other w ⟨q.ba,t,none⟩ (.int .i64 (((s.ac.getD t 0:Nat):Int)+1)) q.bv (P.ne.2.2.symm)).trans h.Ym;have hV2:=M6 hV1 t;have hlm:=h.lm
 have hP:∀ w',Wr (λb=>b=q.ba\/b=q.bv\/b=q.bc\/b=q.bm) w w'->w'.heap[q.ba]? =some (.cells (C9 (GA s.ac t true)) 3 (0,0))->w'.heap[q.bv]? =some (.cells (C9 (GA s.wc t wr)) 3 (0,0))->
   CacheAt w' q.c q.bc q.bm (EC cs t a wr) (GI cs s.mc t a wr) (s.D.length+1)->PortAt w' q hs (AR s t a wr)/\Wr (Bk q.k0 q.k3) w w':=λw' x1 x2 x3 x4=>h.counted ht ha hc hl hr x1 x2 x3 x4
 have hne:∀ b,q.k2<=b->¬ Two q.bc q.bm b:=λb hb e=>by have:=P.bc;have:=P.bm;rcases e with e|e<;>omega
 have dz:=P.ba.1;have eB:=P.bv.1;obtain ⟨x,hx⟩:∃ x,x=s.ac.getD t 0:=⟨_,rfl⟩
 obtain ⟨y,hy⟩:∃ y,y=s.wc.getD t 0:=⟨_,rfl⟩
 rw [<-hx] at d4 b1 k1 k2 W1 W2 J9 Gj Zf Im hV1 hV2;rw [<-hy] at d5 b2 k2 W2 Gj Im hV2;cases wr
 ·have cT:=IV J9 t a false (by omega) (by omega) hD
  have HH:=Qw (Qz W1 (Qz Zf (Qz hV1 (Qz hP (Qz hne (Qz dz eB))))));exact zz15
 ·have cT:=IV Gj t a true (by omega) (by omega) hD
  have HH:=Qw (Qz W2 (Qz Im (Qz hV2 (Qz hP (Qz hne (Qz dz eB))))));exact zz15
theorem Pn {w:World} {q:Place} {hs:List Int} {s:AK} (h:PortAt w q hs s) (t a:Int) (wr:Bool) (hn:¬(0<=t/\t<s.ac.length/\0<=a/\a<s.ws.length)):
  Calls prog 89 #[.pointer (some ⟨q.p,0,none⟩),.int .i64 t,.int .i64 a,.bool wr] w λe w'=>e= .returned (.bool false)/\w'=w:=by
 have c1:=IQ h t;have c2:=KL h a;by_cases ht:0<=t/\t<s.ac.length
 ·rw [Va ht] at c1
  rw [E4 (by omega)] at c2;clear h hn ht
  go_in
  go_wp2_with (first
   |(go_at_call 94;with_reducible refine c1.mono ?_;rintro e w' ⟨rfl,rfl⟩)
   |(go_at_call 95;with_reducible refine c2.mono ?_;rintro e w' ⟨rfl,rfl⟩))
  exact zz12
 ·rw [E4 ht] at c1
  clear h hn ht c2
  go_in
  go_wp2_with (first
   |(go_at_call 94;with_reducible refine c1.mono ?_;rintro e w' ⟨rfl,rfl⟩))
  exact zz12
theorem F5 {w:World} {q:Place} {hs:List Int} {s:AK} (h:PortAt w q hs s) (t a:Int) (wr:Bool) (hD:s.D.length<4611686018427387904):
  Calls prog 89 #[.pointer (some ⟨q.p,0,none⟩),.int .i64 t,.int .i64 a,.bool wr] w (C2 q hs (NM s t a wr) (EH s t a) w):=by
 by_cases hn:0<=t/\t<s.ac.length/\0<=a/\a<s.ws.length
 ·obtain ⟨t,rfl⟩:=Qx hn.1
  obtain ⟨a,rfl⟩:=Qx hn.2.2.1;unfold NM;rw [Ld (show t<s.ac.length by omega) (show a<s.ws.length by omega),Qj rfl];exact S0 h t a wr (by omega) (by omega) hD
 ·unfold NM
  rw [WC hn,Qq (by decide)];refine (Pn h t a wr hn).mono ?_;rintro e w' ⟨rfl,rfl⟩;exact ⟨rfl,h,Wr.refl _ _⟩
theorem Gc {s:AK} {t K a old v:Int} (h:EH s t a=false):A5 s t K a old v=s:=by simp [A5,Dg,h]
theorem I_ {s:AK} {t K a:Int} (h:EH s t a=false):A6 s t K a=0:=by simp [A6,Dg,h]
theorem Fh {s:AK} {t a:Int} {wr:Bool} (h:EH s t a=false):NM s t a wr=s:=by simp [NM,h]
theorem GY {s:AK} {t a:Int} {wr:Bool} (h:EH s t a=true):NM s t a wr=AR s t a wr:=by simp [NM,h]
def AE (q:Place) (hs:List Int) (s:AK) (v:Value) (w:World) (e:Ending) (w':World):Prop:=
 e= .returned v/\PortAt w' q hs s/\Wr (Bk q.k0 q.k3) w w'
theorem Ir {q:Place} (P:q.ok) {w w' w'':World} (h:Wr (Bk q.k0 q.k3) w w') (k:Wr (One q.bw) w' w''):Wr (Bk q.k0 q.k3) w w'':=
 h.trans k λb _ e=>by have:=P.bw;have:=P.le;cases e;unfold Bk;omega
theorem Al {w:World} {q:Place} {hs:List Int} {s:AK} (h:PortAt w q hs s) (t a:Int) (hD:s.D.length<4611686018427387904):
  Calls prog 85 #[.pointer (some ⟨q.p,0,none⟩),.int .i64 t,.int .i64 a] w (AE q hs (A5 s t 1 a 0 0) (.int .u32 (A6 s t 1 a)) w):=by
 have c:=F5 h t a false hD;cases hb:EH s t a
 ·exact zz7z
 ·rw [hb,GY hb] at c
  have e1:A6 s t 1 a=BK s.ws a:=by simp [A6,Dg,hb,CR]
  have e2:A5 s t 1 a 0 0=AR s t a false:=by simp [A5,Dg,hb,Gb,AR]
  rw [e1,e2];clear hb h e1 e2
  go_in
  go_wp2_with (first
   |(go_at_call 89;with_reducible refine c.mono ?_;intro e w' h';unfold C2 at h';obtain ⟨rfl,hP,hW⟩:=h';have d0:=hP.cell0)
   |(go_at_call 90;with_reducible refine (TB hP.mem a).mono ?_;rintro e w3 ⟨rfl,rfl⟩))
  go_ret;exact ⟨rfl,hP,hW⟩
theorem B0 {w:World} {q:Place} {hs:List Int} {s:AK} (h:PortAt w q hs s) (t a v:Int) (v0:0<=v) (v1:v<4294967296) (hD:s.D.length<4611686018427387904):
  Calls prog 98 #[.pointer (some ⟨q.p,0,none⟩),.int .i64 t,.int .i64 a,.int .u32 v] w (AE q hs (A5 s t 2 a 0 v) (.tuple #[]) w):=by
 have c:=F5 h t a true hD;cases hb:EH s t a
 ·rw [hb,Fh hb] at c
  rw [Gc hb];clear hb h
  go_in
  go_wp2_with (go_at_call 89;with_reducible refine c.mono ?_;intro e w' h';unfold C2 at h';obtain ⟨rfl,hP,hW⟩:=h')
  go_end0
  exact ⟨rfl,hP,hW⟩
 ·rw [hb,GY hb] at c
  have e2:A5 s t 2 a 0 v={AR s t a true with ws:=BA s.ws a v}:=by simp [A5,Dg,hb,Gb,AR]
  rw [e2];clear hb h e2
  go_in
  go_wp2_with (first
   |(go_at_call 89;with_reducible refine c.mono ?_;intro e w' h';unfold C2 at h';obtain ⟨rfl,hP,hW⟩:=h';have d0:=hP.cell0)
   |(go_at_call 64;with_reducible refine (KT hP.mem a v v0 v1).mono ?_;rintro e w3 ⟨rfl,hM,GK⟩))
  go_end0
  exact zz58
theorem FA {w:World} {q:Place} {hs:List Int} {s:AK} (h:PortAt w q hs s) (t a v:Int) (v0:0<=v) (v1:v<4294967296) (hD:s.D.length<4611686018427387904):
  Calls prog 156 #[.pointer (some ⟨q.p,0,none⟩),.int .i64 t,.int .i64 a,.int .u32 v] w (AE q hs (A5 s t 3 a 0 v) (.int .u32 (A6 s t 3 a)) w):=by
 have c:=F5 h t a true hD;cases hb:EH s t a
 ·exact zz7z
 ·rw [hb,GY hb] at c
  have e1:A6 s t 3 a=BK s.ws a:=by simp [A6,Dg,hb,CR]
  have e2:A5 s t 3 a 0 v={AR s t a true with ws:=BA s.ws a v}:=by simp [A5,Dg,hb,Gb,AR]
  rw [e1,e2];clear hb h e1 e2
  go_in
  go_wp2_with (first
   |(go_at_call 89;with_reducible refine c.mono ?_;intro e w' h';unfold C2 at h';obtain ⟨rfl,hP,hW⟩:=h';have d0:=hP.cell0)
   |(go_at_call 157;with_reducible refine (U5 hP.mem a v v0 v1).mono ?_;rintro e w3 ⟨rfl,hM,GK⟩))
  go_ret;exact zz58
theorem Mh {w:World} {q:Place} {hs:List Int} {s:AK} (h:PortAt w q hs s) (t a v:Int) (v0:0<=v) (v1:v<4294967296) (hD:s.D.length<4611686018427387904):
  Calls prog 141 #[.pointer (some ⟨q.p,0,none⟩),.int .i64 t,.int .i64 a,.int .u32 v] w (AE q hs (A5 s t 5 a 0 v) (.int .u32 (A6 s t 5 a)) w):=by
 have c:=F5 h t a true hD;cases hb:EH s t a
 ·exact zz7z
 ·rw [hb,GY hb] at c
  have e1:A6 s t 5 a=BK s.ws a:=by simp [A6,Dg,hb,CR]
  have e2:A5 s t 5 a 0 v={AR s t a true with ws:=J4 s.ws a v}:=by simp [A5,Dg,hb,Gb,AR]
  rw [e1,e2];clear hb h e1 e2
  go_in
  go_wp2_with (first
   |(go_at_call 89;with_reducible refine c.mono ?_;intro e w' h';unfold C2 at h';obtain ⟨rfl,hP,hW⟩:=h';have d0:=hP.cell0)
   |(go_at_call 143;with_reducible refine (UX hP.mem a v v0 v1).mono ?_;rintro e w3 ⟨rfl,hM,GK⟩))
  go_ret;exact zz58
theorem Cg {w:World} {q:Place} {hs:List Int} {s:AK} (h:PortAt w q hs s) (t a old v:Int) (v0:0<=v) (v1:v<4294967296) (hD:s.D.length<4611686018427387904):
  Calls prog 171 #[.pointer (some ⟨q.p,0,none⟩),.int .i64 t,.int .i64 a,.int .u32 old,.int .u32 v] w (AE q hs (A5 s t 4 a old v) (.bool (EH s t a&&E9 s.ws a old)) w):=by
 have c:=F5 h t a true hD;cases hb:EH s t a
 ·rw [hb,Fh hb] at c
  rw [Gc hb,Bool.false_and];exact zz1g
 ·rw [hb,GY hb] at c
  have e2:A5 s t 4 a old v={AR s t a true with ws:=Fg s.ws a old v}:=by simp [A5,Dg,hb,Gb,AR]
  rw [e2,Bool.true_and];clear hb h e2
  go_in
  go_wp2_with (first
   |(go_at_call 89;with_reducible refine c.mono ?_;intro e w' h';unfold C2 at h';obtain ⟨rfl,hP,hW⟩:=h';have d0:=hP.cell0)
   |(go_at_call 172;with_reducible refine (Um hP.mem a old v v0 v1).mono ?_;rintro e w3 ⟨rfl,hM,GK⟩))
  go_ret;exact ⟨rfl,hP.memory hM (M7 _ _ _ _) GK,Ir hP.place hW GK⟩
def Dq (n:Nat) (vs:List Int):AK:={ws:=vs,D:=[],ac:=List.replicate n 0,wc:=List.replicate n 0,mc:=List.replicate n 0}
def Ek (w0:World) (hs:List Int) (s:AK) (e:Ending) (w':World):Prop:=
 ∃ q:Place,e= .returned (.tuple #[.pointer (some ⟨q.p,0,none⟩),.int .i64 0])/\PortAt w' q hs s/\w0.heap.size<=q.k0/\q.k3<=w'.heap.size/\Wr Nil w0 w'
theorem K7 {wr X:World} {p b bw c bc bm ba bv k0 k1 k2 k3 n:Nat} {hv:Value} {hs vs:List Int} (hM:MemAt wr b bw hv hs vs) (hC:CacheAt wr c bc bm (List.replicate vs.length 0) (List.replicate n 0) 0) (hW:Wr Nil wr X)
  (ho:X.heap[p]? =some (.cells #[.pointer (some ⟨b,0,none⟩),.pointer (some ⟨c,0,none⟩),.slice (some ⟨ba,0,none⟩) n n,.slice (some ⟨bv,0,none⟩) n n] 152 (0,0)))
  (hA:X.heap[ba]? =some (.cells (C9 (List.replicate n 0)) 3 (0,0))) (hV:X.heap[bv]? =some (.cells (C9 (List.replicate n 0)) 3 (0,0))) (hP:(Place.mk p b bw c bc bm ba bv k0 k1 k2 k3 hv).ok):
  PortAt X ⟨p,b,bw,c,bc,bm,ba,bv,k0,k1,k2,k3,hv⟩ hs (Dq n vs):=by
 refine ⟨?_,hM.after hW,⟨_,hC.after hW,by simp [Dq],?_⟩,hA,hV,by simp [Dq],by simp [Dq],?_,?_,hP⟩
 ·simpa [Dq] using ho
 ·have:=WO vs.length n
  simpa [Dq] using this
 ·intro x hx
  simp [Dq] at hx;omega
 ·intro x hx
  simp [Dq] at hx;omega
def Ma (vs:List Int) (k:Nat):List Int:=vs.take k++List.replicate (vs.length-k) 0
theorem QW (vs:List Int):Ma vs 0=List.replicate vs.length 0:=by simp [Ma]
theorem TK (vs:List Int):Ma vs vs.length=vs:=by simp [Ma]
theorem QV {vs:List Int} {k:Nat} (hk:k<vs.length):BA (Ma vs k) k (vs.getD k 0)=Ma vs (k+1):=by
 rw [Fu];apply List.ext_getElem?;intro j;unfold Ma;rw [List.getElem?_set];by_cases e:k=j
 ·subst e
  rw [Qj rfl,Qj (by simp;omega),List.getElem?_append_left (by simp;omega)];simp [hk,List.getElem?_take_of_lt]
 ·rw [Qq e]
  by_cases hj:j<k
  ·rw [List.getElem?_append_left (by simp;omega),List.getElem?_append_left (by simp;omega),List.getElem?_take_of_lt hj,List.getElem?_take_of_lt (by omega)]
  ·rw [List.getElem?_append_right (by simp;omega),List.getElem?_append_right (by simp;omega)]
   simp only [List.length_take,List.getElem?_replicate];have e1:min k vs.length=k:=by omega
   have e2:min (k+1) vs.length=k+1:=by omega
   rw [e1,e2];by_cases hjn:j<vs.length
   ·rw [Qj (by omega),Qj (by omega)]
   ·rw [Qq (by omega),Qq (by omega)]
set_option maxRecDepth 100000 in
theorem Qu {w0 w:World} (h0:Wr Nil w0 w) {sa sb:Option Addr} {m c1 c2 n:Nat} {hs vs:List Int} (hr:Ad .i64 w sa m hs) (hv:Ad .u32 w sb m vs) (wf:∀ j,0<=vs.getD j 0/\vs.getD j 0<4294967296)
  (n1:1<=n) (n2:n<=64) (hm:m<=4096) (ho:A8 hs=true):
  Calls prog 41 #[.int .i64 n,.slice sa m c1,.slice sb m c2] w (Ek w0 hs (Dq n vs)):=by
 have cM:=Y9 (c:=c1) hr hm ho;have hat:=hv.at;have hlv:=hv.len;obtain ⟨i1,gi,VO,VP,VQ⟩:=info_parts JB;have Xm:∀ w:World,(Instr.makeSlice 22 (.int .i64 (n:Int)) (.int .i64 (n:Int))).run prog w= .ok (.slice (some ⟨w.heap.size,0,none⟩) n n) (w.alloc (.cells (C9 (List.replicate n 0)) 3)):=by
  intro w;have h:=Go.run_make (P:=prog) w 22 3 i1 _ underlying22 gi VO .i64 .i64 n n (by omega) (by omega) (by rw [VQ];omega) (by omega);exact zz6x
 generalize hB:C9 (List.replicate n 0)=B at Xm;have HB:=Qw hB;have HV:=Qw (Qz hlv wf);have k1:¬ (n:Int)<1:=by omega
 have k2:¬ (64:Int)<n:=by omega
 have hsz:=h0.size;clear hr hv wf hB hlv
 go_in
 go_wp2_with (first
  |(go_at_call 62;with_reducible refine cM.mono ?_;rintro e w1 ⟨b,bw,hv,rfl,LL,hb,eC,hown,Gk⟩)
  |(go_at_call 63;have cC:=Pk (w:=w1) (threads:=n) (words:=m) n1 n2 hm;with_reducible refine cC.mono ?_;intro e w2 h2;unfold GM at h2;obtain ⟨c,bc,bm,rfl,Gj,g1,g2,g3,Ba⟩:=h2))
 have Jr:=LL.after Ba;have Zz:=LL.lt;have Xl:=Gj.lt;have hs1:=Gk.size;have hs2:=Ba.size;have HQ:=Qw (Qz Zz (Qz Xl (Qz hown (Qz LL.ne (Qz Gj (Qz Gk Ba))))));have HS:=Qw (Qz hb (Qz eC (Qz g1 (Qz g2 (Qz g3 (Qz hs1 (Qz hs2 hsz)))))));clear LL Zz Xl hs1 hs2 hown hb eC g1 g2 g3 hsz Gj Gk Ba;go_loopw [46] (λi wr=>∃ k:Nat,k<=m/\i= .int .i64 k/\MemAt wr b bw hv hs (Ma vs k)/\Wr (One bw) w2 wr) (λi _=>m-(intOf i).toNat)
 case atStart=>exact ⟨0,Nat.zero_le _,rfl,by rw [QW,HV.out.1];exact Jr,Wr.refl _ _⟩
 case round=>
  clear Jr;obtain ⟨k,hk,rfl,hM,hW⟩:=hrel;by_cases hlt:k<m
  ·rcases hat with e0|⟨ob,oo,rfl,hcell⟩
   ·omega
   ·have hne:ob<w.heap.size:=World.block_lt_of_cell? w _ (hcell k hlt)
    have hcl:wr.cell? ⟨ob,oo+k,none⟩=some (.int .u32 (vs.getD k 0)):=by
     have e1:=HQ.out.2.2.2.2.2.1.old (hcell k hlt);have e2:=HQ.out.2.2.2.2.2.2.old e1;refine hW.cell e2 ?_;intro e;have e':ob=bw:=e;have:=HS.out.2.1;omega
    obtain ⟨x,hx⟩:∃ x,x=vs.getD k 0:=⟨_,rfl⟩
    rw [<-hx] at hcl;have nD:0<=x/\x<4294967296:=by rw [hx];exact HV.out.2 k
    obtain ⟨x0,x1⟩:=nD;have cS:=KT hM (k:Int) x x0 x1;rw [hx,QV (by rw [HV.out.1];exact hlt),<-hx] at cS;have HX:=Qw (Qz hx (Qz hcell hM));clear hx hcell hM;go_wp2_with (go_at_call 64;with_reducible refine cS.mono ?_;rintro e w3 ⟨rfl,NU,GK⟩)
    go_roundw
    case rel=>exact ⟨k+1,by omega,by go_num,NU,hW.trans GK λ_ _=>id⟩
    case measure=>simp [intOf];omega
  ·obtain rfl:k=m:=by omega
   clear hat;have HM:=Qw (Qz hM hW);clear hM hW;go_wp2;go_region
   all_goals
    go_wp2
    go_ret2
    obtain ⟨l1,l2,l3,l4,hC,Gk,Ba⟩:=HQ.out;obtain ⟨s1,s2,s3,s4,s5,s6,s7,s8⟩:=HS.out;obtain ⟨hM,hW⟩:=HM.out;obtain rfl:=HB.out;have hlv:=HV.out.1;subst hlv;rw [TK] at hM;have oI:=hW.size;have jc:=hC.wrote hW (by intro e;have:c=bw:=e;omega) (by intro e;have:bc=bw:=e;omega) (by intro e;have:bm=bw:=e;omega);have jm:Wr Nil w0 wr:=(h0.nil (Gk.nil Ba)).one hW (by omega);unfold Ek
    first
     |(obtain ⟨b0,b1,b2,Zq⟩:=EJ wr (.cells (C9 (List.replicate n 0)) 3) (.cells (C9 (List.replicate n 0)) 3) (.cells #[.pointer (some ⟨b,0,none⟩),.pointer (some ⟨c,0,none⟩),.slice (some ⟨wr.heap.size,0,none⟩) n n,.slice (some ⟨wr.heap.size+1,0,none⟩) n n] 152)
       refine ⟨⟨wr.heap.size+1+1,b,bw,c,bc,bm,wr.heap.size,wr.heap.size+1,w.heap.size,w1.heap.size,w2.heap.size,wr.heap.size+3,hv⟩,rfl,K7 hM jc Zq b2 b0 b1 ?_,s8,?_,jm.nil Zq⟩
       ·exact zz33
       ·exact Nat.le_of_eq (by show wr.heap.size+3=(((wr.alloc _).alloc _).alloc _).heap.size;rw [nblk_alloc,nblk_alloc,nblk_alloc]))
     |(obtain ⟨b0,b1,b2,Zq⟩:=EJ wr (.cells (C9 (List.replicate n 0)) 3) (.cells (C9 (List.replicate n 0)) 3) (.cells #[.pointer (some ⟨b,0,none⟩),.pointer (some ⟨c,0,none⟩),.slice (some ⟨wr.heap.size+1,0,none⟩) n n,.slice (some ⟨wr.heap.size,0,none⟩) n n] 152)
       refine ⟨⟨wr.heap.size+1+1,b,bw,c,bc,bm,wr.heap.size+1,wr.heap.size,w.heap.size,w1.heap.size,w2.heap.size,wr.heap.size+3,hv⟩,rfl,K7 hM jc Zq b2 b1 b0 ?_,s8,?_,jm.nil Zq⟩
       ·exact zz33
       ·exact Nat.le_of_eq (by show wr.heap.size+3=(((wr.alloc _).alloc _).alloc _).heap.size;rw [nblk_alloc,nblk_alloc,nblk_alloc]))
end Go.Proofs.YtmnephejhkfchaaGreat

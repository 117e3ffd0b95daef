
import Derived.Test.YtmnephejhkfchaaGreatMix
namespace Go.Proofs.YtmnephejhkfchaaGreat
set_option maxHeartbeats 8000000
open _root_.Go.Proofs.Tryz Go.Deep
open Go.RowKit
set_option linter.unusedVariables false
set_option maxRecDepth 100000
theorem WR {k:IntKind} {a b:Int} (h:a=b):Ending.returned (.int k a)= .returned (.int k b):=by rw [h]
theorem C3 {a b:Bool} (h:a=b):Ending.returned (.bool a)= .returned (.bool b):=by rw [h]
theorem T9:(prog.info? 204).map (λi=>(i.zero,i.size,i.bytes))=some (some (.int .u64 0),1,8):=by kernel_rfl
theorem JB:(prog.info? 3).map (λi=>(i.zero,i.size,i.bytes))=some (some (.int .i64 0),1,8):=by kernel_rfl
theorem JU {t n:Nat} (h:t<n) (hn:n<=64):2 ^ t<18446744073709551616:=
 Nat.lt_of_lt_of_le (Nat.pow_lt_pow_right (by decide) h) (by rw [show 18446744073709551616=2 ^ 64 from rfl];exact Nat.pow_le_pow_right (by decide) hn)
theorem Mm {x n:Nat} (h:x<2 ^ n) (hn:n<=64):x<18446744073709551616:=
 Nat.lt_of_lt_of_le h (by rw [show 18446744073709551616=2 ^ 64 from rfl];exact Nat.pow_le_pow_right (by decide) hn)
theorem Ub (x t:Nat):x&&& 2 ^ t=if x.testBit t then 2 ^ t else 0:=by
 apply Nat.eq_of_testBit_eq;intro i;rw [Nat.testBit_and,Nat.testBit_two_pow];by_cases e:t=i
 ·subst e
  by_cases h:x.testBit t<;>simp [h]
 ·by_cases h:x.testBit t<;>simp [h,e]
theorem Ua {x t n:Nat} (hx:x<2 ^ n) (ht:t<n) (hn:n<=64):bits .and .u64 (x:Int) ((2 ^ t:Nat):Int)=if x.testBit t then ((2 ^ t:Nat):Int) else 0:=by
 rw [u64_and_nat _ _ (Mm hx hn) (JU ht hn),Ub];by_cases h:x.testBit t<;>simp [h]
theorem YA {x t n:Nat} (hx:x<2 ^ n) (ht:t<n) (hn:n<=64):bits .or .u64 (x:Int) ((2 ^ t:Nat):Int)=((x|||2 ^ t:Nat):Int):=
 u64_or_nat _ _ (Mm hx hn) (JU ht hn)
theorem WE {x t n:Nat} (hx:x<2 ^ n) (ht:t<n):x|||2 ^ t<2 ^ n:=
 Nat.or_lt_two_pow hx (Nat.pow_lt_pow_right (by decide) ht)
theorem UI {t:Nat} (ht:t<64):IntKind.u64.wrap ((2:Int) ^ t)=((2 ^ t:Nat):Int):=by
 have h:=JU ht (Nat.le_refl 64);rw [IntKind.wrap_u64,show ((2:Int) ^ t)=((2 ^ t:Nat):Int) by simp];generalize 2 ^ t=p at h ⊢;omega
theorem Ph {p:Nat} (hp:p≠0) (b:Bool):((if b=true then (p:Int) else 0)==0)= !b:=by
 cases b
 ·rfl
 ·simp [hp]
def IL (cs:List Nat) (t a:Nat) (wr:Bool):Bool:=if wr then !decide (cs.getD a 0=2 ^ t) else !(cs.getD a 0).testBit t
def EC (cs:List Nat) (t a:Nat) (wr:Bool):List Nat:=cs.set a (if wr then 2 ^ t else cs.getD a 0|||2 ^ t)
def GI (cs ms:List Nat) (t a:Nat) (wr:Bool):List Nat:=if IL cs t a wr then ms.set t (ms.getD t 0+1) else ms
structure CacheAt (w:World) (c bc bm:Nat) (cs ms:List Nat) (lim:Nat):Prop where
 obj:w.heap[c]? =some (.cells #[.slice (some ⟨bc,0,none⟩) cs.length cs.length,.slice (some ⟨bm,0,none⟩) ms.length ms.length] 180 (0,0))
 copies:w.heap[bc]? =some (.cells (cs.map λ(n:Nat)=>Value.int .u64 (n:Int)).toArray 204 (0,0))
 misses:w.heap[bm]? =some (.cells (ms.map λ(n:Nat)=>Value.int .i64 (n:Int)).toArray 3 (0,0))
 XA:bc≠c
 XB:bm≠c
 XC:bc≠bm
 words:cs.length<=4096
 threads:ms.length<=64
 fits:∀ x∈cs,x<2 ^ ms.length
 BP:∀ x∈ms,x<=lim
def Two (a b:Nat) (k:Nat):Prop:=k=a\/k=b
namespace CacheAt
variable {w w':World} {c bc bm:Nat} {cs ms:List Nat} {lim:Nat}
theorem lt (h:CacheAt w c bc bm cs ms lim):c<w.heap.size/\bc<w.heap.size/\bm<w.heap.size:=⟨A2 h.obj,A2 h.copies,A2 h.misses⟩
theorem cell0 (h:CacheAt w c bc bm cs ms lim):w.cell? ⟨c,0,none⟩=some (.slice (some ⟨bc,0,none⟩) cs.length cs.length):=by rw [A1 h.obj];rfl
theorem cell1 (h:CacheAt w c bc bm cs ms lim):w.cell? ⟨c,1,none⟩=some (.slice (some ⟨bm,0,none⟩) ms.length ms.length):=by rw [A1 h.obj];rfl
theorem copy (h:CacheAt w c bc bm cs ms lim) {k:Nat} (hk:k<cs.length):w.cell? ⟨bc,k,none⟩=some (.int .u64 ((cs.getD k 0:Nat):Int)):=by
 rw [A1 h.copies];simp [hk]
theorem count (h:CacheAt w c bc bm cs ms lim) {k:Nat} (hk:k<ms.length):w.cell? ⟨bm,k,none⟩=some (.int .i64 ((ms.getD k 0:Nat):Int)):=by
 rw [A1 h.misses];simp [hk]
theorem VJ (h:CacheAt w c bc bm cs ms lim) (k:Nat):w.frozen? ⟨bc,k,none⟩=false:=A4 h.copies k
theorem VK (h:CacheAt w c bc bm cs ms lim) (k:Nat):w.frozen? ⟨bm,k,none⟩=false:=A4 h.misses k
theorem keep (h:CacheAt w c bc bm cs ms lim) (h0:w'.heap[c]? =w.heap[c]?) (h1:w'.heap[bc]? =w.heap[bc]?) (h2:w'.heap[bm]? =w.heap[bm]?):CacheAt w' c bc bm cs ms lim:=
 ⟨h0.trans h.obj,h1.trans h.copies,h2.trans h.misses,h.XA,h.XB,h.XC,h.words,h.threads,h.fits,h.BP⟩
theorem wrote {S:Nat->Prop} (h:CacheAt w c bc bm cs ms lim) (k:Wr S w w') (h0:¬ S c) (h1:¬ S bc) (h2:¬ S bm):CacheAt w' c bc bm cs ms lim:=
 h.keep (k.block c h.lt.1 h0) (k.block bc h.lt.2.1 h1) (k.block bm h.lt.2.2 h2)
theorem after (h:CacheAt w c bc bm cs ms lim) (k:Wr Nil w w'):CacheAt w' c bc bm cs ms lim:=h.wrote k id id id
theorem lift {aa:Nat} (h:CacheAt w c bc bm cs ms lim) (hl:lim<=aa):CacheAt w c bc bm cs ms aa:=
 ⟨h.obj,h.copies,h.misses,h.XA,h.XB,h.XC,h.words,h.threads,h.fits,λx hx=>Nat.le_trans (h.BP x hx) hl⟩
theorem Lh (h:CacheAt w c bc bm cs ms lim) (k:Nat):cs.getD k 0<2 ^ ms.length:=by
 by_cases hk:k<cs.length
 ·have:cs.getD k 0=cs[k]:=by simp [hk]
  rw [this];exact h.fits _ (List.getElem_mem hk)
 ·simp [List.getElem?_eq_none (show cs.length<=k by omega),Nat.two_pow_pos]
theorem count_le (h:CacheAt w c bc bm cs ms lim) (k:Nat):ms.getD k 0<=lim:=by
 by_cases hk:k<ms.length
 ·have:ms.getD k 0=ms[k]:=by simp [hk]
  rw [this];exact h.BP _ (List.getElem_mem hk)
 ·simp [List.getElem?_eq_none (show ms.length<=k by omega)]
theorem iz (h:CacheAt w c bc bm cs ms lim) (k v:Nat) (hv:v<2 ^ ms.length):CacheAt (w.setCell ⟨bc,k,none⟩ (.int .u64 (v:Int))) c bc bm (cs.set k v) ms lim:=by
 refine ⟨?_,?_,?_,h.XA,h.XB,h.XC,by simpa using h.words,h.threads,?_,h.BP⟩
 ·rw [blk_setCell_other _ _ _ _ h.XA.symm,List.length_set];exact h.obj
 ·rw [A3 h.copies]
  congr 2
  simp [List.map_set]
 ·rw [blk_setCell_other _ _ _ _ h.XC.symm];exact h.misses
 ·intro x hx
  rcases List.mem_or_eq_of_mem_set hx with hx|rfl
  ·exact h.fits x hx
  ·exact hv
theorem jA (h:CacheAt w c bc bm cs ms lim) (k v:Nat) (hv:v<=lim):CacheAt (w.setCell ⟨bm,k,none⟩ (.int .i64 (v:Int))) c bc bm cs (ms.set k v) lim:=by
 refine ⟨?_,?_,?_,h.XA,h.XB,h.XC,h.words,by simpa using h.threads,by simpa using h.fits,?_⟩
 ·rw [blk_setCell_other _ _ _ _ h.XB.symm,List.length_set];exact h.obj
 ·rw [blk_setCell_other _ _ _ _ h.XC];exact h.copies
 ·rw [A3 h.misses]
  congr 2
  simp [List.map_set]
 ·intro x hx
  rcases List.mem_or_eq_of_mem_set hx with hx|rfl
  ·exact h.BP x hx
  ·exact hv
end CacheAt
theorem Uk (t:Nat) (ht:t<64) (w:World):
  Calls prog 104 #[.int .i64 t] w λe w'=>e= .returned (.int .u64 ((2 ^ t:Nat):Int))/\w'=w:=by
 go_in
 go_wp2;go_ret;exact ⟨WR (UI ht),rfl⟩
def IJ (n:Nat) (a:Int):Bool:=decide (0<=a/\a<n)
theorem LQ {n k:Nat} (h:k<n):IJ n k=true:=by simp [IJ,h]
theorem E4 {n:Nat} {a:Int} (h:¬(0<=a/\a<n)):IJ n a=false:=by simp only [IJ,decide_eq_false_iff_not];exact h
theorem LR {c bc bm:Nat} {cs ms:List Nat} {lim:Nat} {w:World} (h:CacheAt w c bc bm cs ms lim) (a:Int):
  Calls prog 102 #[.pointer (some ⟨c,0,none⟩),.int .i64 a] w λe w'=>e= .returned (.bool (IJ ms.length a))/\w'=w:=by
 have c1:=h.cell1;have H:=Qw h;clear h;by_cases h0:0<=a
 ·by_cases h1:a<ms.length
  ·have hh:Hid (IJ ms.length a=true):=Qw (by simp [IJ,h0,h1])
   exact zz1v
  ·exact zz88
 ·exact zz88
theorem Nh {c bc bm:Nat} {cs ms:List Nat} {lim:Nat} {w:World} (h:CacheAt w c bc bm cs ms lim) (a:Int):
  Calls prog 103 #[.pointer (some ⟨c,0,none⟩),.int .i64 a] w λe w'=>e= .returned (.bool (IJ cs.length a))/\w'=w:=by
 have c1:=h.cell0;have H:=Qw h;clear h;by_cases h0:0<=a
 ·by_cases h1:a<cs.length
  ·have hh:Hid (IJ cs.length a=true):=Qw (by simp [IJ,h0,h1])
   exact zz1v
  ·exact zz87
 ·exact zz87
theorem Cl {P:Program} {id:Nat} {Q:Exit->Act->World->Prop} {a:Act} {w:World} {l:List Oper} (n:Nat) (hm:P.follows .mixedOrders=true) (hB:Region.lexTailB .any l.toArray n=true)
  (h:wpStill P l.toArray w.drew (λa'=>wpList P l.toArray Q (l.drop n) a' w.drew) (l.take n) a):(Code.region id l.toArray true).wp P Q a w:=wp_region_still_tail n hm hB h
def Ez (c bc bm:Nat) (cs ms:List Nat) (lim t a:Nat) (wr:Bool) (w:World) (e:Ending) (w':World):Prop:=
 e= .returned (.bool (IL cs t a wr))/\CacheAt w' c bc bm (EC cs t a wr) (GI cs ms t a wr) (lim+1)/\Wr (Two bc bm) w w'
theorem Je {c bc bm:Nat} {cs ms:List Nat} {lim:Nat} {w w0:World} (h:CacheAt w c bc bm cs ms lim) (h0:Wr Nil w w0) {t a:Nat} {wr:Bool} (ht:t<ms.length) {v m:Nat} (hv:v=if wr then 2 ^ t else cs.getD a 0|||2 ^ t) (hm:m=ms.getD t 0):
  (IL cs t a wr=true->Ez c bc bm cs ms lim t a wr w (.returned (.bool true)) ((w0.setCell ⟨bc,a,none⟩ (.int .u64 (v:Int))).setCell ⟨bm,t,none⟩ (.int .i64 ((m:Int)+1))))/\
  (IL cs t a wr=false->Ez c bc bm cs ms lim t a wr w (.returned (.bool false)) (w0.setCell ⟨bc,a,none⟩ (.int .u64 (v:Int)))):=by
 have hfit:v<2 ^ ms.length:=by
  rw [hv];split
  ·exact Nat.pow_lt_pow_right (by decide) ht
  ·exact WE (h.Lh a) ht
 have h1:=(h.after h0).iz a v hfit;rw [hv] at h1;refine ⟨λhb=>⟨by rw [hb],?_,((h0.mono λ_ _ x=>x.elim).setCell _ _ λ_=> .inl rfl).setCell _ _ λ_=> .inr rfl⟩,λhb=>⟨by rw [hb],?_,(h0.mono λ_ _ x=>x.elim).setCell _ _ λ_=> .inl rfl⟩⟩
 ·unfold GI EC
  rw [Qj hb,hv];have:=(h1.lift (Nat.le_succ lim)).jA t (ms.getD t 0+1) (by have:=h.count_le t;omega);rw [hm];exact this
 ·unfold GI EC
  rw [hb,Qq (by decide:¬ (false=true)),hv];exact h1.lift (Nat.le_succ lim)
set_option maxRecDepth 100000 in
theorem IV {c bc bm:Nat} {cs ms:List Nat} {lim:Nat} {w:World} (h:CacheAt w c bc bm cs ms lim) (t a:Nat) (wr:Bool) (ht:t<ms.length) (ha:a<cs.length) (hl:lim<4611686018427387904):
  Calls prog 96 #[.pointer (some ⟨c,0,none⟩),.int .i64 t,.int .i64 a,.bool wr] w (Ez c bc bm cs ms lim t a wr w):=by
 have c3:∀ n,Calls prog 102 #[.pointer (some ⟨c,0,none⟩),.int .i64 t] (w.drewN n) λe w'=>e= .returned (.bool true)/\w'=w.drewN n:=by
  intro n;have c3:=LR (h.after ((Wr.refl Nil w).drewN n)) t;rw [LQ ht] at c3;exact c3
 have c4:∀ n,Calls prog 103 #[.pointer (some ⟨c,0,none⟩),.int .i64 a] (w.drewN n) λe w'=>e= .returned (.bool true)/\w'=w.drewN n:=by
  intro n;have c3:=Nh (h.after ((Wr.refl Nil w).drewN n)) a;rw [LQ ha] at c3;exact c3
 have c5:∀ w,Calls prog 104 #[.int .i64 t] w λe w'=>e= .returned (.int .u64 ((2 ^ t:Nat):Int))/\w'=w:=λw=>Uk t (by have:=h.threads;omega) _;have d1:=h.cell0;have d2:=h.copy ha;have d3:=Ua (h.Lh a) ht h.threads;have d5:=YA (h.Lh a) ht h.threads;have ha':(a:Int)<cs.length:=by omega
 have ha0:(0:Int)<=a:=by omega
 have ht':(t:Int)<ms.length:=by omega
 have ht0:(0:Int)<=t:=by omega
 have d6:=h.cell1;have d7:=h.count ht;have d8:=h.VJ a;have d9:=h.VK t;have n1:¬ c=bc:=h.XA.symm;have n2:¬ c=bm:=h.XB.symm;have n3:¬ bm=bc:=h.XC.symm;have mb:((ms.getD t 0:Nat):Int)+1<=9223372036854775807:=by have:=h.count_le t;omega
 cases wr
 ·have d4:=Ph (Nat.ne_of_gt (Nat.two_pow_pos t)) ((cs.getD a 0).testBit t)
  have hE:=λv m hv hm w0 h0=>Je h (w0:=w0) h0 (wr:=false) (a:=a) ht (v:=v) (m:=m) hv hm;have hB:IL cs t a false= !(cs.getD a 0).testBit t:=rfl;generalize (cs.getD a 0).testBit t=B at d3 d4 hB;obtain ⟨x,hx⟩:∃ x,x=cs.getD a 0:=⟨_,rfl⟩
  obtain ⟨p,hp⟩:∃ p,p=2 ^ t:=⟨_,rfl⟩
  obtain ⟨m,hm⟩:∃ m,m=ms.getD t 0:=⟨_,rfl⟩
  rw [<-hx] at d2 d3 d5;rw [<-hp] at c5 d3 d4 d5;rw [<-hm] at d7 mb;have D:=Qw (Qz (λw0 h0=>hE (x|||p) m (by rw [hx,hp];rfl) hm w0 h0) hB);clear h hx hp hm hE hB;have lT:B=false/\bits BinOp.and IntKind.u64 x p=0\/B=true/\bits BinOp.and IntKind.u64 x p=p/\((p:Int)==0)=false:=by
   cases B
   ·exact .inl ⟨rfl,d3⟩
   ·exact .inr ⟨rfl,d3,d4⟩
  clear d3 d4;rcases lT with ⟨rfl,d3⟩|⟨rfl,d3,d4⟩
  all_goals
   go_in
   go_wp2_with (first
    |(go_at_call 102;refine (c3 0).mono ?_;rintro e w' ⟨rfl,rfl⟩)
    |(go_at_call 103;refine (c4 0).mono ?_;rintro e w' ⟨rfl,rfl⟩))
   go_big_quiet ((go_at_call 104;exact Calls.quiet_of_same (c5 _)))
   go_wp2;refine Cl 11 (by kernel_rfl) (by kernel_rfl) ?_;simp only [List.take_succ_cons,List.take_zero,List.drop_succ_cons,List.drop_zero]
   repeat still_step
   still_call (c5 _)
   repeat still_step
   refine wpStill_nil ?_;go_wp2;go_ret
   first
    |exact (D.out.1 _ ((Wr.refl Nil w).drewN _)).1 D.out.2
    |exact (D.out.1 _ ((Wr.refl Nil w).drewN _)).2 D.out.2
 ·have hE:=λv m hv hm w0 h0=>Je h (w0:=w0) h0 (wr:=true) (a:=a) ht (v:=v) (m:=m) hv hm
  have hB:IL cs t a true= !decide (cs.getD a 0=2 ^ t):=rfl;obtain ⟨x,hx⟩:∃ x,x=cs.getD a 0:=⟨_,rfl⟩
  obtain ⟨p,hp⟩:∃ p,p=2 ^ t:=⟨_,rfl⟩
  obtain ⟨m,hm⟩:∃ m,m=ms.getD t 0:=⟨_,rfl⟩
  rw [<-hx] at d2;rw [<-hp] at c5;rw [<-hm] at d7 mb;rw [<-hx,<-hp] at hB;have D:=Qw (Qz (λw0 h0=>hE p m (by rw [hp];rfl) hm w0 h0) hB);clear h hx hp hm hE hB d3 d5;by_cases e:x=p
  ·have e1:((x:Int) != (p:Int))=false:=by rw [e];exact bne_self_eq_false _
   have e2:(x:Int)=(p:Int):=by rw [e]
   have E:=Qw e;clear e
   go_in
   go_wp2_with (first
    |(go_at_call 102;refine (c3 0).mono ?_;rintro e w' ⟨rfl,rfl⟩)
    |(go_at_call 103;refine (c4 0).mono ?_;rintro e w' ⟨rfl,rfl⟩))
   go_big_quiet ((go_at_call 104;exact Calls.quiet_of_same (c5 _)))
   go_wp2;go_big_quiet ((go_at_call 104;exact (c5 _).mono λ_ _ h=>⟨h.1,_,h.2⟩))
   go_wp2;refine Cl 8 (by kernel_rfl) (by kernel_rfl) ?_;simp only [List.take_succ_cons,List.take_zero,List.drop_succ_cons,List.drop_zero]
   repeat still_step
   still_call (c5 _)
   repeat still_step
   refine wpStill_nil ?_;go_wp2;go_ret;exact (D.out.1 _ ((Wr.refl Nil w).drewN _)).2 (by rw [D.out.2,E.out];simp)
  ·have e1:((x:Int) != (p:Int))=true:=by rw [bne_iff_ne];omega
   have e2:¬ (x:Int)=(p:Int):=by omega
   have E:=Qw e;clear e
   go_in
   go_wp2_with (first
    |(go_at_call 102;refine (c3 0).mono ?_;rintro e w' ⟨rfl,rfl⟩)
    |(go_at_call 103;refine (c4 0).mono ?_;rintro e w' ⟨rfl,rfl⟩))
   go_big_quiet ((go_at_call 104;exact Calls.quiet_of_same (c5 _)))
   go_wp2;go_big_quiet ((go_at_call 104;exact (c5 _).mono λ_ _ h=>⟨h.1,_,h.2⟩))
   go_wp2;refine Cl 8 (by kernel_rfl) (by kernel_rfl) ?_;simp only [List.take_succ_cons,List.take_zero,List.drop_succ_cons,List.drop_zero]
   repeat still_step
   still_call (c5 _)
   repeat still_step
   refine wpStill_nil ?_;go_wp2;go_ret;exact (D.out.1 _ ((Wr.refl Nil w).drewN _)).1 (by rw [D.out.2];simp [E.out])
def GM (w0:World) (threads words:Nat) (e:Ending) (w':World):Prop:=
 ∃ c bc bm,e= .returned (.tuple #[.pointer (some ⟨c,0,none⟩),.int .i64 0])/\CacheAt w' c bc bm (List.replicate words 0) (List.replicate threads 0) 0/\w0.heap.size<=c/\w0.heap.size<=bc/\w0.heap.size<=bm/\Wr Nil w0 w'
theorem TH (n:Nat):madeCells (Value.int .u64 0).cells (n*1)=((List.replicate n (0:Nat)).map λ(n:Nat)=>Value.int .u64 (n:Int)).toArray:=zz3k
theorem JL (n:Nat):madeCells (Value.int .i64 0).cells (n*1)=((List.replicate n (0:Nat)).map λ(n:Nat)=>Value.int .i64 (n:Int)).toArray:=zz3k
theorem IM {w:World} {c bc bm threads words:Nat} (ht:threads<=64) (hw:words<=4096)
  (ho:w.heap[c]? =some (.cells #[.slice (some ⟨bc,0,none⟩) words words,.slice (some ⟨bm,0,none⟩) threads threads] 180 (0,0)))
  (hc:w.heap[bc]? =some (.cells ((List.replicate words (0:Nat)).map λ(n:Nat)=>Value.int .u64 (n:Int)).toArray 204 (0,0)))
  (hm:w.heap[bm]? =some (.cells ((List.replicate threads (0:Nat)).map λ(n:Nat)=>Value.int .i64 (n:Int)).toArray 3 (0,0)))
  (n1:bc≠c) (n2:bm≠c) (n3:bc≠bm):CacheAt w c bc bm (List.replicate words 0) (List.replicate threads 0) 0:=
 ⟨by simpa using ho,hc,hm,n1,n2,n3,by simpa using hw,by simpa using ht,λx hx=>by simp at hx;rw [hx.2];exact Nat.two_pow_pos _,λx hx=>by simp at hx;omega⟩
theorem EJ (w:World) (X Y Z:Obj):((((w.alloc X).alloc Y).alloc Z).drew).heap[w.heap.size]? =some X/\((((w.alloc X).alloc Y).alloc Z).drew).heap[w.heap.size+1]? =some Y/\
  ((((w.alloc X).alloc Y).alloc Z).drew).heap[w.heap.size+1+1]? =some Z/\Wr Nil w (((w.alloc X).alloc Y).alloc Z).drew:=by
 have n1:(w.alloc X).heap.size=w.heap.size+1:=nblk_alloc _ _;have n2:((w.alloc X).alloc Y).heap.size=w.heap.size+1+1:=by rw [nblk_alloc,n1]
 refine ⟨?_,?_,?_,((((Wr.refl Nil w).alloc _).alloc _).alloc _).drew⟩
 ·show (((w.alloc X).alloc Y).alloc Z).heap[w.heap.size]? =_
  rw [blk_alloc_lt _ _ _ (by omega),blk_alloc_lt _ _ _ (by omega),blk_alloc_new]
 ·show (((w.alloc X).alloc Y).alloc Z).heap[w.heap.size+1]? =_
  rw [blk_alloc_lt _ _ _ (by omega),<-n1,blk_alloc_new]
 ·show (((w.alloc X).alloc Y).alloc Z).heap[w.heap.size+1+1]? =_
  rw [<-n2,blk_alloc_new]
theorem Pk {w:World} {threads words:Nat} (h1:1<=threads) (ht:threads<=64) (hw:words<=4096):
  Calls prog 63 #[.int .i64 threads,.int .i64 words] w (GM w threads words):=by
 obtain ⟨i0,hi,hz0,hz1,hz2⟩:=info_parts T9;obtain ⟨i1,gi,VO,VP,VQ⟩:=info_parts JB;have hmk:∀ w:World,(Instr.makeSlice 178 (.int .i64 (words:Int)) (.int .i64 (words:Int))).run prog w= .ok (.slice (some ⟨w.heap.size,0,none⟩) words words) (w.alloc (.cells ((List.replicate words (0:Nat)).map λ(n:Nat)=>Value.int .u64 (n:Int)).toArray 204)):=by
  intro w;have h:=Go.run_make (P:=prog) w 178 204 i0 _ underlying178 hi hz0 .i64 .i64 words words (by omega) (by omega) (by rw [hz2];omega) (by omega);rw [hz1] at h;simp only [Int.toNat_natCast] at h;rw [TH] at h;exact h
 have Xm:∀ w:World,(Instr.makeSlice 22 (.int .i64 (threads:Int)) (.int .i64 (threads:Int))).run prog w= .ok (.slice (some ⟨w.heap.size,0,none⟩) threads threads) (w.alloc (.cells ((List.replicate threads (0:Nat)).map λ(n:Nat)=>Value.int .i64 (n:Int)).toArray 3)):=by
  intro w;have h:=Go.run_make (P:=prog) w 22 3 i1 _ underlying22 gi VO .i64 .i64 threads threads (by omega) (by omega) (by rw [VQ];omega) (by omega);exact zz6x
 have k1:¬ (threads:Int)<1:=by omega
 have k2:¬ (64:Int)<threads:=by omega
 have k3:¬ (words:Int)<0:=by omega
 have k4:¬ (4096:Int)<words:=by omega
 generalize hA:((List.replicate words (0:Nat)).map λ(n:Nat)=>Value.int .u64 (n:Int)).toArray=A at hmk;generalize hB:((List.replicate threads (0:Nat)).map λ(n:Nat)=>Value.int .i64 (n:Int)).toArray=B at Xm;have HA:=Qw (Qz hA hB);clear hA hB
 go_in
 go_wp2;go_region
 all_goals
  go_wp2
  go_ret2
  obtain ⟨rfl,rfl⟩:=HA.out
  first
   |(obtain ⟨b0,b1,b2,hW⟩:=EJ w (.cells ((List.replicate words (0:Nat)).map λ(n:Nat)=>Value.int .u64 (n:Int)).toArray 204) (.cells ((List.replicate threads (0:Nat)).map λ(n:Nat)=>Value.int .i64 (n:Int)).toArray 3) (.cells #[.slice (some ⟨w.heap.size,0,none⟩) words words,.slice (some ⟨w.heap.size+1,0,none⟩) threads threads] 180)
     exact ⟨_,_,_,rfl,IM ht hw b2 b0 b1 (by omega) (by omega) (by omega),by omega,by omega,by omega,hW⟩)
   |(obtain ⟨b0,b1,b2,hW⟩:=EJ w (.cells ((List.replicate threads (0:Nat)).map λ(n:Nat)=>Value.int .i64 (n:Int)).toArray 3) (.cells ((List.replicate words (0:Nat)).map λ(n:Nat)=>Value.int .u64 (n:Int)).toArray 204) (.cells #[.slice (some ⟨w.heap.size+1,0,none⟩) words words,.slice (some ⟨w.heap.size,0,none⟩) threads threads] 180)
     exact ⟨_,_,_,rfl,IM ht hw b2 b1 b0 (by omega) (by omega) (by omega),by omega,by omega,by omega,hW⟩)
theorem OG (cs:List Nat) (t a:Nat) (wr:Bool):(EC cs t a wr).length=cs.length:=by simp [EC]
abbrev Re:=Int×Int×Bool
def LM (b:Bool) (x:Re) (t a:Int):Bool:=if x.2.1=a then (if x.1=t then true else if x.2.2 then false else b) else b
def Xk:List Re->Int->Int->Bool
 |[],_,_=>false
 |x::r,t,a=>LM (Xk r t a) x t a
def MN (D:List Re) (t a:Int):Bool:=Xk D.reverse t a
theorem Sq (t a:Int):MN [] t a=false:=rfl
theorem QF (D:List Re) (x:Re) (t a:Int):MN (D++[x]) t a=LM (MN D t a) x t a:=by simp [MN,Xk]
def Gv (D:List Re) (t a:Int) (k:Nat):Bool:=(List.range k).any λ(u:Nat)=> !decide ((u:Int)=t)&&MN D u a
def P8 (D:List Re) (t a:Int) (wr:Bool) (n:Nat):Bool:= !MN D t a||(wr&&Gv D t a n)
theorem SC {x t n:Nat} (hx:x<2 ^ n) (ht:t<n):x=2 ^ t↔x.testBit t=true/\∀ u,u<n->u≠t->x.testBit u=false:=by
 constructor
 ·rintro rfl
  exact ⟨by simp [],λu _ hu=>by simp [Ne.symm hu]⟩
 ·rintro ⟨h1,h2⟩
  apply Nat.eq_of_testBit_eq;intro i;rw [Nat.testBit_two_pow];by_cases e:t=i
  ·subst e;simp [h1]
  ·by_cases hi:i<n
   ·rw [h2 i hi (Ne.symm e)];simp [e]
   ·rw [Nat.testBit_lt_two_pow (Nat.lt_of_lt_of_le hx (Nat.pow_le_pow_right (by decide) (by omega)))];simp [e]
def Rel (cs:List Nat) (n:Nat) (D:List Re):Prop:=∀ a,a<cs.length->∀ t,t<n->(cs.getD a 0).testBit t=MN D t a
theorem WO (words n:Nat):Rel (List.replicate words 0) n []:=by
 intro a ha t ht;have:(List.replicate words 0).getD a 0=0:=zz2t;rw [this,Sq];simp
theorem Th {cs:List Nat} {n:Nat} {D:List Re} (h:Rel cs n D) {t a:Nat} (ht:t<n) (ha:a<cs.length) (hf:cs.getD a 0<2 ^ n) (wr:Bool):IL cs t a wr=P8 D t a wr n:=by
 unfold IL P8;cases wr
 ·rw [Qq (by decide),h a ha t ht]
  simp
 ·rw [Qj rfl,Bool.true_and]
  by_cases e:cs.getD a 0=2 ^ t
  ·obtain ⟨e1,e2⟩:=(SC hf ht).1 e
   rw [h a ha t ht] at e1;have e3:Gv D t a n=false:=by
    unfold Gv;rw [List.any_eq_false];intro u hu;simp only [List.mem_range] at hu;by_cases q:u=t
    ·simp [q]
    ·have:=e2 u hu q
     rw [h a ha u hu] at this;simp [this]
   simp only [e,decide_true,e1,e3,Bool.not_true,Bool.or_false]
  ·rw [decide_eq_false e]
   cases e1:MN D t a
   ·rfl
   ·have e2:Gv D t a n=true:=by
     rw [<-Bool.not_eq_false];intro e3;apply e;refine (SC hf ht).2 ⟨by rw [h a ha t ht,e1],λu hu hne=> ?_⟩;rw [h a ha u hu];unfold Gv at e3;rw [List.any_eq_false] at e3;have:=e3 u (by simpa using hu);have gI:¬ (u:Int)=t:=by omega
     simpa [gI] using this
    rw [e2];rfl
theorem R3 {cs:List Nat} {n:Nat} {D:List Re} (h:Rel cs n D) {t a:Nat} (ht:t<n) (ha:a<cs.length) (wr:Bool):Rel (EC cs t a wr) n (D++[((t:Int),(a:Int),wr)]):=by
 intro a' ha' u hu;have hl:(EC cs t a wr).length=cs.length:=by simp [EC]
 rw [hl] at ha';rw [QF];unfold EC LM;by_cases e:a=a'
 ·subst e
  have h1:(cs.set a (if wr=true then 2 ^ t else cs.getD a 0|||2 ^ t)).getD a 0=if wr=true then 2 ^ t else cs.getD a 0|||2 ^ t:=by simp [ha]
  rw [h1];by_cases q:t=u
  ·subst q
   cases wr<;>simp []
  ·have q':¬ (t:Int)=u:=by omega
   have h2:=h a ha u hu;cases wr<;>simp [q,q']
   rw [<-h2];simp [ha]
 ·have e':¬ (a:Int)=a':=by omega
  have h1:(cs.set a (if wr=true then 2 ^ t else cs.getD a 0|||2 ^ t)).getD a' 0=cs.getD a' 0:=by simp [e]
  rw [h1,h a' ha' u hu];simp [e']
end Go.Proofs.YtmnephejhkfchaaGreat

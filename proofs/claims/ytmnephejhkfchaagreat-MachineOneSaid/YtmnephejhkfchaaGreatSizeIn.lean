
import Derived.Test.YtmnephejhkfchaaGreatPack
import Derived.Test.YtmnephejhkfchaaGreatHomed
namespace Go.Proofs.YtmnephejhkfchaaGreat
set_option maxHeartbeats 8000000
open _root_.Go.Proofs.Tryz
open Go.RowKit
set_option linter.unusedVariables false
theorem QR:(prog.info? 3).map (λi=>(i.zero,i.size,i.bytes))=some (some (.int .i64 0),1,8):=by kernel_rfl
def Tc (k:Nat):List Value:=(List.range k).map λj=> .int .i64 ((2 ^ j:Nat):Int)
theorem Qv (k:Nat) (x:Int) (h:x=((2 ^ k:Nat):Int)):Tc k++[.int .i64 x]=Tc (k+1):=by
 unfold Tc;rw [List.range_succ,List.map_append,h];rfl
theorem YI (k:Nat) (x:Int) (h:x=((2 ^ k:Nat):Int)) (hk:k<=7) (hx:x<=64):k<7:=by
 rcases Nat.lt_or_ge k 7 with h'|h'
 ·exact h'
 ·have:k=7:=by omega
  subst this;simp at h;omega
theorem YH (k:Nat) (x:Int) (h:x=((2 ^ k:Nat):Int)) (hk:k<=7) (hx:¬ x<=64):k=7:=by
 have:k=0\/k=1\/k=2\/k=3\/k=4\/k=5\/k=6\/k=7:=by omega
 rcases this with rfl|rfl|rfl|rfl|rfl|rfl|rfl|rfl<;>simp at h<;>omega
theorem pow_two (k:Nat) (x:Int) (h:x=((2 ^ k:Nat):Int)):x*2=((2 ^ (k+1):Nat):Int):=by
 rw [h,Nat.pow_succ];simp
theorem YB {w:World} {B e s n:Nat} {v:Value} {xs:List Value} (h:w.ownsRow B e s v n xs):∀ k,v.ownBlock=some k->B<=k:=by
 rcases h.2 with ⟨rfl,_⟩|⟨g,cap,cur,rfl,hb,_⟩
 ·intro k hk;simp [Value.ownBlock] at hk
 ·intro k hk;simp [Value.ownBlock] at hk;omega
theorem Qn {w:World} {B e n:Nat} {v:Value} {xs:List Value} (h:w.ownsRow B e 1 v n xs) (hn:0<n):
  ∃ g cap,v= .slice (some ⟨g,0,none⟩) n cap/\n<=cap/\∀ j (hj:j<xs.length),w.cell? ⟨g,j,none⟩=some xs[j]:=by
 rcases h.2 with ⟨_,h0⟩|⟨g,cap,cur,hv,hb,hg,hc,hm,hz,ht⟩
 ·omega
 ·refine ⟨g,cap,hv,hc,λj hj=> ?_⟩
  have hl:=h.1;subst ht;simp only [World.cell?,hg];simp
theorem RB (w:World):
  Calls prog 52 #[] w λe w'=>∃ v,e= .returned v/\w'.ownsRow w.heap.size (3) 1 v 7 (Tc 7)/\Below w.heap.size w w':=by
 obtain ⟨i0,hi,hz0,hz1,hz2⟩:=info_parts QR
 go_in
 go_wp2
 go_loopw [1,2] (λv i wr=>∃ (k:Nat) (x:Int),k<=7/\Hid (x=((2 ^ k:Nat):Int))/\1<=x/\x<=128/\i= .int .i64 x/\wr.ownsRow w.heap.size (3) 1 v k (Tc k)/\Below w.heap.size w wr)
  (λ_ i _=>(129-intOf i).toNat)
 case atStart=>exact ⟨0,1,by omega,rfl,by omega,by omega,rfl,World.ownsRow_nil _ _ _ _,Below.refl _ _⟩
 case round=>
  obtain ⟨k,x,hk,HX,hx1,hx2,rfl,hown,QG⟩:=hrel;have hsz:=QG.size;by_cases hle:x<=64
  ·have jx:=YI k x HX.out hk hle
   go_wp2_with (at_builtin;refine wpList_append_own _ rfl _ _ (22) rfl w.heap.size (3) i0 (.int .i64 0) 1 8 underlying22 hi hz0 hz1 hz2 rfl (by decide) _ _ _ rfl (hown.alloc _) ⟨wr.heap.size,0,none⟩ 1 1 [.int .i64 x] rfl rfl ?c1 ?c2 ?c3 ?c4 ?c5 ?_)
   case c1=>
    intro j u hj
    match j,hj with
    |0,hj=>simp at hj;subst hj;simp [Addr.add]
   case c2=>intro u hu;simp at hu;subst hu;rfl
   case c3=>unfold maxLen;omega
   case c4=>omega
   case c5=>simp;omega
   ·intro v' w1 hown' hgrow _
    have Zt:Below w.heap.size w w1:=(QG.alloc (by omega) _).grown hgrow (by simp;omega) (YB hown);rw [Qv k x HX.out] at hown';go_wp2;go_roundw
    case rel=>exact ⟨k+1,x*2,by omega,pow_two k x HX.out,by omega,by omega,rfl,hown',Zt⟩
    case measure=>simp [intOf];omega
  ·have jx:=YH k x HX.out hk hle
   subst jx;go_wp2;go_ret;exact ⟨_,rfl,hown,QG⟩
theorem Mr (w:World):
  Calls prog 52 #[] w λe w'=>∃ g cap,e= .returned (.slice (some ⟨g,0,none⟩) 7 cap)/\(w'.cell? ⟨g,0,none⟩=some (.int .i64 1)/\w'.cell? ⟨g,1,none⟩=some (.int .i64 2)/\w'.cell? ⟨g,2,none⟩=some (.int .i64 4)/\w'.cell? ⟨g,3,none⟩=some (.int .i64 8)/\w'.cell? ⟨g,4,none⟩=some (.int .i64 16)/\w'.cell? ⟨g,5,none⟩=some (.int .i64 32)/\w'.cell? ⟨g,6,none⟩=some (.int .i64 64))/\Below w.heap.size w w':=by
 refine (RB w).mono ?_;rintro e w' ⟨v,rfl,ho,hb⟩;obtain ⟨g,cap,rfl,_,hc⟩:=Qn ho (by decide);exact ⟨g,cap,rfl,⟨hc 0 (by decide),hc 1 (by decide),hc 2 (by decide),hc 3 (by decide),hc 4 (by decide),hc 5 (by decide),hc 6 (by decide)⟩,hb⟩
set_option maxRecDepth 100000
theorem Rx {w:World} {sa:Option Addr} {n cap:Nat} {hs:List Int} (h:Ad .i64 w sa n hs) (x:Int) (hL:n<=1000000):
  Calls prog 70 #[.slice sa n cap,.int .i64 x] w (Ke (decide (x∈hs)) w):=by
 have hlen:=h.len;have hat:=h.at;clear h
 go_in
 go_wp2
 go_loop [5,8] (λ_ i=>∃ k:Nat,k<=n/\i= .int .i64 k/\Hid (x∉hs.take k)) (λ_ i=>n-(intOf i).toNat)
 case atStart=>exact ⟨0,Nat.zero_le _,rfl,Qw (by simp)⟩
 case round=>
  obtain ⟨k,hk,rfl,hok⟩:=hrel;by_cases hlt:k<n
  ·rcases hat with h0|⟨b,o,rfl,hc⟩
   ·omega
   have c0:=hc k hlt;have hg:hs[k]? =some (hs.getD k 0):=by
    rw [List.getD_eq_getElem?_getD,List.getElem?_eq_getElem (show k<hs.length by omega)];rfl
   by_cases hx:x=hs.getD k 0
   ·have hb:Hid (decide (x∈hs)=true):=Qw (decide_eq_true (by rw [hx];exact List.mem_of_getElem? hg))
    rw [<-hx] at c0;clear hok hx hg hc;exact zz5x
   ·have hb:Hid (x∉hs.take (k+1)):=Qw (by
     rw [List.take_add_one,hg,List.mem_append];rintro (e|e)
     ·exact hok.out e
     ·exact hx (by simpa using e))
    have b1:(x==hs.getD k 0)=false:=beq_false_of_ne hx;generalize hs.getD k 0=y at c0 b1;clear hok hx hg hc;exact zz2j
  ·have hb:Hid (decide (x∈hs)=false):=Qw (decide_eq_false (by have h:=hok.out;rw [List.take_of_length_le (by omega)] at h;exact h))
   exact zz5m
theorem NL {w:World} {sa:Option Addr} {n cap:Nat} {hs:List Int} (h:Ad .i64 w sa n hs) (x:Int) (hL:n<=1000000):
  Calls prog 51 #[.slice sa n cap,.int .i64 x] w λe w'=>e= .returned (.bool (decide (x∈hs)))/\w=w':=by
 have c:=Rx (cap:=cap) h x hL;clear h;generalize decide (x∈hs)=b at*
 go_in
 go_wp2_with (go_at_call 70;with_reducible refine c.mono ?_;intro e w' hq;unfold Ke at hq;obtain ⟨⟨r,rfl,hr⟩,rfl⟩:=hq;have HR:=Qw hr;clear hr)
 go_ret;exact ⟨by rw [<-HR.out];rfl,rfl⟩
theorem R7 {w:World} {g:Nat} (h:w.cell? ⟨g,0,none⟩=some (.int .i64 1)/\w.cell? ⟨g,1,none⟩=some (.int .i64 2)/\w.cell? ⟨g,2,none⟩=some (.int .i64 4)/\w.cell? ⟨g,3,none⟩=some (.int .i64 8)/\w.cell? ⟨g,4,none⟩=some (.int .i64 16)/\w.cell? ⟨g,5,none⟩=some (.int .i64 32)/\w.cell? ⟨g,6,none⟩=some (.int .i64 64)):
  Ad .i64 w (some ⟨g,0,none⟩) 7 [1,2,4,8,16,32,64]:=by
 obtain ⟨h0,h1,h2,h3,h4,h5,h6⟩:=h;refine ⟨rfl,λe=>(by cases e),λb hb j hj=> ?_⟩;cases hb
 match j,hj with
 |0,_=>exact h0
 |1,_=>exact h1
 |2,_=>exact h2
 |3,_=>exact h3
 |4,_=>exact h4
 |5,_=>exact h5
 |6,_=>exact h6
theorem T6 (x:Int):decide (x∈[(1:Int),2,4,8,16,32,64])=Bj x:=by
 unfold Bj;simp
end Go.Proofs.YtmnephejhkfchaaGreat

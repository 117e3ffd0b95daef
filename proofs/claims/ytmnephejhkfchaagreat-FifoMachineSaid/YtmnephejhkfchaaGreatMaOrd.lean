import Derived.Test.YtmnephejhkfchaaGreatMaLw
import Derived.Test.YtmnephejhkfchaaGreatMaAw
import Derived.Test.YtmnephejhkfchaaGreatAbortOrd
set_option linter.unusedVariables false
namespace Go.Proofs.YtmnephejhkfchaaGreat.Kf
open Go.RowKit Go.BigFrame
set_option maxRecDepth 100000
theorem ord_new (n t:Nat) (v:Int) (hn:n≤64) (ht:t=n) (hv:0≤v∧v<4294967296):OrdJ (newF n t v) none [] v v:=by
 subst ht
 refine ⟨hn,rfl,by simp [newF,newS,newSeat],hv,by simp,by simp,by simp,?_,λk hk=>by simp [newF],λk hk=>by simp at hk,by simp,λk hk _=> .inl rfl⟩
 simp only [Option.toList_none,List.nil_append,List.length_nil]
 omega
end Go.Proofs.YtmnephejhkfchaaGreat.Kf
namespace Go.Proofs.YtmnephejhkfchaaGreat.Ks
open Go.RowKit Go.BigFrame
set_option maxRecDepth 100000
theorem ord_new (n sz z:Nat) (v:Int) (h8:n≤8) (hn:n≤sz) (siz:sizeB sz=true) (hv:0≤v∧v<4294967296) (hz:v%(sz:Int)=(z:Int)):OrdJ (newF n n sz z v) none [] v.toNat v.toNat:=by
 obtain ⟨x,rfl⟩:=Int.eq_ofNat_of_zero_le hv.1
 have hc:sz=1∨sz=2∨sz=4∨sz=8∨sz=16∨sz=32∨sz=64:=by
  unfold sizeB at siz
  have:=of_decide_eq_true siz
  omega
 have hz2:x%sz=z:=by
  rw [←Int.natCast_emod] at hz
  exact Int.ofNat.inj hz
 refine ⟨h8,hn,?_,by show sz≤64;omega,rfl,?_,by simp [newF,newS,newSeat],by simp,by simp,by simp,by simp,λk hk=>by simp [newF],λk hk hp=>by simp [newF] at hp,λk=> .inl rfl,λk hk=>by simp at hk,by simp,λk hk _=> .inl rfl⟩
 ·show sz ∣ 4294967296
  rcases hc with rfl|rfl|rfl|rfl|rfl|rfl|rfl<;>decide
 ·show (x:Int)::slotR z sz=_::slotsL sz (some ((x:Int).toNat%sz))
  rw [Int.toNat_natCast,hz2,slotR_all]
  congr 1
  omega
end Go.Proofs.YtmnephejhkfchaaGreat.Ks
namespace Go.Proofs.YtmnephejhkfchaaGreat.Kc
open Go.RowKit Go.BigFrame
set_option maxRecDepth 100000
theorem ord_new (n:Nat) (hn:n≤64):OrdJ (newF n n) none [] 0:=by
 have hk:∀ j,j<n→nodeK n j=(j:Int)+1:=λj hj=>by unfold nodeK;rw [if_pos hj]
 refine ⟨hn,λj hj=> ?_,⟨Int.le_refl _,by show (0:Int)≤(n:Int);omega⟩,λj k hj hk2 e=> ?_,λj hj=> ?_,⟨List.replicate (n+1) 0,rfl,by rw [List.length_replicate];rfl,λj hj=> ?_,by simp⟩,by simp [newF,newS,newSeat],by simp,by simp,λj hj=>by simp [newF],λj=> .inl rfl,λj hj hp=>by simp [newF] at hp,trivial,λk hk=>(by cases hk),by simp,λk hk _=> .inl rfl⟩
 ·show 0≤nodeK n j∧nodeK n j≤(n:Int)
  have hj:j<n:=hj
  rw [hk j hj];omega
 ·have hj:j<n:=hj
  have hk2:k<n:=hk2
  have e:nodeK n j=nodeK n k:=e
  rw [hk j hj,hk k hk2] at e;omega
 ·show nodeK n j≠0
  have hj:j<n:=hj
  rw [hk j hj];omega
 ·show (List.replicate (n+1) (0:Int)).getD _ 0=if (0:Int)=0 then 0 else 1
  rw [if_pos rfl,List.getD_eq_getElem?_getD,List.getElem?_replicate]
  split<;>rfl
end Go.Proofs.YtmnephejhkfchaaGreat.Kc
namespace Go.Proofs.YtmnephejhkfchaaGreat.Km
open Go.RowKit Go.BigFrame
set_option maxRecDepth 100000
theorem ord_new (n:Nat) (hn:n≤64):OrdJ (newF n n) none []:=by
 have hz:∀ i,((newF n n).ps.ws).getD i 0=0:=zerosC_at n
 refine ⟨hn,zerosC_len n,by simp [newF,newS,newSeat],⟨by simp,by simp,hz 0,λj=>⟨Int.le_refl _,by show (0:Int)≤4;decide⟩,λj hj hs=>by simp [newF,newSeat] at hs,λj hj _ _=>rfl,λj hj _=>by show (0:Int)≤3;decide,λk hk=>(by cases hk),by simp,λk hk _=> .inl rfl,trivial,λj hj _ hp=>by simp [newF] at hp,λ_ k r e=>by simp at e,λk hk=>(by cases hk),λk hk=>(by cases hk)⟩⟩
end Go.Proofs.YtmnephejhkfchaaGreat.Km
namespace Go.Proofs.YtmnephejhkfchaaGreat.Ka
open Go.RowKit Go.BigFrame
set_option maxRecDepth 100000
theorem ord_new (n ea:Nat) (hn:n≤8) (e1:1≤ea) (e2:ea≤8):OrdJ (newF n ea n) none []:=by
 have hz:∀ i,((newF n ea n).ps.ws).getD i 0=0:=zerosA_at (n*ea)
 have hr:∀ t,(newF n ea n).ro t= .idle:=λt=>ro_idle rfl
 have hS:∀ i,wS (newF n ea n).ps i=0:=λi=>by cases i<;>first|rfl|exact hz _
 have hN:∀ i,wN (newF n ea n).ps i=0:=λi=>by cases i<;>first|rfl|exact hz _
 have hO:∀ i,wO (newF n ea n).ps i=0:=λi=>by cases i<;>first|rfl|exact hz _
 refine ⟨hn,⟨e1,e2⟩,rfl,zerosA_len _,by simp [newF,newS,newSeat],?_,λt=>⟨by show (1:Int)≤1;decide,by show (1:Int)≤8;decide⟩,λt _=>by show (0:Int)≤0∧(0:Int)≤3;decide,λt _ q=>absurd (show (0:Int)=3 from q) (by decide),λt _ _ _=>rfl,λt _=>⟨⟨Int.le_refl 0,by show (0:Int)≤(ea:Int);omega⟩,λq=>absurd (show (0:Int)=1 from q) (by decide),λ_=>rfl⟩,λt=>Int.le_refl 0,λt=>Int.le_refl 0⟩
 refine ⟨List.nodup_nil,λi hi=>by simp at hi,λ_=>hz 0,?_,?_,?_,?_,?_,?_,?_,?_,?_,?_,λi hi=>by simp at hi,λi _ _=> .inl (hO i),?_,?_⟩
 ·rintro k ⟨a,ha⟩;simp at ha
 ·rintro i j ⟨a,b,ha⟩;simp at ha
 all_goals grind
end Go.Proofs.YtmnephejhkfchaaGreat.Ka
namespace Go.Proofs.YtmnephejhkfchaaGreat
open Go.RowKit Go.BigFrame
set_option maxRecDepth 100000
theorem MS.runs_n (s:MS) (z:Nat→Nat→Int):∀ n,(s.runs z n).a.s.n=s.a.s.n
 |0=>rfl
 |n+1=>by
  refine Eq.trans ?_ (runs_n s z n)
  show ((s.runs z n).Do _ _ _).a.s.n=_
  generalize s.runs z n=r
  unfold MS.Do MS.does MS.pick MS.tick MS.call MS.fin
  repeat' split
  all_goals first|rfl|exact r.a.step_n _ _|exact r.a.lock_n _ _|exact r.a.turn_n _ _
end Go.Proofs.YtmnephejhkfchaaGreat

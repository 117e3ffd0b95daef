import Derived.Test.YtmnephejhkfchaaGreatMaLw
import Derived.Test.YtmnephejhkfchaaGreatMaAw
import Derived.Test.YtmnephejhkfchaaGreatAbortOrd
set_option linter.unusedVariables false
namespace Go.Proofs.YtmnephejhkfchaaGreat.Kf
open Go.RowKit Go.BigFrame
set_option maxRecDepth 100000
theorem CZ (n t:Nat) (v:Int) (hn:n<=64) (ht:t=n) (hv:0<=v/\v<4294967296):OrdJ (Bl n t v) none [] v v:=by
 subst ht;refine ⟨hn,rfl,by simp [Bl,Dq,AQ],hv,by simp,by simp,by simp,?_,λk hk=>by simp [Bl],λk hk=>by simp at hk,by simp,λk hk _=> .inl rfl⟩;simp only [Option.toList_none,List.nil_append,List.length_nil];omega
end Go.Proofs.YtmnephejhkfchaaGreat.Kf
namespace Go.Proofs.YtmnephejhkfchaaGreat.Ks
open Go.RowKit Go.BigFrame
set_option maxRecDepth 100000
theorem CZ (n sz z:Nat) (v:Int) (h8:n<=8) (hn:n<=sz) (Fa:Bj sz=true) (hv:0<=v/\v<4294967296) (hz:v%(sz:Int)=(z:Int)):OrdJ (Bl n n sz z v) none [] v.toNat v.toNat:=by
 obtain ⟨x,rfl⟩:=Qx hv.1;have hc:sz=1\/sz=2\/sz=4\/sz=8\/sz=16\/sz=32\/sz=64:=by
  unfold Bj at Fa;have:=of_decide_eq_true Fa;omega
 have hz2:x%sz=z:=by
  rw [<-Int.natCast_emod] at hz;exact Int.ofNat.inj hz
 refine ⟨h8,hn,?_,by show sz<=64;omega,rfl,?_,by simp [Bl,Dq,AQ],by simp,by simp,by simp,by simp,λk hk=>by simp [Bl],λk hk hp=>by simp [Bl] at hp,λk=> .inl rfl,λk hk=>by simp at hk,by simp,λk hk _=> .inl rfl⟩
 ·show sz ∣ 4294967296
  rcases hc with rfl|rfl|rfl|rfl|rfl|rfl|rfl<;>decide
 ·show (x:Int)::D4 z sz=_::Bp sz (some ((x:Int).toNat%sz))
  rw [Int.toNat_natCast,hz2,RD]
  congr 1
  omega
end Go.Proofs.YtmnephejhkfchaaGreat.Ks
namespace Go.Proofs.YtmnephejhkfchaaGreat.Kc
open Go.RowKit Go.BigFrame
set_option maxRecDepth 100000
theorem CZ (n:Nat) (hn:n<=64):OrdJ (Bl n n) none [] 0:=by
 have hk:∀ j,j<n->CP n j=(j:Int)+1:=λj hj=>by unfold CP;rw [Qj hj]
 refine ⟨hn,λj hj=> ?_,⟨Int.le_refl _,by show (0:Int)<=(n:Int);omega⟩,λj k hj hk2 e=> ?_,λj hj=> ?_,⟨List.replicate (n+1) 0,rfl,by rw [List.length_replicate];rfl,λj hj=> ?_,by simp⟩,by simp [Bl,Dq,AQ],by simp,by simp,λj hj=>by simp [Bl],λj=> .inl rfl,λj hj hp=>by simp [Bl] at hp,trivial,λk hk=>(by cases hk),by simp,λk hk _=> .inl rfl⟩
 ·show 0<=CP n j/\CP n j<=(n:Int)
  exact zz6b
 ·have hj:j<n:=hj
  have hk2:k<n:=hk2;have e:CP n j=CP n k:=e;rw [hk j hj,hk k hk2] at e;omega
 ·show CP n j≠0
  exact zz6b
 ·exact zz4f
end Go.Proofs.YtmnephejhkfchaaGreat.Kc
namespace Go.Proofs.YtmnephejhkfchaaGreat.Km
open Go.RowKit Go.BigFrame
set_option maxRecDepth 100000
theorem CZ (n:Nat) (hn:n<=64):OrdJ (Bl n n) none []:=by
 have hz:∀ i,((Bl n n).ps.ws).getD i 0=0:=G_ n;refine ⟨hn,OQ n,by simp [Bl,Dq,AQ],⟨by simp,by simp,hz 0,λj=>⟨Int.le_refl _,by show (0:Int)<=4;decide⟩,λj hj hs=>by simp [Bl,AQ] at hs,λj hj _ _=>rfl,λj hj _=>by show (0:Int)<=3;decide,λk hk=>(by cases hk),by simp,λk hk _=> .inl rfl,trivial,λj hj _ hp=>by simp [Bl] at hp,λ_ k r e=>by simp at e,λk hk=>(by cases hk),λk hk=>(by cases hk)⟩⟩
end Go.Proofs.YtmnephejhkfchaaGreat.Km
namespace Go.Proofs.YtmnephejhkfchaaGreat.Ka
open Go.RowKit Go.BigFrame
set_option maxRecDepth 100000
theorem CZ (n ea:Nat) (hn:n<=8) (e1:1<=ea) (e2:ea<=8):OrdJ (Bl n ea n) none []:=by
 have hz:∀ i,((Bl n ea n).ps.ws).getD i 0=0:=KZ (n*ea);have hr:∀ t,(Bl n ea n).ro t= .idle:=λt=>G6 rfl;have hS:∀ i,wS (Bl n ea n).ps i=0:=λi=>by cases i<;>first|rfl|exact hz _
 have hN:∀ i,wN (Bl n ea n).ps i=0:=λi=>by cases i<;>first|rfl|exact hz _
 have hO:∀ i,wO (Bl n ea n).ps i=0:=λi=>by cases i<;>first|rfl|exact hz _
 refine ⟨hn,⟨e1,e2⟩,rfl,OP _,by simp [Bl,Dq,AQ],?_,λt=>⟨by show (1:Int)<=1;decide,by show (1:Int)<=8;decide⟩,λt _=>by show (0:Int)<=0/\(0:Int)<=3;decide,λt _ q=>absurd (show (0:Int)=3 from q) (by decide),λt _ _ _=>rfl,λt _=>⟨⟨Int.le_refl 0,by show (0:Int)<=(ea:Int);omega⟩,λq=>absurd (show (0:Int)=1 from q) (by decide),λ_=>rfl⟩,λt=>Int.le_refl 0,λt=>Int.le_refl 0⟩;refine ⟨List.nodup_nil,λi hi=>by simp at hi,λ_=>hz 0,?_,?_,?_,?_,?_,?_,?_,?_,?_,?_,λi hi=>by simp at hi,λi _ _=> .inl (hO i),?_,?_⟩
 ·rintro k ⟨a,ha⟩;simp at ha
 ·rintro i j ⟨a,b,ha⟩;simp at ha
 all_goals grind
end Go.Proofs.YtmnephejhkfchaaGreat.Ka
namespace Go.Proofs.YtmnephejhkfchaaGreat.Kh
open Go.RowKit Go.BigFrame
set_option maxRecDepth 100000
theorem CZ (zs:List Int) (n:Nat) (hn:n<=8) (ho:A8 zs=true):OrdJ (Bl zs n n) none [] (λ_=>[]):=by
 have hz:=λi=>Co ho i;have hz:∀ i,0<=zs.getD i 0/\zs.getD i 0<=7:=λi=>by have:=hz i;unfold FO at this;have:=of_decide_eq_true this;omega
 refine ⟨hn,rfl,OM n,by simp [Bl,Dq,AQ],⟨λ_=>0,n+1,?_⟩,λt _=>hz t,λt=>by show (0:Int)<=0/\(0:Int)<=7;decide,λt _=>by show (0:Int)<=0/\(0:Int)<=3;decide,λt _ q=>absurd (show (0:Int)=3 from q) (by decide),λt _ _ _=>rfl,λt=>by show (0:Int)<=(t:Int)+1;omega,λt=>Int.le_refl 0,λt=>Int.le_refl 0⟩;have hT:wT (Bl zs n n).ps=((n+1:Nat):Int):=by show (n:Int)+1=_;omega
 rw [hT];refine Cor.start n _ _ _ (λt=> ?_) _ (λt=>eP rfl) _ _ _ (λc=> ?_) ?_
 ·show ((t:Int)+1).toNat=t+1
  omega
 ·unfold wK
  split
  ·show ([(n:Int)+1]++List.replicate 8 0++List.replicate n 0++[4294967292]).getD (c+1) 0=0
   have:c=0\/c=1\/c=2\/c=3\/c=4\/c=5\/c=6\/c=7:=by omega
   rcases this with rfl|rfl|rfl|rfl|rfl|rfl|rfl|rfl<;>simp [List.getD_eq_getElem?_getD,List.replicate]
  ·rfl
 ·have:wX (Bl zs n n).ps (n+1)=4294967292:=by
   show ([(n:Int)+1]++List.replicate 8 0++List.replicate n 0++[4294967292]).getD (n+9) 0=4294967292;rw [List.getD_eq_getElem?_getD,List.getElem?_append_right (by simp)];simp
  rw [this];decide
end Go.Proofs.YtmnephejhkfchaaGreat.Kh
namespace Go.Proofs.YtmnephejhkfchaaGreat
open Go.RowKit Go.BigFrame
set_option maxRecDepth 100000
def Any.Ord:Any->Prop
 | .tk L f=>L.a1=0/\L.a2=1/\∃ W,Kf.OrdI f W
 | .sl L f=>L.a1=0/\L.a2=1/\∃ W,Ks.OrdI f W
 | .cl L f=>L.a1=0/\L.a2=1/\∃ W,Kc.OrdI f W
 | .mc L f=>L.a1=0/\L.a2=1/\∃ W,Km.OrdI f W
 | .ab L f=>L.a1=0/\L.a2=1/\∃ W,Ka.OrdI f W
 | .hi L f=>L.a1=0/\L.a2=1/\∃ W,Kh.OrdI f W
 | .co L f=>L.a1=0/\∃ ga la H V gg Wg,OrdJ f ga la H V gg Wg
namespace Any.Ord
variable {a:Any}
theorem lock (h:a.Ord) (t d:Int):(a.lock t d).Ord:=by
 cases a with
 |tk L f=>obtain ⟨h1,h2,W,h⟩:=h;exact ⟨h1,h2,W,h.lock t d⟩
 |sl L f=>obtain ⟨h1,h2,W,h⟩:=h;exact ⟨h1,h2,W,h.lock t d⟩
 |cl L f=>obtain ⟨h1,h2,W,h⟩:=h;exact ⟨h1,h2,W,h.lock t d⟩
 |mc L f=>obtain ⟨h1,h2,W,h⟩:=h;exact ⟨h1,h2,W,h.lock t d⟩
 |ab L f=>obtain ⟨h1,h2,W,h⟩:=h;exact ⟨h1,h2,W,h.lock t d⟩
 |hi L f=>obtain ⟨h1,h2,W,h⟩:=h;exact ⟨h1,h2,W,h.lock t d⟩
 |co L f=>obtain ⟨h1,ga,la,H,V,gg,Wg,h⟩:=h;exact ⟨h1,ga,la,H,V,gg,Wg,h.lock t d⟩
theorem unlock (h:a.Ord) (t:Int):(a.turn t 3).Ord:=by
 cases a with
 |tk L f=>obtain ⟨h1,h2,W,h⟩:=h;exact ⟨h1,h2,W,h.unlock t⟩
 |sl L f=>obtain ⟨h1,h2,W,h⟩:=h;exact ⟨h1,h2,W,h.unlock t⟩
 |cl L f=>obtain ⟨h1,h2,W,h⟩:=h;exact ⟨h1,h2,W,h.unlock t⟩
 |mc L f=>obtain ⟨h1,h2,W,h⟩:=h;exact ⟨h1,h2,W,h.unlock t⟩
 |ab L f=>obtain ⟨h1,h2,W,h⟩:=h;exact ⟨h1,h2,W,h.unlock t⟩
 |hi L f=>obtain ⟨h1,h2,W,h⟩:=h;exact ⟨h1,h2,W,h.unlock t⟩
 |co L f=>obtain ⟨h1,ga,la,H,V,gg,Wg,h⟩:=h;exact ⟨h1,ga,la,H,V,gg,Wg,h.unlock t⟩
theorem step (h:a.Ord) (t x:Int):(a.step t x).Ord:=by
 cases a with
 |tk L f=>obtain ⟨h1,h2,W,h⟩:=h;obtain ⟨W',k,_⟩:=h.step h1 h2 t;exact ⟨h1,h2,W',k⟩
 |sl L f=>obtain ⟨h1,h2,W,h⟩:=h;obtain ⟨W',k,_⟩:=h.step h1 h2 t;exact ⟨h1,h2,W',k⟩
 |cl L f=>obtain ⟨h1,h2,W,h⟩:=h;obtain ⟨W',k,_⟩:=h.step h1 h2 t;exact ⟨h1,h2,W',k⟩
 |mc L f=>obtain ⟨h1,h2,W,h⟩:=h;obtain ⟨W',k,_⟩:=h.step h1 h2 t;exact ⟨h1,h2,W',k⟩
 |ab L f=>obtain ⟨h1,h2,W,h⟩:=h;obtain ⟨W',k,_⟩:=h.step h1 h2 t x;exact ⟨h1,h2,W',k⟩
 |hi L f=>obtain ⟨h1,h2,W,h⟩:=h;obtain ⟨W',k,_⟩:=h.step h1 h2 t;exact ⟨h1,h2,W',k⟩
 |co L f=>obtain ⟨h1,ga,la,H,V,gg,Wg,h⟩:=h;obtain ⟨H',V',RS,Rf,k⟩:=h.step h1 t;exact ⟨h1,ga,la,H',V',RS,Rf,k⟩
theorem one (h:a.Ord) {j k:Nat} (hj:j<a.s.n) (hk:k<a.s.n) (ej:a.s.st j=2) (ek:a.s.st k=2):j=k:=by
 cases a with
 |tk L f=>obtain ⟨_,_,W,h⟩:=h;exact h.one hj hk ej ek
 |sl L f=>obtain ⟨_,_,W,h⟩:=h;exact h.one hj hk ej ek
 |cl L f=>obtain ⟨_,_,W,h⟩:=h;exact h.one hj hk ej ek
 |mc L f=>obtain ⟨_,_,W,h⟩:=h;exact h.one hj hk ej ek
 |ab L f=>obtain ⟨_,_,W,h⟩:=h;exact h.one hj hk ej ek
 |hi L f=>obtain ⟨_,_,W,h⟩:=h;exact h.one hj hk ej ek
 |co L f=>obtain ⟨_,ga,la,H,V,gg,Wg,h⟩:=h;exact h.one hj hk ej ek
end Any.Ord
theorem DM.ord {n:Nat} {zs:List Int} {v sz pl B G D:Int} {a:Any} (h:DM n zs v sz pl B G D a) (n8:n<=8) (hl:zs.length=n) (ho:A8 zs=true) (hv:0<=v/\v<4294967296):a.Ord:=by
 have Y7:n<=64:=by omega
 cases a with
 |tk L f=>obtain ⟨rfl,h1,h2,_⟩:=h;exact ⟨h1,h2,[],_,_,_,Kf.CZ n n v Y7 rfl hv⟩
 |sl L f=>obtain ⟨m,z,_,Fa,hm,hz,rfl,h1,h2,_⟩:=h;exact ⟨h1,h2,[],_,_,_,Ks.CZ n m z v n8 hm Fa hv hz⟩
 |cl L f=>obtain ⟨rfl,h1,h2,_⟩:=h;exact ⟨h1,h2,[],_,_,Kc.CZ n Y7⟩
 |mc L f=>obtain ⟨rfl,h1,h2,_⟩:=h;exact ⟨h1,h2,[],_,Km.CZ n Y7⟩
 |ab L f=>obtain ⟨ea,_,e1,e2,rfl,h1,h2,_⟩:=h;exact ⟨h1,h2,_,_,_,Ka.CZ n ea n8 e1 e2,rfl⟩
 |hi L f=>obtain ⟨rfl,h1,h2,_⟩:=h;exact ⟨h1,h2,_,_,_,_,Kh.CZ zs n n8 ho,rfl⟩
 |co L f=>
  obtain ⟨rfl,h1,_,hR⟩:=h;have hB:1<=B/\B<=1000:=by unfold CK at hR;simp at hR;omega
  exact ⟨h1,_,_,_,_,_,_,CZ zs n hl Y7 ho hB⟩
theorem MS.MF {s:MS} (h:s.a.Ord) (k t x:Int):(s.does k t x).a.Ord:=by
 unfold MS.does MS.pick MS.tick MS.call MS.fin
 repeat' split
 all_goals first|exact h|exact h.step _ _|exact h.lock _ _|exact h.unlock _
theorem MS.XP {s:MS} (h:s.a.Ord) (k t x:Int):(s.Do k t x).a.Ord:=by
 unfold MS.Do;split
 ·exact MF h k t x
 ·exact MF h k t x
theorem MS.Mo {s:MS} (h:s.a.Ord) (z:Nat->Nat->Int):∀ n,(s.runs z n).a.Ord
 |0=>h
 |n+1=>XP (Mo h z n) _ _ _
def hcn (st:Nat->Int):Nat->Nat
 |0=>0
 |j+1=>hcn st j+if st j=2 then 1 else 0
theorem Ou {st:Nat->Int} {n:Nat} (h:∀ j k,j<n->k<n->st j=2->st k=2->j=k):∀ j,j<=n->hcn st j<=1/\(hcn st j=1->∃ i,i<j/\st i=2)
 |0,_=>⟨Nat.zero_le _,λe=>by cases e⟩
 |j+1,hj=>by
  obtain ⟨h1,h2⟩:=Ou h j (by omega);unfold hcn;by_cases e:st j=2
  ·rw [Qj e]
   refine ⟨?_,λ_=>⟨j,by omega,e⟩⟩;rcases Nat.lt_or_ge (hcn st j) 1 with x|x
   ·omega
   ·obtain ⟨i,hi,ei⟩:=h2 (by omega)
    have:=h i j (by omega) (by omega) ei e;omega
  ·rw [Qq e]
   exact ⟨by omega,λx=>by obtain ⟨i,hi,ei⟩:=h2 (by omega);exact ⟨i,by omega,ei⟩⟩
end Go.Proofs.YtmnephejhkfchaaGreat

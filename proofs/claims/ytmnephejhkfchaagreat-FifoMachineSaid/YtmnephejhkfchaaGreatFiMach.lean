
import Derived.Test.YtmnephejhkfchaaGreatMaOrd
import Derived.Test.YtmnephejhkfchaaGreatFiAw
namespace Go.Proofs.YtmnephejhkfchaaGreat
open Go.RowKit Go.BigFrame
set_option linter.unusedVariables false
set_option maxRecDepth 100000
def codeA (x:Int) (m:Prop) [Decidable m]:Nat:=if x=0 then 0 else if x=1 then (if m then 2 else 1) else if x=2 then 3 else if x=3 then 4 else 5
def faOf (s:SS) (W:List Nat):FA:=⟨λt=>codeA (s.st t) (t∈W),W⟩
theorem FA.ext {x y:FA} (h1:∀ t,x.st t=y.st t) (h2:x.q=y.q):x=y:=by
 cases x;cases y
 dsimp only at h1 h2
 rw [h2,funext h1]
inductive SQ (W:List Nat) (t:Nat) (d:Dd) (W':List Nat):Prop where
 |same (h0:d.enq=false) (h1:d.ev≠1) (h2:d.ev≠2) (e:W'=W):SQ W t d W'
 |enq (hd:d=⟨0,true,false,false⟩) (e:W'=W++[t]):SQ W t d W'
 |grant (hd:d=⟨1,false,false,false⟩) (e:W=t::W') (hn:t∉W'):SQ W t d W'
 |both (hd:d=⟨1,true,false,false⟩) (e:W=[]) (e':W'=[]):SQ W t d W'
 |gone (hd:d=⟨2,false,false,false⟩) (e:W'=W.filter λu=>decide (u≠t)):SQ W t d W'
structure QOk (s:SS) (W:List Nat):Prop where
 nodup:W.Nodup
 st:∀ k,k∈W→k<s.n∧s.st k=1
 one:∀ j k,j<s.n→k<s.n→s.st j=2→s.st k=2→j=k
theorem fin_at {s:SS} {t:Nat} (ht:t<s.n) {ev y:Int} (h:behindI (s.st t) ev=some y):s.fin t ev=s.set t y 0:=by
 unfold SS.fin endO
 rw [if_pos ⟨by omega,by omega⟩,Int.toNat_natCast,h]
theorem fin_no' {s:SS} {t:Nat} {ev:Int} (h:behindI (s.st t) ev=none):s.fin t ev=s:=by
 unfold SS.fin endO
 split
 ·next y hy=>
  split at hy
  ·rw [Int.toNat_natCast,h] at hy;cases hy
  ·cases hy
 ·rfl
theorem codeA_iff {x:Int} {p q:Prop} [Decidable p] [Decidable q] (h:p↔q):codeA x p=codeA x q:=by
 unfold codeA
 by_cases hp:p
 ·have hq:=h.1 hp
  rw [if_pos hp,if_pos hq]
 ·have hq:¬ q:=λx=>hp (h.2 x)
  rw [if_neg hp,if_neg hq]
theorem fa_set {s:SS} {W W':List Nat} {t c:Nat} {y:Int} (hm:∀ u,u≠t→(u∈W'↔u∈W)) (hc:codeA y (t∈W')=c):(⟨upd (faOf s W).st t c,W'⟩:FA)=faOf (s.set t y 0) W':=by
 refine FA.ext (λu=> ?_) rfl
 show upd (faOf s W).st t c u=codeA (upd s.st t y u) (u∈W')
 by_cases q:u=t
 ·subst q
  rw [upd_same,upd_same,hc]
 ·rw [upd_other _ _ q,upd_other _ _ q]
  exact (codeA_iff (hm u q)).symm
theorem fa_enq {s:SS} {W W':List Nat} {t c:Nat} (hm:∀ u,u≠t→(u∈W'↔u∈W)) (hc:codeA (s.st t) (t∈W')=c):(⟨upd (faOf s W).st t c,W'⟩:FA)=faOf s W':=by
 refine FA.ext (λu=> ?_) rfl
 show upd (faOf s W).st t c u=codeA (s.st u) (u∈W')
 by_cases q:u=t
 ·subst q
  rw [upd_same,hc]
 ·rw [upd_other _ _ q]
  exact (codeA_iff (hm u q)).symm
section
variable {n t:Nat} {now:Int} {x:FA}
theorem tk_in (ht:t<n):¬ (false=true∨¬ (0≤(t:Int)∧(t:Int)<n)):=by simp;omega
theorem tk_1 (ht:t<n) (h:x.st t=0):x.take n ⟨1,t,now,false⟩=some ⟨upd x.st t 1,x.q⟩:=by unfold FA.take;dsimp only;rw [if_neg (tk_in ht),if_pos rfl,Int.toNat_natCast,if_pos h]
theorem tk_2 (ht:t<n) (h:x.st t=1):x.take n ⟨2,t,now,false⟩=some ⟨upd x.st t 2,x.q++[t]⟩:=by unfold FA.take;dsimp only;rw [if_neg (tk_in ht),if_neg (by decide),if_pos rfl,Int.toNat_natCast,if_pos h]
theorem tk_4 (ht:t<n) (h:x.st t=2) (hq:x.q.head? =some t) (ho:∀ u,u<n→x.st u≠3):x.take n ⟨4,t,now,false⟩=some ⟨upd x.st t 3,x.q.tail⟩:=by
 unfold FA.take
 dsimp only
 rw [if_neg (tk_in ht),if_neg (by decide),if_neg (by decide),if_pos rfl,Int.toNat_natCast,if_pos ⟨h,hq,ho⟩]
theorem tk_5 (ht:t<n) (h:x.st t=1∨x.st t=2):x.take n ⟨5,t,now,false⟩=some ⟨upd x.st t 0,x.q.filter λu=>decide (u≠t)⟩:=by
 unfold FA.take
 dsimp only
 rw [if_neg (tk_in ht),if_neg (by decide),if_neg (by decide),if_neg (by decide),if_pos rfl,Int.toNat_natCast,if_pos h]
theorem tk_6 (ht:t<n) (h:x.st t=3):x.take n ⟨6,t,now,false⟩=some ⟨upd x.st t 4,x.q⟩:=by
 unfold FA.take
 dsimp only
 rw [if_neg (tk_in ht),if_neg (by decide),if_neg (by decide),if_neg (by decide),if_neg (by decide),if_pos rfl,Int.toNat_natCast,if_pos h]
theorem tk_7 (ht:t<n) (h:x.st t=4):x.take n ⟨7,t,now,false⟩=some ⟨upd x.st t 0,x.q⟩:=by
 unfold FA.take
 dsimp only
 rw [if_neg (tk_in ht),if_neg (by decide),if_neg (by decide),if_neg (by decide),if_neg (by decide),if_neg (by decide),if_pos rfl,Int.toNat_natCast,if_pos h]
theorem tk_8 (ht:t<n) (h:x.st t=1):x.take n ⟨8,t,now,false⟩=some ⟨upd x.st t 0,x.q⟩:=by
 unfold FA.take
 dsimp only
 rw [if_neg (tk_in ht),if_neg (by decide),if_neg (by decide),if_neg (by decide),if_neg (by decide),if_neg (by decide),if_neg (by decide),if_pos rfl,Int.toNat_natCast,if_pos h]
theorem run_1 {y:FA} {e:Ent} (h:x.take n e=some y):x.run n [e]=some y:=by
 show (match x.take n e with|some y=>FA.run n y []|none=>none)=_
 rw [h]
 rfl
end
theorem fits_step {s:SS} {W W':List Nat} {d:Dd} {t:Nat} {now:Int} (ht:t<s.n) (hb:s.st t=1∨s.st t=3) (ha:d.arr=false) (hl:d.lead=false)
  (h1:s.st t=1→d.ev=0∨d.ev=1∨d.ev=2∨d.ev=6) (h3:s.st t=3→(d.ev=0∨d.ev=3)∧d.enq=false) (hq:SQ W t d W') (k:QOk s W) (k':QOk (s.fin t d.ev) W'):
  (faOf s W).run s.n (tells t now d)=some (faOf (s.fin t d.ev) W'):=by
 obtain ⟨ev,enq,arr,lead⟩:=d
 dsimp only at ha hl h1 h3 k' ⊢
 subst ha hl
 have c0:(faOf s W).st t=codeA (s.st t) (t∈W):=rfl
 rcases hq with ⟨h0,e1,e2,e⟩|⟨hd,e⟩|⟨hd,e,hn⟩|⟨hd,e,e'⟩|⟨hd,e⟩
 ·dsimp only at h0 e1 e2
  obtain rfl:W=W':=e.symm
  subst h0
  rcases hb with b|b
  ·rcases h1 b with rfl|rfl|rfl|rfl
   ·rw [fin_no' (by rw [b];rfl)];rfl
   ·exact absurd rfl e1
   ·exact absurd rfl e2
   ·have hf:=fin_at (s:=s) ht (ev:=6) (y:=0) (by rw [b];rfl)
    rw [hf] at k' ⊢
    have hm:t∉W:=λhm=>by
     have h:=(k'.st t hm).2
     rw [show (s.set t 0 0).st t=0 from upd_same _ _ _] at h
     cases h
    have e:(faOf s W).st t=1:=by rw [c0,b];unfold codeA;rw [if_neg (by decide),if_pos rfl,if_neg hm]
    refine run_1 (e:=⟨8,t,now,false⟩) ((tk_8 ht e).trans (congrArg some (fa_set (W':=W) (λ_ _=>Iff.rfl) rfl)))
  ·rcases (h3 b).1 with rfl|rfl
   ·rw [fin_no' (by rw [b];rfl)];rfl
   ·have hf:=fin_at (s:=s) ht (ev:=3) (y:=0) (by rw [b];rfl)
    rw [hf] at k' ⊢
    have e:(faOf s W).st t=4:=by rw [c0,b];rfl
    exact run_1 (e:=⟨7,t,now,false⟩) ((tk_7 ht e).trans (congrArg some (fa_set (W':=W) (λ_ _=>Iff.rfl) rfl)))
 all_goals
  cases hd
  have b:s.st t=1:=by
   rcases hb with b|b
   ·exact b
   ·have h:=h3 b
    first|exact absurd h.2 (by decide)|(rcases h.1 with q|q<;>cases q)
 ·obtain rfl:=e
  have hf:s.fin t 0=s:=fin_no' (by rw [b];rfl)
  rw [hf] at k' ⊢
  have hm:t∉W:=λhm=>by
   have h:=k'.nodup
   rw [List.nodup_append] at h
   exact h.2.2 t hm t (List.mem_singleton.2 rfl) rfl
  have e:(faOf s W).st t=1:=by rw [c0,b];unfold codeA;rw [if_neg (by decide),if_pos rfl,if_neg hm]
  refine run_1 (e:=⟨2,t,now,false⟩) ((tk_2 ht e).trans (congrArg some (fa_enq (W':=W++[t]) (λu hu=>by simp [hu]) ?_)))
  rw [b]
  unfold codeA
  rw [if_neg (by decide),if_pos rfl,if_pos (by simp)]
 ·obtain rfl:=e
  have hf:=fin_at (s:=s) ht (ev:=1) (y:=2) (by rw [b];rfl)
  rw [hf] at k' ⊢
  have e:(faOf s (t::W')).st t=2:=by rw [c0,b];unfold codeA;rw [if_neg (by decide),if_pos rfl,if_pos (List.mem_cons_self ..)]
  have ho:∀ u,u<s.n→(faOf s (t::W')).st u≠3:=λu hu h3'=>by
   have h2:s.st u=2:=by
    have h:codeA (s.st u) (u∈t::W')=3:=h3'
    unfold codeA at h
    repeat' split at h
    all_goals first|assumption|cases h
   have hne:u≠t:=λe=>by rw [e,b] at h2;cases h2
   exact hne (k'.one u t hu ht (by rw [show (s.set t 2 0).st u=s.st u from upd_other _ _ hne];exact h2) (upd_same _ _ _))
  exact run_1 (e:=⟨4,t,now,false⟩) ((tk_4 ht e rfl ho).trans (congrArg some (fa_set (W':=W') (λu hu=>by simp [hu]) rfl)))
 ·obtain rfl:=e
  obtain rfl:=e'
  have hf:=fin_at (s:=s) ht (ev:=1) (y:=2) (by rw [b];rfl)
  rw [hf] at k' ⊢
  have e:(faOf s []).st t=1:=by rw [c0,b];rfl
  have ho:∀ u,u<s.n→(faOf s [t]).st u≠3:=λu hu h3'=>by
   have h2:s.st u=2:=by
    have h:codeA (s.st u) (u∈[t])=3:=h3'
    unfold codeA at h
    repeat' split at h
    all_goals first|assumption|cases h
   have hne:u≠t:=λe=>by rw [e,b] at h2;cases h2
   exact hne (k'.one u t hu ht (by rw [show (s.set t 2 0).st u=s.st u from upd_other _ _ hne];exact h2) (upd_same _ _ _))
  have e2:(faOf s [t]).st t=2:=by show codeA (s.st t) (t∈[t])=2;rw [b];unfold codeA;rw [if_neg (by decide),if_pos rfl,if_pos (by simp)]
  have r1:(faOf s []).run s.n [⟨2,t,now,false⟩]=some (faOf s [t]):=run_1 ((tk_2 ht e).trans (congrArg some (fa_enq (W':=[t]) (λu hu=>by simp [hu]) (by rw [b];unfold codeA;rw [if_neg (by decide),if_pos rfl,if_pos (by simp)]))))
  have r2:(faOf s [t]).run s.n [⟨4,t,now,false⟩]=some (faOf (s.set t 2 0) []):=run_1 ((tk_4 ht e2 rfl ho).trans (congrArg some (fa_set (W':=[]) (λu hu=>by simp [hu]) rfl)))
  exact (FA.run_app r1).trans r2
 ·obtain rfl:=e
  have hf:=fin_at (s:=s) ht (ev:=2) (y:=0) (by rw [b];rfl)
  rw [hf] at k' ⊢
  have e:(faOf s W).st t=1∨(faOf s W).st t=2:=by
   rw [c0,b]
   unfold codeA
   rw [if_neg (by decide),if_pos rfl]
   by_cases hm:t∈W
   ·rw [if_pos hm];exact .inr rfl
   ·rw [if_neg hm];exact .inl rfl
  exact run_1 (e:=⟨5,t,now,false⟩) ((tk_5 ht e).trans (congrArg some (fa_set (W':=W.filter λu=>decide (u≠t)) (λu hu=>by simp [hu]) rfl)))
theorem Kf.did_rng (f:Kf.FL) (L:Kf.Lp) {t:Nat} (ht:t<f.s.n) (hb:f.s.st t=1∨f.s.st t=3):(f.did L t t).arr=false∧(f.did L t t).lead=false∧(f.s.st t=1→(f.did L t t).ev=0∨(f.did L t t).ev=1∨(f.did L t t).ev=2∨(f.did L t t).ev=6)∧(f.s.st t=3→((f.did L t t).ev=0∨(f.did L t t).ev=3)∧(f.did L t t).enq=false):=by
 have e:∀ d,f.did L t t=d→d=if f.s.st t=1 then f.acqD L t t else if f.s.st t=3 then ⟨3,false,false,false⟩ else if f.s.st t=4 then f.askD L t t else Dd.no:=λd hd=>by rw [←hd];unfold Kf.FL.did;rw [if_pos ⟨by omega,by omega⟩,Int.toNat_natCast]
 obtain ⟨d,hd⟩:∃ d,f.did L t t=d:=⟨_,rfl⟩
 have hd2:=e d hd
 rw [hd]
 clear e hd
 rcases hb with b|b
 ·rw [b,if_pos rfl] at hd2
  rw [hd2]
  refine ⟨?_,?_,λ_=> ?_,λh=>by rw [b] at h;cases h⟩
  all_goals
   unfold Kf.FL.acqD
   repeat' split
   all_goals first|rfl|exact .inl rfl|exact .inr (.inl rfl)|exact .inr (.inr (.inl rfl))|exact .inr (.inr (.inr rfl))
 ·rw [b,if_neg (by decide),if_pos rfl] at hd2
  rw [hd2]
  refine ⟨?_,?_,λh=>(by rw [b] at h;cases h),λ_=>⟨?_,?_⟩⟩
  all_goals
   skip
   repeat' split
   all_goals first|rfl|exact .inl rfl|exact .inr rfl
theorem Ks.did_rng (f:Ks.FL) (L:Ks.Lp) {t:Nat} (ht:t<f.s.n) (hb:f.s.st t=1∨f.s.st t=3):(f.did L t t).arr=false∧(f.did L t t).lead=false∧(f.s.st t=1→(f.did L t t).ev=0∨(f.did L t t).ev=1∨(f.did L t t).ev=2∨(f.did L t t).ev=6)∧(f.s.st t=3→((f.did L t t).ev=0∨(f.did L t t).ev=3)∧(f.did L t t).enq=false):=by
 have e:∀ d,f.did L t t=d→d=if f.s.st t=1 then f.acqD L t t else if f.s.st t=3 then ⟨3,false,false,false⟩ else Dd.no:=λd hd=>by rw [←hd];unfold Ks.FL.did;rw [if_pos ⟨by omega,by omega⟩,Int.toNat_natCast]
 obtain ⟨d,hd⟩:∃ d,f.did L t t=d:=⟨_,rfl⟩
 have hd2:=e d hd
 rw [hd]
 clear e hd
 rcases hb with b|b
 ·rw [b,if_pos rfl] at hd2
  rw [hd2]
  refine ⟨?_,?_,λ_=> ?_,λh=>by rw [b] at h;cases h⟩
  all_goals
   unfold Ks.FL.acqD
   repeat' split
   all_goals first|rfl|exact .inl rfl|exact .inr (.inl rfl)|exact .inr (.inr (.inl rfl))|exact .inr (.inr (.inr rfl))
 ·rw [b,if_neg (by decide),if_pos rfl] at hd2
  rw [hd2]
  refine ⟨?_,?_,λh=>(by rw [b] at h;cases h),λ_=>⟨?_,?_⟩⟩
  all_goals
   skip
   repeat' split
   all_goals first|rfl|exact .inl rfl|exact .inr rfl
theorem Kc.did_rng (f:Kc.FL) (L:Kc.Lp) {t:Nat} (ht:t<f.s.n) (hb:f.s.st t=1∨f.s.st t=3):(f.did L t t).arr=false∧(f.did L t t).lead=false∧(f.s.st t=1→(f.did L t t).ev=0∨(f.did L t t).ev=1∨(f.did L t t).ev=2∨(f.did L t t).ev=6)∧(f.s.st t=3→((f.did L t t).ev=0∨(f.did L t t).ev=3)∧(f.did L t t).enq=false):=by
 have e:∀ d,f.did L t t=d→d=if f.s.st t=1 then f.acqD L t t else if f.s.st t=3 then ⟨3,false,false,false⟩ else if f.s.st t=4 then f.askD L t t else Dd.no:=λd hd=>by rw [←hd];unfold Kc.FL.did;rw [if_pos ⟨by omega,by omega⟩,Int.toNat_natCast]
 obtain ⟨d,hd⟩:∃ d,f.did L t t=d:=⟨_,rfl⟩
 have hd2:=e d hd
 rw [hd]
 clear e hd
 rcases hb with b|b
 ·rw [b,if_pos rfl] at hd2
  rw [hd2]
  refine ⟨?_,?_,λ_=> ?_,λh=>by rw [b] at h;cases h⟩
  all_goals
   unfold Kc.FL.acqD
   repeat' split
   all_goals first|rfl|exact .inl rfl|exact .inr (.inl rfl)|exact .inr (.inr (.inl rfl))|exact .inr (.inr (.inr rfl))
 ·rw [b,if_neg (by decide),if_pos rfl] at hd2
  rw [hd2]
  refine ⟨?_,?_,λh=>(by rw [b] at h;cases h),λ_=>⟨?_,?_⟩⟩
  all_goals
   skip
   repeat' split
   all_goals first|rfl|exact .inl rfl|exact .inr rfl
theorem Km.did_rng (f:Km.FL) (L:Km.Lp) {t:Nat} (ht:t<f.s.n) (hb:f.s.st t=1∨f.s.st t=3):(f.did L t t).arr=false∧(f.did L t t).lead=false∧(f.s.st t=1→(f.did L t t).ev=0∨(f.did L t t).ev=1∨(f.did L t t).ev=2∨(f.did L t t).ev=6)∧(f.s.st t=3→((f.did L t t).ev=0∨(f.did L t t).ev=3)∧(f.did L t t).enq=false):=by
 have e:∀ d,f.did L t t=d→d=if f.s.st t=1 then f.acqD L t t else if f.s.st t=3 then f.relD L t t else if f.s.st t=4 then f.askD L t t else Dd.no:=λd hd=>by rw [←hd];unfold Km.FL.did;rw [if_pos ⟨by omega,by omega⟩,Int.toNat_natCast]
 obtain ⟨d,hd⟩:∃ d,f.did L t t=d:=⟨_,rfl⟩
 have hd2:=e d hd
 rw [hd]
 clear e hd
 rcases hb with b|b
 ·rw [b,if_pos rfl] at hd2
  rw [hd2]
  refine ⟨?_,?_,λ_=> ?_,λh=>by rw [b] at h;cases h⟩
  all_goals
   unfold Km.FL.acqD
   repeat' split
   all_goals first|rfl|exact .inl rfl|exact .inr (.inl rfl)|exact .inr (.inr (.inl rfl))|exact .inr (.inr (.inr rfl))|(dsimp only;split<;>simp)
 ·rw [b,if_neg (by decide),if_pos rfl] at hd2
  rw [hd2]
  refine ⟨?_,?_,λh=>(by rw [b] at h;cases h),λ_=>⟨?_,?_⟩⟩
  all_goals
   unfold Km.FL.relD
   repeat' split
   all_goals first|rfl|exact .inl rfl|exact .inr rfl
theorem Ka.did_rng (f:Ka.FL) (L:Ka.Lp) {t:Nat} (ht:t<f.s.n) (x:Int) (hb:f.s.st t=1∨f.s.st t=3):(f.did L t t x).arr=false∧(f.did L t t x).lead=false∧(f.s.st t=1→(f.did L t t x).ev=0∨(f.did L t t x).ev=1∨(f.did L t t x).ev=2∨(f.did L t t x).ev=6)∧(f.s.st t=3→((f.did L t t x).ev=0∨(f.did L t t x).ev=3)∧(f.did L t t x).enq=false):=by
 have e:∀ d,f.did L t t x=d→d=if f.s.st t=1 then f.acqD L t t x else if f.s.st t=3 then f.relD t else Dd.no:=λd hd=>by rw [←hd];unfold Ka.FL.did;rw [if_pos ⟨by omega,by omega⟩,Int.toNat_natCast]
 obtain ⟨d,hd⟩:∃ d,f.did L t t x=d:=⟨_,rfl⟩
 have hd2:=e d hd
 rw [hd]
 clear e hd
 rcases hb with b|b
 ·rw [b,if_pos rfl] at hd2
  rw [hd2]
  refine ⟨?_,?_,λ_=> ?_,λh=>by rw [b] at h;cases h⟩
  all_goals
   unfold Ka.FL.acqD
   repeat' split
   all_goals first|rfl|exact .inl rfl|exact .inr (.inl rfl)|exact .inr (.inr (.inl rfl))|exact .inr (.inr (.inr rfl))
 ·rw [b,if_neg (by decide),if_pos rfl] at hd2
  rw [hd2]
  refine ⟨?_,?_,λh=>(by rw [b] at h;cases h),λ_=>⟨?_,?_⟩⟩
  all_goals
   unfold Ka.FL.relD
   repeat' split
   all_goals first|rfl|exact .inl rfl|exact .inr rfl
theorem Kf.OrdI.qok {f:Kf.FL} {W:List Nat} (h:Kf.OrdI f W):QOk f.s W:=by
 obtain ⟨g,nx,ow,k⟩:=h
 exact ⟨(List.nodup_append.1 k.nodup).2.1,λj hj=>⟨k.lt j (List.mem_append_right _ hj),k.stw j hj⟩,λi j hi hj e1 e2=>Kf.OrdI.one (W:=W) ⟨g,nx,ow,k⟩ hi hj e1 e2⟩
theorem Ks.OrdI.qok {f:Ks.FL} {W:List Nat} (h:Ks.OrdI f W):QOk f.s W:=by
 obtain ⟨g,nx,ow,k⟩:=h
 exact ⟨(List.nodup_append.1 k.nodup).2.1,λj hj=>⟨k.lt j (List.mem_append_right _ hj),k.stw j hj⟩,λi j hi hj e1 e2=>Ks.OrdI.one (W:=W) ⟨g,nx,ow,k⟩ hi hj e1 e2⟩
theorem Kc.OrdI.qok {f:Kc.FL} {W:List Nat} (h:Kc.OrdI f W):QOk f.s W:=by
 obtain ⟨g,e,k⟩:=h
 exact ⟨(List.nodup_append.1 k.nodup).2.1,λj hj=>⟨k.lt j (List.mem_append_right _ hj),k.stw j hj⟩,λi j hi hj e1 e2=>Kc.OrdI.one (W:=W) ⟨g,e,k⟩ hi hj e1 e2⟩
theorem Km.OrdI.qok {f:Km.FL} {W:List Nat} (h:Km.OrdI f W):QOk f.s W:=by
 obtain ⟨g,k⟩:=h
 exact ⟨(List.nodup_append.1 k.cor.nodup).2.1,λj hj=>⟨k.cor.lt j (List.mem_append_right _ hj),k.cor.stw j hj⟩,λi j hi hj e1 e2=>Km.OrdI.one (W:=W) ⟨g,k⟩ hi hj e1 e2⟩
theorem Ka.ro_wait1 {f:Ka.FL} {t i p a:Nat} (h:f.ro t= .wait i p a):f.s.st t=1:=by
 unfold Ka.FL.ro at h
 repeat' split at h
 all_goals first|assumption|cases h
theorem Ka.OrdI.qok {f:Ka.FL} {W:List Nat} (h:Ka.OrdI f W):QOk f.s W:=by
 have h':=h
 obtain ⟨g,Q,k,rfl⟩:=h
 have hn:(Ka.rest g Q).Nodup:=by
  cases g with
  |none=>exact k.cor.nodup
  |some t=>exact List.Nodup.sublist (List.tail_sublist Q) k.cor.nodup
 refine ⟨Ka.wq_nodup (λj hj=>k.cor.waits (j:=j) hj) hn,λj hj=> ?_,λi j hi hj e1 e2=>Ka.OrdI.one h' hi hj e1 e2⟩
 obtain ⟨i,q1,q2,q3⟩:=Ka.wq_mem.1 hj
 obtain ⟨p,a,hw⟩:=k.cor.waits (j:=i) q1 q2
 rw [q3] at hw
 exact ⟨by rw [←q3];exact (k.cor.rng i (Ka.OrdJ.rest_mem q1)).2,Ka.ro_wait1 hw⟩
theorem Kf.sq {W W':List Nat} {t:Nat} {d:Dd} (h:Kf.OrdJ.StepQ W t d W'):SQ W t d W':=by
 cases h with
 |same h0 h1 h2 e=>exact .same h0 h1 h2 e
 |enq hd k ht e=>obtain rfl:t=k:=Int.ofNat.inj ht;exact .enq hd e
 |grant hd k ht e hn=>obtain rfl:t=k:=Int.ofNat.inj ht;exact .grant hd e hn
theorem Ks.sq {W W':List Nat} {t:Nat} {d:Dd} (h:Ks.OrdJ.StepQ W t d W'):SQ W t d W':=by
 cases h with
 |same h0 h1 h2 e=>exact .same h0 h1 h2 e
 |enq hd k ht e=>obtain rfl:t=k:=Int.ofNat.inj ht;exact .enq hd e
 |grant hd k ht e hn=>obtain rfl:t=k:=Int.ofNat.inj ht;exact .grant hd e hn
theorem Kc.sq {W W':List Nat} {t:Nat} {d:Dd} (h:Kc.OrdJ.StepQ W t d W'):SQ W t d W':=by
 cases h with
 |same h0 h1 h2 e=>exact .same h0 h1 h2 e
 |enq hd k ht e=>obtain rfl:t=k:=Int.ofNat.inj ht;exact .enq hd e
 |grant hd k ht e hn=>obtain rfl:t=k:=Int.ofNat.inj ht;exact .grant hd e hn
theorem Km.sq {W W':List Nat} {t:Nat} {d:Dd} (h:Km.OrdJ.StepQ W t d W'):SQ W t d W':=by
 cases h with
 |same h0 h1 h2 e=>exact .same h0 h1 h2 e
 |enq hd k ht e=>obtain rfl:t=k:=Int.ofNat.inj ht;exact .enq hd e
 |grant hd k ht e hn=>obtain rfl:t=k:=Int.ofNat.inj ht;exact .grant hd e hn
 |both hd k ht e e'=>exact .both hd e e'
theorem Ka.sq {W W':List Nat} {t:Nat} {d:Dd} (h:Ka.OrdJ.StepQ W t d W'):SQ W t d W':=by
 cases h with
 |same h0 h1 h2 e=>exact .same h0 h1 h2 e
 |enq hd k ht e=>obtain rfl:t=k:=Int.ofNat.inj ht;exact .enq hd e
 |grant hd k ht e hn=>obtain rfl:t=k:=Int.ofNat.inj ht;exact .grant hd e hn
 |both hd k ht e e'=>exact .both hd e e'
 |gone hd k ht e=>obtain rfl:t=k:=Int.ofNat.inj ht;exact .gone hd e
def Any.Fi (W:List Nat):Any→Prop
 | .tk L f=>L.a1=0∧L.a2=1∧Kf.OrdI f W
 | .sl L f=>L.a1=0∧L.a2=1∧Ks.OrdI f W
 | .cl L f=>L.a1=0∧L.a2=1∧Kc.OrdI f W
 | .mc L f=>L.a1=0∧L.a2=1∧Km.OrdI f W
 | .ab L f=>L.a1=0∧L.a2=1∧Ka.OrdI f W
namespace Any.Fi
variable {a:Any} {W:List Nat}
theorem qok (h:a.Fi W):QOk a.s W:=by
 cases a with
 |tk L f=>exact h.2.2.qok
 |sl L f=>exact h.2.2.qok
 |cl L f=>exact h.2.2.qok
 |mc L f=>exact h.2.2.qok
 |ab L f=>exact h.2.2.qok
theorem lock (h:a.Fi W) (t d:Int):(a.lock t d).Fi W:=by
 cases a with
 |tk L f=>exact ⟨h.1,h.2.1,h.2.2.lock t d⟩
 |sl L f=>exact ⟨h.1,h.2.1,h.2.2.lock t d⟩
 |cl L f=>exact ⟨h.1,h.2.1,h.2.2.lock t d⟩
 |mc L f=>exact ⟨h.1,h.2.1,h.2.2.lock t d⟩
 |ab L f=>exact ⟨h.1,h.2.1,h.2.2.lock t d⟩
theorem unlock (h:a.Fi W) (t:Int):(a.turn t 3).Fi W:=by
 cases a with
 |tk L f=>exact ⟨h.1,h.2.1,h.2.2.unlock t⟩
 |sl L f=>exact ⟨h.1,h.2.1,h.2.2.unlock t⟩
 |cl L f=>exact ⟨h.1,h.2.1,h.2.2.unlock t⟩
 |mc L f=>exact ⟨h.1,h.2.1,h.2.2.unlock t⟩
 |ab L f=>exact ⟨h.1,h.2.1,h.2.2.unlock t⟩
theorem step (h:a.Fi W) {t:Nat} (ht:t<a.s.n) (x:Int) (hb:a.s.st t=1∨a.s.st t=3):∃ W',(a.step t x).Fi W'∧SQ W t (a.did t x) W'∧(a.did t x).arr=false∧(a.did t x).lead=false∧(a.s.st t=1→(a.did t x).ev=0∨(a.did t x).ev=1∨(a.did t x).ev=2∨(a.did t x).ev=6)∧(a.s.st t=3→((a.did t x).ev=0∨(a.did t x).ev=3)∧(a.did t x).enq=false):=by
 cases a with
 |tk L f=>obtain ⟨h1,h2,h⟩:=h;obtain ⟨W',k1,_,k2⟩:=h.step h1 h2 t;exact ⟨W',⟨h1,h2,k1⟩,Kf.sq k2,Kf.did_rng f L ht hb⟩
 |sl L f=>obtain ⟨h1,h2,h⟩:=h;obtain ⟨W',k1,_,k2⟩:=h.step h1 h2 t;exact ⟨W',⟨h1,h2,k1⟩,Ks.sq k2,Ks.did_rng f L ht hb⟩
 |cl L f=>obtain ⟨h1,h2,h⟩:=h;obtain ⟨W',k1,_,k2⟩:=h.step h1 h2 t;exact ⟨W',⟨h1,h2,k1⟩,Kc.sq k2,Kc.did_rng f L ht hb⟩
 |mc L f=>obtain ⟨h1,h2,h⟩:=h;obtain ⟨W',k1,_,k2⟩:=h.step h1 h2 t;exact ⟨W',⟨h1,h2,k1⟩,Km.sq k2,Km.did_rng f L ht hb⟩
 |ab L f=>obtain ⟨h1,h2,h⟩:=h;obtain ⟨W',k1,_,k2⟩:=h.step h1 h2 t x;exact ⟨W',⟨h1,h2,k1⟩,Ka.sq k2,Ka.did_rng f L ht x hb⟩
end Any.Fi
def R4 (s:SS) (t:Nat):Prop:=s.st t=0∨s.st t=1∨s.st t=2∨s.st t=3
def MS.Fi (s:MS):Prop:=(∃ W,s.a.Fi W∧(faOf (newSeat s.a.s.n false false) []).run s.a.s.n s.tr=some (faOf s.a.s W))∧∀ t,R4 s.a.s t
namespace MS.Fi
variable {s:MS}
theorem picked (h:s.Fi) {t:Nat} (ht:t<s.a.s.n) (hb:s.a.s.st t=1∨s.a.s.st t=3):(s.picked t).Fi:=by
 obtain ⟨⟨W,hF,hr⟩,h4⟩:=h
 obtain ⟨W',k1,k2,k3,k4,k5,k6⟩:=hF.step ht s.now hb
 have hs:=s.a.step_s (t:Int) s.now
 have hn:=s.a.step_n (t:Int) s.now
 have hq:=k1.qok
 rw [hs] at hq
 have hf:=fits_step (now:=s.now) ht hb k3 k4 k5 k6 k2 hF.qok hq
 constructor
 ·refine ⟨W',k1,?_⟩
  show (faOf (newSeat (s.a.step t s.now).s.n false false) []).run (s.a.step t s.now).s.n (s.tr++tells t s.now (s.a.did t s.now))=some (faOf (s.a.step t s.now).s W')
  rw [hn,hs]
  exact (FA.run_app hr).trans hf
 ·intro u
  show R4 (s.a.step t s.now).s u
  rw [hs]
  generalize (s.a.did t s.now).ev=ev at*
  cases hbe:behindI (s.a.s.st t) ev with
  |none=>rw [fin_no' hbe];exact h4 u
  |some y=>
   rw [fin_at ht hbe]
   show upd s.a.s.st t y u=0∨upd s.a.s.st t y u=1∨upd s.a.s.st t y u=2∨upd s.a.s.st t y u=3
   have h4:=λu=>(show s.a.s.st u=0∨s.a.s.st u=1∨s.a.s.st u=2∨s.a.s.st u=3 from h4 u)
   by_cases q:u=t
   ·subst q
    rw [upd_same]
    unfold behindI at hbe
    repeat' split at hbe
    all_goals first|(injection hbe with hbe;omega)|cases hbe
   ·rw [upd_other _ _ q];exact h4 u
theorem turned (h:s.Fi) {a':Any} {t c:Nat} {y d':Int} {k:Int} (ht:t<s.a.s.n) (hs:a'.s=s.a.s.set t y d') (hf:∀ W,s.a.Fi W→a'.Fi W) (hy:y=1∨y=3)
  (hc:∀ W,(∀ j,j∈W→s.a.s.st j=1)→(faOf s.a.s W).take s.a.s.n ⟨k,t,s.now,false⟩=some ⟨upd (faOf s.a.s W).st t c,W⟩∧codeA y (t∈W)=c):((s.put a').more [⟨k,t,s.now,false⟩]).Fi:=by
 obtain ⟨⟨W,hF,hr⟩,h4⟩:=h
 have hn:a'.s.n=s.a.s.n:=by rw [hs];rfl
 obtain ⟨c1,c2⟩:=hc W λj hj=>(hF.qok.st j hj).2
 constructor
 ·refine ⟨W,hf W hF,?_⟩
  show (faOf (newSeat a'.s.n false false) []).run a'.s.n (s.tr++[⟨k,t,s.now,false⟩])=some (faOf a'.s W)
  rw [hn]
  refine (FA.run_app hr).trans (run_1 (c1.trans (congrArg some ?_)))
  have e:=fa_set (s:=s.a.s) (W:=W) (W':=W) (t:=t) (c:=c) (y:=y) (λ_ _=>Iff.rfl) c2
  rw [e]
  refine FA.ext (λu=> ?_) rfl
  show codeA ((s.a.s.set t y 0).st u) (u∈W)=codeA (a'.s.st u) (u∈W)
  rw [hs]
  rfl
 ·intro u
  show R4 a'.s u
  rw [hs]
  show upd s.a.s.st t y u=0∨upd s.a.s.st t y u=1∨upd s.a.s.st t y u=2∨upd s.a.s.st t y u=3
  by_cases q:u=t
  ·subst q;rw [upd_same];omega
  ·rw [upd_other _ _ q];exact h4 u
theorem left (h:s.Fi) {a':Any} (hs:a'.s=s.a.s) (hf:∀ W,s.a.Fi W→a'.Fi W):(s.put a').Fi:=by
 obtain ⟨⟨W,hF,hr⟩,h4⟩:=h
 constructor
 ·refine ⟨W,hf W hF,?_⟩
  show (faOf (newSeat a'.s.n false false) []).run a'.s.n s.tr=some (faOf a'.s W)
  rw [hs]
  exact hr
 ·intro u
  show R4 a'.s u
  rw [hs]
  exact h4 u
end MS.Fi
theorem Any.lock_s (a:Any) (t d:Int):(a.lock t d).s=a.s.lock t d:=by cases a<;>rfl
theorem Any.turn_s (a:Any) (t x:Int):(a.turn t x).s=a.s.turn t x:=by cases a<;>rfl
theorem lockE_at {s:SS} {t d:Int} (h:lockE s t d=0):∃ k:Nat,t=k∧k<s.n∧s.st k=0:=by
 unfold lockE at h
 split at h
 ·next hp=>
  obtain ⟨k,rfl⟩:=Int.eq_ofNat_of_zero_le hp.1.1
  rw [Int.toNat_natCast] at h
  split at h
  ·next hq=>exact ⟨k,rfl,by omega,hq⟩
  ·cases h
 ·cases h
theorem turnE_at {s:SS} {t:Int} (h:turnE s t=0):∃ k:Nat,t=k∧k<s.n∧s.st k=2:=by
 unfold turnE at h
 split at h
 ·next hp=>
  obtain ⟨k,rfl⟩:=Int.eq_ofNat_of_zero_le hp.1
  rw [Int.toNat_natCast] at h
  repeat' split at h
  all_goals first|exact ⟨k,rfl,by omega,by assumption⟩|cases h
 ·cases h
theorem MS.Fi.does {s:MS} (h:s.Fi) (k t x:Int):(s.does k t x).Fi:=by
 unfold MS.does
 split
 ·unfold MS.pick
  split
  ·next hb=>
   unfold MS.busy SS.stI at hb
   split at hb
   ·next ht=>
    obtain ⟨i,rfl⟩:=Int.eq_ofNat_of_zero_le ht.1
    rw [Int.toNat_natCast] at hb
    exact h.picked (by omega) hb
   ·omega
  ·exact h
 split
 ·unfold MS.tick
  split
  ·exact h
  ·exact h
 split
 ·unfold MS.call
  split
  ·next he=>
   obtain ⟨i,rfl,hi,h0⟩:=lockE_at he
   refine h.turned (t:=i) (c:=1) (y:=1) (d':=s.dead x) hi (by rw [Any.lock_s];unfold SS.lock;rw [if_pos he,Int.toNat_natCast]) (λW hF=>hF.lock _ _) (.inl rfl) λW hW=> ?_
   have hm:i∉W:=λhm=>by have h:=hW i hm;rw [h0] at h;cases h
   exact ⟨tk_1 hi (by show codeA (s.a.s.st i) (i∈W)=0;rw [h0];rfl),by unfold codeA;rw [if_neg (by decide),if_pos rfl,if_neg hm]⟩
  ·next he=>exact h.left (by rw [Any.lock_s];unfold SS.lock;rw [if_neg he]) λW hF=>hF.lock _ _
 split
 ·unfold MS.fin
  split
  ·next he=>
   obtain ⟨i,rfl,hi,h2⟩:=turnE_at he
   refine h.turned (t:=i) (c:=4) (y:=3) (d':=s.a.s.dl i) hi (by rw [Any.turn_s];unfold SS.turn;rw [if_pos he,Int.toNat_natCast]) (λW hF=>hF.unlock _) (.inr rfl) λW hW=> ?_
   exact ⟨tk_6 hi (by show codeA (s.a.s.st i) (i∈W)=3;rw [h2];rfl),rfl⟩
  ·next he=>exact h.left (by rw [Any.turn_s];unfold SS.turn;rw [if_neg he]) λW hF=>hF.unlock _
 ·exact h
theorem MS.Fi.Do {s:MS} (h:s.Fi) (k t x:Int):(s.Do k t x).Fi:=by
 unfold MS.Do
 split
 ·exact h.does k t x
 ·exact h.does k t x
theorem MS.Fi.runs {s:MS} (h:s.Fi) (z:Nat→Nat→Int):∀ n,(s.runs z n).Fi
 |0=>h
 |n+1=>(MS.Fi.runs h z n).Do _ _ _
theorem newM_fi {a:Any} (h:a.Fi []) (h0:∃ x y,a.s=newSeat a.s.n x y):(newM a).Fi:=by
 obtain ⟨x,y,hs⟩:=h0
 constructor
 ·refine ⟨[],h,?_⟩
  show some (faOf (newSeat a.s.n false false) [])=some (faOf a.s [])
  rw [hs]
  rfl
 ·intro t
  show R4 a.s t
  rw [hs]
  exact .inl rfl
theorem NewA.fi {n:Nat} {zs:List Int} {v sz pl B G D:Int} {a:Any} (h:NewA n zs v sz pl B G D a) (n8:n≤8) (hv:0≤v∧v<4294967296):a.Fi []:=by
 have n64:n≤64:=by omega
 cases a with
 |tk L f=>obtain ⟨rfl,h1,h2,_⟩:=h;exact ⟨h1,h2,_,_,_,Kf.ord_new n n v n64 rfl hv⟩
 |sl L f=>obtain ⟨m,z,_,siz,hm,hz,rfl,h1,h2,_⟩:=h;exact ⟨h1,h2,_,_,_,Ks.ord_new n m z v n8 hm siz hv hz⟩
 |cl L f=>obtain ⟨rfl,h1,h2,_⟩:=h;exact ⟨h1,h2,_,_,Kc.ord_new n n64⟩
 |mc L f=>obtain ⟨rfl,h1,h2,_⟩:=h;exact ⟨h1,h2,_,Km.ord_new n n64⟩
 |ab L f=>obtain ⟨ea,_,e1,e2,rfl,h1,h2,_⟩:=h;exact ⟨h1,h2,_,_,Ka.ord_new n ea n8 e1 e2,rfl⟩
theorem fa_first (n:Nat):faOf (newSeat n false false) []=FA.new:=FA.ext (λ_=>rfl) rfl
theorem fi_all {n:Nat} {zs:List Int} {v sz pl B G D:Int} {a:Any} (h:NewA n zs v sz pl B G D a) (n8:n≤8) (hv:0≤v∧v<4294967296) (z:Nat→Nat→Int) (k:Nat):
  ((newM a).runs z k).a.s.n=n∧FA.new.chk n ((newM a).runs z k).tr=((newM a).runs z k).tr.length:=by
 obtain ⟨⟨x,y,hs⟩,_,_⟩:=h.zero
 have hn:a.s.n=n:=by rw [hs];rfl
 have hr:((newM a).runs z k).a.s.n=n:=(MS.runs_n _ _ _).trans hn
 have hF:=MS.Fi.runs (newM_fi (h.fi n8 hv) ⟨x,y,by rw [hn];exact hs⟩) z k
 obtain ⟨⟨W,_,h1⟩,_⟩:=hF
 rw [fa_first,hr] at h1
 exact ⟨hr,FA.chk_all h1⟩
theorem held_nat {n:Nat} (h:n≤8):Fi.held (n:Int)=n:=by unfold Fi.held;omega
end Go.Proofs.YtmnephejhkfchaaGreat

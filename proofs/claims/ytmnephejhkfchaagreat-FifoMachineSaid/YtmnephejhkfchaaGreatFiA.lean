import Derived.Test.YtmnephejhkfchaaGreatMaDo
namespace Go.Proofs.YtmnephejhkfchaaGreat
open Go.RowKit Go.BigFrame
set_option linter.unusedVariables false
set_option maxRecDepth 100000
structure FA where
 st:Nat→Nat
 q:List Nat
def FA.take (n:Nat) (x:FA) (e:Ent):Option FA:=
 if e.lead=true∨¬ (0≤e.t∧e.t<n) then none
 else if e.k=1 then (if x.st e.t.toNat=0 then some ⟨upd x.st e.t.toNat 1,x.q⟩ else none)
 else if e.k=2 then (if x.st e.t.toNat=1 then some ⟨upd x.st e.t.toNat 2,x.q++[e.t.toNat]⟩ else none)
 else if e.k=4 then (if x.st e.t.toNat=2∧x.q.head? =some e.t.toNat∧∀ u,u<n→x.st u≠3 then some ⟨upd x.st e.t.toNat 3,x.q.tail⟩ else none)
 else if e.k=5 then (if x.st e.t.toNat=1∨x.st e.t.toNat=2 then some ⟨upd x.st e.t.toNat 0,x.q.filter λu=>decide (u≠e.t.toNat)⟩ else none)
 else if e.k=6 then (if x.st e.t.toNat=3 then some ⟨upd x.st e.t.toNat 4,x.q⟩ else none)
 else if e.k=7 then (if x.st e.t.toNat=4 then some ⟨upd x.st e.t.toNat 0,x.q⟩ else none)
 else if e.k=8 then (if x.st e.t.toNat=1 then some ⟨upd x.st e.t.toNat 0,x.q⟩ else none)
 else none
def FA.run (n:Nat):FA→List Ent→Option FA
 |x,[]=>some x
 |x,e::l=>match x.take n e with
  |some y=>FA.run n y l
  |none=>none
theorem FA.run_app {n:Nat} {x y:FA} {l r:List Ent} (h:x.run n l=some y):x.run n (l++r)=y.run n r:=by
 induction l generalizing x with
 |nil=>cases h;rfl
 |cons e l ih=>
  show (match x.take n e with|some y=>FA.run n y (l++r)|none=>none)=_
  have h':(match x.take n e with|some y=>FA.run n y l|none=>none)=some y:=h
  cases hz:x.take n e with
  |none=>rw [hz] at h';cases h'
  |some z=>rw [hz] at h';exact ih h'
def FA.chk (n:Nat):FA→List Ent→Nat
 |_,[]=>0
 |x,e::l=>match x.take n e with
  |some y=>FA.chk n y l+1
  |none=>0
namespace FA
variable {n:Nat} {x y z:FA} {l:List Ent} {e:Ent}
theorem chk_some (h:x.take n e=some y):x.chk n (e::l)=y.chk n l+1:=by rw [chk,h]
theorem chk_none (h:x.take n e=none):x.chk n (e::l)=0:=by rw [chk,h]
theorem run_some (h:x.take n e=some y):x.run n (e::l)=y.run n l:=by rw [run,h]
theorem run_none (h:x.take n e=none):x.run n (e::l)=none:=by rw [run,h]
theorem chk_at {i:Nat}:∀ {l:List Ent} {x:FA},x.run n (l.take i)=some y→l[i]? =some e→y.take n e=none→x.chk n l=i:=by
 induction i with
 |zero=>
  intro l x h he hn
  cases l with
  |nil=>cases he
  |cons e' l=>cases he;cases h;exact chk_none hn
 |succ i ih=>
  intro l x h he hn
  cases l with
  |nil=>cases he
  |cons e' l=>
   rw [List.take_succ_cons] at h
   cases hz:x.take n e' with
   |none=>rw [run_none hz] at h;cases h
   |some z=>rw [run_some hz] at h;rw [chk_some hz,ih h he hn]
theorem chk_all (h:x.run n l=some y):x.chk n l=l.length:=by
 induction l generalizing x with
 |nil=>rfl
 |cons e l ih=>
  cases hz:x.take n e with
  |none=>rw [run_none hz] at h;cases h
  |some z=>rw [run_some hz] at h;rw [chk_some hz,ih h];rfl
theorem run_step {i:Nat} (h:x.run n (l.take i)=some y) (he:l[i]? =some e) (hz:y.take n e=some z):x.run n (l.take (i+1))=some z:=by
 have ht:l.take (i+1)=l.take i++[e]:=by rw [List.take_add_one,he];rfl
 rw [ht,run_app h,run_some hz]
 rfl
structure Ok (n:Nat) (x:FA):Prop where
 nd:x.q.Nodup
 q:∀ t,t∈x.q→t<n∧x.st t=2
 st:∀ t,x.st t≤4
 out:∀ t,n≤t→x.st t=0
def new:FA:=⟨λ_=>0,[]⟩
theorem new_ok:new.Ok n:=⟨List.nodup_nil,λt h=>(by cases h),λ_=>Nat.zero_le _,λ_ _=>rfl⟩
theorem Ok.few (h:x.Ok n):x.q.length≤n:=by
 have h1:=h.nd
 have h2:∀ t,t∈x.q→t∈List.range n:=λt ht=>List.mem_range.2 (h.q t ht).1
 have:=h1.length_le_of_subset h2
 rwa [List.length_range] at this
def nx (k:Int):Nat:=if k=1 then 1 else if k=2 then 2 else if k=4 then 3 else if k=6 then 4 else 0
def goOn (x:FA) (t c:Nat):FA:=⟨upd x.st t c,(x.q.filter λu=>decide (u≠t))++if c=2 then [t] else []⟩
theorem filt_no {l:List Nat} {t:Nat} (h:t∉l):(l.filter λu=>decide (u≠t))=l:=List.filter_eq_self.2 λu hu=>decide_eq_true λe=>h (e▸hu)
theorem filt_head {l:List Nat} {t:Nat} (hn:l.Nodup) (h:l.head? =some t):(l.filter λu=>decide (u≠t))=l.tail:=by
 cases l with
 |nil=>cases h
 |cons a l=>
  cases h
  rw [List.filter_cons_of_neg (by simp)]
  exact filt_no (List.nodup_cons.1 hn).1
def fits (n:Nat) (x:FA) (e:Ent):Prop:=¬ (e.lead=true∨¬ (0≤e.t∧e.t<n))∧
 ((e.k=1∧x.st e.t.toNat=0)∨(e.k=2∧x.st e.t.toNat=1)∨(e.k=4∧x.q.head? =some e.t.toNat∧∀ u,u<n→x.st u≠3)∨(e.k=5∧(x.st e.t.toNat=1∨x.st e.t.toNat=2))∨
   (e.k=6∧x.st e.t.toNat=3)∨(e.k=7∧x.st e.t.toNat=4)∨(e.k=8∧x.st e.t.toNat=1))
theorem take_fits (h:x.Ok n) (hf:x.fits n e):x.take n e=some (x.goOn e.t.toNat (nx e.k)):=by
 obtain ⟨h0,hf⟩:=hf
 have hno:x.st e.t.toNat≠2→(x.q.filter λu=>decide (u≠e.t.toNat))=x.q:=λh2=>filt_no λhm=>h2 (h.q _ hm).2
 unfold take goOn nx
 rw [if_neg h0]
 rcases hf with ⟨k,c⟩|⟨k,c⟩|⟨k,c,c'⟩|⟨k,c⟩|⟨k,c⟩|⟨k,c⟩|⟨k,c⟩
 ·rw [if_pos k,if_pos c,if_pos k,hno (by omega),if_neg (by decide),List.append_nil]
 ·rw [if_neg (by omega),if_pos k,if_pos c,if_neg (by omega),if_pos k,hno (by omega),if_pos rfl]
 ·rw [if_neg (by omega),if_neg (by omega),if_pos k,if_pos ⟨(h.q _ (List.mem_of_mem_head? c)).2,c,c'⟩,if_neg (by omega),if_neg (by omega),if_pos k,filt_head h.nd c,if_neg (by decide),List.append_nil]
 ·rw [if_neg (by omega),if_neg (by omega),if_neg (by omega),if_pos k,if_pos c,if_neg (by omega),if_neg (by omega),if_neg (by omega),if_neg (by omega),if_neg (by decide),List.append_nil]
 ·rw [if_neg (by omega),if_neg (by omega),if_neg (by omega),if_neg (by omega),if_pos k,if_pos c,if_neg (by omega),if_neg (by omega),if_neg (by omega),if_pos k,hno (by omega),if_neg (by decide),List.append_nil]
 ·rw [if_neg (by omega),if_neg (by omega),if_neg (by omega),if_neg (by omega),if_neg (by omega),if_pos k,if_pos c,if_neg (by omega),if_neg (by omega),if_neg (by omega),if_neg (by omega),hno (by omega),if_neg (by decide),List.append_nil]
 ·rw [if_neg (by omega),if_neg (by omega),if_neg (by omega),if_neg (by omega),if_neg (by omega),if_neg (by omega),if_pos k,if_pos c,if_neg (by omega),if_neg (by omega),if_neg (by omega),if_neg (by omega),hno (by omega),if_neg (by decide),List.append_nil]
theorem take_not (hf:¬ x.fits n e):x.take n e=none:=by
 cases h:x.take n e with
 |none=>rfl
 |some y=>
  refine absurd ?_ hf
  unfold take at h
  split at h
  ·cases h
  next h0=>
  refine ⟨h0,?_⟩
  split at h
  next k=>split at h;exact .inl ⟨k,by assumption⟩;cases h
  split at h
  next k=>split at h;exact .inr (.inl ⟨k,by assumption⟩);cases h
  split at h
  next k=>
   split at h
   next c=>exact .inr (.inr (.inl ⟨k,c.2⟩))
   cases h
  split at h
  next k=>split at h;exact .inr (.inr (.inr (.inl ⟨k,by assumption⟩)));cases h
  split at h
  next k=>split at h;exact .inr (.inr (.inr (.inr (.inl ⟨k,by assumption⟩))));cases h
  split at h
  next k=>split at h;exact .inr (.inr (.inr (.inr (.inr (.inl ⟨k,by assumption⟩)))));cases h
  split at h
  next k=>split at h;exact .inr (.inr (.inr (.inr (.inr (.inr ⟨k,by assumption⟩)))));cases h
  cases h
theorem goOn_ok (h:x.Ok n) {t c:Nat} (ht:t<n) (hc:c≤4):(x.goOn t c).Ok n:=by
 have hm:∀ u,u∈(x.goOn t c).q↔(u∈x.q∧u≠t)∨(c=2∧u=t):=λu=>by
  show u∈(x.q.filter λu=>decide (u≠t))++(if c=2 then [t] else [])↔_
  rw [List.mem_append,List.mem_filter]
  by_cases h2:c=2
  ·rw [if_pos h2];simp [h2]
  ·rw [if_neg h2];simp [h2]
 refine ⟨?_,λu hu=> ?_,λu=> ?_,λu hu=> ?_⟩
 ·show ((x.q.filter λu=>decide (u≠t))++if c=2 then [t] else []).Nodup
  have h1:(x.q.filter λu=>decide (u≠t)).Nodup:=h.nd.sublist List.filter_sublist
  by_cases h2:c=2
  ·rw [if_pos h2,List.nodup_append]
   refine ⟨h1,by simp,λa ha b hb=> ?_⟩
   rw [List.mem_filter] at ha
   rw [List.mem_singleton] at hb
   subst hb
   simpa using ha.2
  ·rw [if_neg h2,List.append_nil];exact h1
 ·show u<n∧upd x.st t c u=2
  rcases (hm u).1 hu with ⟨a,b⟩|⟨a,b⟩
  ·rw [upd_other _ _ b];exact h.q u a
  ·subst b;rw [upd_same];exact ⟨ht,a⟩
 ·show upd x.st t c u≤4
  by_cases e:u=t
  ·subst e;rw [upd_same];exact hc
  ·rw [upd_other _ _ e];exact h.st u
 ·show upd x.st t c u=0
  rw [upd_other _ _ (by omega)];exact h.out u hu
theorem nx_le (k:Int):nx k≤4:=by
 unfold nx
 repeat' split
 all_goals omega
end FA
end Go.Proofs.YtmnephejhkfchaaGreat

import Derived.Test.YtcikfcplagelaaaGreatMaNew
namespace Go.Proofs.YtcikfcplagelaaaGreat
open Go.RowKit Go.BigFrame
set_option linter.unusedVariables false
set_option maxRecDepth 100000
theorem chk_k {kd:Int} {n:Nat} {zs:List Int} {sz pl B G D:Int} (h:chk kd n zs sz pl B G D=0):homesOK zs=true∧1≤n∧n≤64:=by
 unfold chk at h
 split at h
 ·cases h
 ·split at h
  ·cases h
  ·next hx=>
   refine ⟨?_,by omega,by omega⟩
   cases e:homesOK zs with
   |false=>exact absurd (.inl e) hx
   |true=>rfl
theorem ev_of {w:World} {s1:Option Addr} {len1:Nat} {z1:Nat→Nat→Int} (r1:Structs w [.i64,.i64,.i64] s1 len1 z1):EvAt w s1 len1 z1:=by
 rcases r1.at (by decide) with e|⟨b2,o2,rfl,hc2⟩
 ·exact .inl e
 ·exact .inr ⟨b2,o2,rfl,λi hi j hj=>(hc2 i hi j .i64 (by match j,hj with|0,_=>rfl|1,_=>rfl|2,_=>rfl)).1⟩
theorem EvAt.old {w w':World} {so:Option Addr} {n:Nat} {z:Nat→Nat→Int} (h:EvAt w so n z) (k:Wr Nil w w'):EvAt w' so n z:=by
 rcases h with e|⟨b,o,e,hc⟩
 ·exact .inl e
 ·exact .inr ⟨b,o,e,λi hi j hj=>k.old (hc i hi j hj)⟩
theorem do_clk (s:MS) (h:s.now<1099511627776) (K t N:Int):
  (s.Do K t N).now=(if K=2 then s.now+1 else s.now)∧∃ l,(s.Do K t N).tr=s.tr++l∧∀ e∈l,e.now=(s.Do K t N).now:=by
 have hd:(s.Do K t N).now=(s.does K t N).now∧(s.Do K t N).tr=(s.does K t N).tr:=by unfold MS.Do;split<;>exact ⟨rfl,rfl⟩
 rw [hd.1,hd.2]
 clear hd
 have tl:∀ d:Dd,∀ e∈tells t s.now d,e.now=s.now:=λd e he=>by
  unfold tells tellsE tellsA tellsV at he
  simp only [List.mem_append] at he
  rcases he with (he|he)|he
  all_goals
   repeat' split at he
   all_goals first|(obtain rfl:=List.mem_singleton.1 he;rfl)|cases he
 unfold MS.does
 by_cases k1:K=1
 ·subst k1
  rw [if_pos rfl,if_neg (by decide)]
  unfold MS.pick
  split
  ·exact ⟨rfl,_,rfl,λe he=>tl _ e he⟩
  ·exact ⟨rfl,[],(List.append_nil _).symm,λe he=>by cases he⟩
 rw [if_neg k1]
 by_cases k2:K=2
 ·subst k2
  rw [if_pos rfl,if_pos rfl]
  unfold MS.tick
  rw [if_neg (by omega)]
  exact ⟨rfl,[],(List.append_nil _).symm,λe he=>by cases he⟩
 rw [if_neg k2,if_neg k2]
 by_cases k3:K=3
 ·subst k3
  rw [if_pos rfl]
  unfold MS.call
  split
  ·exact ⟨rfl,_,rfl,λe he=>by obtain rfl:=List.mem_singleton.1 he;rfl⟩
  ·exact ⟨rfl,[],(List.append_nil _).symm,λe he=>by cases he⟩
 rw [if_neg k3]
 by_cases k4:K=4
 ·subst k4
  rw [if_pos rfl]
  unfold MS.fin
  split
  ·exact ⟨rfl,_,rfl,λe he=>by obtain rfl:=List.mem_singleton.1 he;rfl⟩
  ·exact ⟨rfl,[],(List.append_nil _).symm,λe he=>by cases he⟩
 rw [if_neg k4]
 exact ⟨rfl,[],(List.append_nil _).symm,λe he=>by cases he⟩
theorem do_idle (s:MS) {K t N:Int} (h:s.ok K t N=false):(s.Do K t N).now=s.now∧(s.Do K t N).tr=s.tr∧(s.Do K t N).a.ps=s.a.ps:=by
 have hd:(s.Do K t N).now=(s.does K t N).now∧(s.Do K t N).tr=(s.does K t N).tr∧(s.Do K t N).a=(s.does K t N).a:=by unfold MS.Do;split<;>exact ⟨rfl,rfl,rfl⟩
 rw [hd.1,hd.2.1,hd.2.2]
 clear hd
 unfold MS.ok at h
 unfold MS.does
 by_cases k1:K=1
 ·rw [if_pos k1] at h ⊢
  unfold MS.pick
  rw [if_neg (of_decide_eq_false h)]
  exact ⟨rfl,rfl,rfl⟩
 rw [if_neg k1] at h ⊢
 by_cases k2:K=2
 ·rw [if_pos k2] at h ⊢
  unfold MS.tick
  rw [if_pos (Decidable.not_not.1 (of_decide_eq_false h))]
  exact ⟨rfl,rfl,rfl⟩
 rw [if_neg k2] at h ⊢
 by_cases k3:K=3
 ·rw [if_pos k3] at h ⊢
  unfold MS.call
  rw [if_neg (of_decide_eq_false h)]
  exact ⟨rfl,rfl,s.a.lock_ps _ _⟩
 rw [if_neg k3] at h ⊢
 by_cases k4:K=4
 ·rw [if_pos k4] at h ⊢
  unfold MS.fin
  rw [if_neg (of_decide_eq_false h)]
  exact ⟨rfl,rfl,s.a.turn_ps _ _⟩
 rw [if_neg k4]
 exact ⟨rfl,rfl,rfl⟩
theorem ok_end (s:MS) {t N:Int} (h:s.ok 4 t N=true):s.a.s.stI t=2:=by
 have h4:turnE s.a.s t=0:=of_decide_eq_true h
 unfold turnE at h4
 unfold SS.stI
 split at h4
 ·next ht=>
  rw [if_pos ht]
  split at h4
  ·cases h4
  ·split at h4
   ·assumption
   ·cases h4
 ·cases h4
end Go.Proofs.YtcikfcplagelaaaGreat

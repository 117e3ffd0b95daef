import Derived.Test.YtmnephejhkfchaaGreatFiA
namespace Go.Proofs.YtmnephejhkfchaaGreat.Fi
set_option maxHeartbeats 8000000
open _root_.Go.Proofs.Tryz
open Go.RowKit Go.BigFrame
set_option linter.unusedVariables false
set_option maxRecDepth 100000
theorem info:(prog.info? 3).map (λi=>(i.zero,i.size,i.bytes))=some (some (.int .i64 0),1,8):=by kernel_rfl
theorem zv:∀ w,(zeroValue 3).run prog w= .ok (.int .i64 0) w:=λ_=>by kernel_rfl
def nv (x:Nat):Value:= .int .i64 (x:Int)
def idxI (is:Nat→Bool) (l:List Nat):Int:=match l.findIdx? is with
 |some i=>i
 |none=> -1
def NoneIs (is:Nat→Bool) (l:List Nat) (k:Nat):Prop:=∀ (j y:Nat),j<k→l[j]? =some y→is y=false
theorem idx_hit {is:Nat→Bool} {l:List Nat} {k x:Nat} (hx:l[k]? =some x) (hp:is x=true) (h:NoneIs is l k):idxI is l=k:=by
 have hk:=(List.getElem?_eq_some_iff.1 hx).1
 have e:l.findIdx? is=some k:=by
  rw [List.findIdx?_eq_some_iff_getElem]
  refine ⟨hk,?_,λj hj=> ?_⟩
  ·have:=(List.getElem?_eq_some_iff.1 hx).2
   rw [this];exact hp
  ·rw [h j _ hj (List.getElem?_eq_getElem (by omega))];decide
 unfold idxI
 rw [e]
theorem idx_miss {is:Nat→Bool} {l:List Nat} (h:NoneIs is l l.length):idxI is l= -1:=by
 have e:l.findIdx? is=none:=by
  rw [List.findIdx?_eq_none_iff]
  intro x hx
  obtain ⟨j,hj⟩:=List.getElem?_of_mem hx
  exact h j x (List.getElem?_eq_some_iff.1 hj).1 hj
 unfold idxI
 rw [e]
theorem idx_no {l:List Nat} {t:Nat} (h:t∉l):idxI (λx=>decide (x=t)) l= -1:=idx_miss λj y _ hy=>decide_eq_false λe=>h (e▸List.mem_of_getElem? hy)
theorem idx_at {l:List Nat} {t i:Nat} (hd:l.Nodup) (h:l[i]? =some t):idxI (λx=>decide (x=t)) l=i:=idx_hit h (decide_eq_true rfl) λj y hj hy=>decide_eq_false λe=>by
 subst e
 have:=(List.getElem?_inj (List.getElem?_eq_some_iff.1 hy).1 hd).1 (hy.trans h.symm)
 omega
theorem row_cell {w:World} {base:Nat} {e:TypeId} {so:Option Addr} {n cap:Nat} {l:List Nat} (h:w.ownsRow base e 1 (.slice so n cap) n (l.map nv)):n=0∨∃ g,so=some ⟨g,0,none⟩∧∀ (k x:Nat),l[k]? =some x→w.cell? ⟨g,k,none⟩=some (.int .i64 (x:Int)):=by
 rcases Nat.eq_zero_or_pos n with h0|h0
 ·exact .inl h0
 ·obtain ⟨g,hg,_,_⟩:=ownsRow_cell h h0
  refine .inr ⟨g,hg,λk x hx=> ?_⟩
  have hl:l.length=n:=by have:=h.1;simpa using this
  have hk:k<n:=by rw [←hl];exact (List.getElem?_eq_some_iff.1 hx).1
  obtain ⟨g',hg',hc,_⟩:=ownsRow_cell h hk
  rw [hg] at hg'
  obtain rfl:g=g':=by simpa using hg'
  rw [hc,List.getElem?_map,hx]
  rfl
theorem fi_index {w:World} {base:Nat} {v:Value} {l:List Nat} (h:w.ownsRow base 3 1 v l.length (l.map nv)) (hL:l.length≤1000000) (is:Nat→Bool) (g:Nat) (lb:Array Value) (eg:∀ args w,(callFunc g args).run prog w= .ok (.enter g args) w)
  (hp:∀ x:Nat,x∈l→Calls prog g (#[.int .i64 (x:Int)]++lb) w λe w'=>e= .returned (.bool (is x))∧w=w'):
  Calls prog 66 #[v,.func (.func g) #[] lb] w λe w'=>e= .returned (.int .i64 (idxI is l))∧w=w':=by
 obtain ⟨so,cap,rfl,_⟩:=own_slice h
 have hcell:=row_cell h
 have hp':=Lib.hid hp
 obtain ⟨n,hn⟩:∃ n,n=l.length:=⟨_,rfl⟩
 have HN:=Lib.hid hn
 rw [←hn] at hcell hL ⊢
 clear h hp hn
 go_enter func66,ntmps66
 go_wp2
 go_loop [5,8] (λ_ i=>∃ k:Nat,k≤n∧i= .int .i64 k∧NoneIs is l k) (λ_ i=>n-(intOf i).toNat)
 case atStart=>exact ⟨0,Nat.zero_le _,rfl,λj y hj=>by omega⟩
 case round=>
  obtain ⟨k,hk,rfl,hf⟩:=hrel
  by_cases hlt:k<n
  ·rcases hcell with h0|⟨gb,rfl,hcell⟩
   ·omega
   have hkl:k<l.length:=by rw [←HN.out];exact hlt
   obtain ⟨x,hx⟩:∃ x,l[k]? =some x:=⟨_,List.getElem?_eq_getElem hkl⟩
   have c0:=hcell k x hx
   have cx:=hp'.out x (List.mem_of_getElem? hx)
   have HX:=Lib.hid hx
   clear hcell hx hkl
   cases hb:is x
   ·rw [hb] at cx
    have HB:=Lib.hid hb
    clear hb
    go_wp2_with fail
    refine cx.mono ?_
    rintro e w' ⟨rfl,rfl⟩
    clear cx
    go_wp2
    go_round
    case rel=>
     refine ⟨k+1,by omega,by go_num,λj y hj hy=> ?_⟩
     by_cases e:j=k
     ·subst e
      rw [HX.out] at hy
      obtain rfl:x=y:=by simpa using hy
      exact HB.out
     ·exact hf j y (by omega) hy
    case measure=>simp [intOf];omega
   ·rw [hb] at cx
    have HB:=Lib.hid hb
    clear hb
    go_wp2_with fail
    refine cx.mono ?_
    rintro e w' ⟨rfl,rfl⟩
    clear cx
    go_wp2
    go_ret
    rw [idx_hit HX.out HB.out hf]
    exact ⟨rfl,rfl⟩
  ·obtain rfl:k=n:=by omega
   have HF:=Lib.hid hf
   clear hf
   go_wp2
   go_ret
   rw [idx_miss (by rw [←HN.out];exact HF.out)]
   exact ⟨rfl,rfl⟩
theorem fi_is {w:World} {B:Nat} {t:Nat} (h:w.cell? ⟨B,0,none⟩=some (.int .i64 (t:Int))) (x:Nat):
  Calls prog 47 #[.int .i64 (x:Int),.pointer (some ⟨B,0,none⟩)] w λe w'=>e= .returned (.bool (decide (x=t)))∧w=w':=by
 have e:decide (x=t)=((x:Int)==(t:Int)):=by
  rw [Bool.eq_iff_iff,decide_eq_true_eq,beq_iff_eq];omega
 rw [e]
 clear e
 go_enter func47,ntmps47
 go_wp2
 go_ret
 exact ⟨rfl,rfl⟩
def DelPost (base:Nat) (w:World) (v:Value) (l:List Nat) (e:Ending) (w':World):Prop:=
 ∃ v',e= .returned v'∧w'.ownsRow base 3 1 v' l.length (l.map nv)∧v'.ownBlock=v.ownBlock∧Wr (λk=>v.ownBlock=some k) w w'
theorem filt_erase:∀ {l:List Nat} {i t:Nat},l.Nodup→l[i]? =some t→(l.filter λu=>decide (u≠t))=l.eraseIdx i
 |[],i,t,_,h=>by simp at h
 |x::r,0,t,hd,h=>by
  obtain rfl:x=t:=by simpa using h
  rw [List.eraseIdx_cons_zero,List.filter_cons_of_neg (by simp),FA.filt_no (List.nodup_cons.1 hd).1]
 |x::r,i+1,t,hd,h=>by
  have h':r[i]? =some t:=by simpa using h
  have hx:x≠t:=λe=>(List.nodup_cons.1 hd).1 (e▸List.mem_of_getElem? h')
  rw [List.filter_cons_of_pos (by simpa using hx),List.eraseIdx_cons_succ,filt_erase (List.nodup_cons.1 hd).2 h']
theorem del_no {w:World} {base B t:Nat} {v:Value} {l:List Nat} (h:w.ownsRow base 3 1 v l.length (l.map nv)) (hL:l.length≤1000000) (hB:w.cell? ⟨B,0,none⟩=some (.int .i64 (t:Int))) (ht:t∉l):
  Calls prog 46 #[v,.func (.func 47) #[] #[.pointer (some ⟨B,0,none⟩)]] w (DelPost base w v (l.filter λu=>decide (u≠t))):=by
 have cI:=fi_index h hL (λx=>decide (x=t)) 47 #[.pointer (some ⟨B,0,none⟩)] (λ_ _=>by kernel_rfl) (λx _=>fi_is hB x)
 rw [idx_no ht] at cI
 rw [FA.filt_no ht]
 have HE:=Lib.hid (show DelPost base w v l (.returned v) w from ⟨v,rfl,h,rfl,Wr.refl _ _⟩)
 obtain ⟨so,cap,rfl,_⟩:=own_slice h
 generalize l.length=n at*
 clear h hB
 go_enter func46,ntmps46
 go_wp2_with (go_at_call 66;(with_reducible refine cI.mono ?_);rintro e w' ⟨rfl,rfl⟩)
 go_ret
 exact HE.out
theorem del_yes {w:World} {base B t i:Nat} {v:Value} {l:List Nat} (h:w.ownsRow base 3 1 v l.length (l.map nv)) (hL:l.length≤1000000) (hB:w.cell? ⟨B,0,none⟩=some (.int .i64 (t:Int))) (hBv:v.ownBlock≠some B) (hd:l.Nodup) (hi:l[i]? =some t):
  Calls prog 46 #[v,.func (.func 47) #[] #[.pointer (some ⟨B,0,none⟩)]] w (DelPost base w v (l.filter λu=>decide (u≠t))):=by
 have cI:=fi_index h hL (λx=>decide (x=t)) 47 #[.pointer (some ⟨B,0,none⟩)] (λ_ _=>by kernel_rfl) (λx _=>fi_is hB x)
 rw [idx_at hd hi] at cI
 have hil:=(List.getElem?_eq_some_iff.1 hi).1
 rw [filt_erase hd hi]
 rcases h.2 with ⟨_,h0⟩|⟨g,cap,cur,rfl,hbg,hg,hnc,hcm,hcs,ht⟩
 ·omega
 rw [Nat.mul_one] at hcs ht
 have hBg:B≠g:=λe=>hBv (by subst e;rfl)
 have hcur:∀ k,k<l.length→cur[k]? =some (nv (l.getD k 0)):=λk hk=>by
  rw [←Array.getElem?_toList,←List.getElem?_take_of_lt hk,ht,List.getElem?_map,List.getD_eq_getElem?_getD,List.getElem?_eq_getElem hk]
  rfl
 obtain ⟨n,hn⟩:∃ n,n=l.length:=⟨_,rfl⟩
 have hcap:cap≤9223372036854775807:=by unfold maxLen at hcm;exact hcm
 have HP:=Lib.hid (And.intro hd (And.intro hi (And.intro hn (And.intro hbg hcm))))
 rw [←hn] at hnc hil hcur hL cI ⊢
 have HC:=Lib.hid (And.intro hcur (And.intro hcs (And.intro hg hB)))
 clear h ht hcur hcs hg hB hd hi hn hbg hcm hBv
 go_enter func46,ntmps46
 go_wp2_with (go_at_call 66;(with_reducible refine cI.mono ?_);rintro e w' ⟨rfl,rfl⟩)
 clear cI
 go_loopw [5,6] (λa b wr=>∃ (q:Nat) (cs:Array Value),i≤q∧q+1≤n∧a= .int .i64 (q:Int)∧b= .int .i64 ((q:Int)+1)∧Hid (wr.heap[g]? =some (.cells cs 3 (0,0))∧cs.size=cap∧(∀ k,k<n→cs[k]? =some (nv (if i≤k∧k<q then l.getD (k+1) 0 else l.getD k 0)))∧Wr (One g) w wr)) (λa _ _=>n-(intOf a).toNat)
 case atStart=>exact ⟨i,cur,Nat.le_refl _,hil,rfl,rfl,Lib.hid ⟨HC.out.2.2.1,HC.out.2.1,λk hk=>by rw [if_neg (by omega)];exact HC.out.1 k hk,Wr.refl _ _⟩⟩
 case round=>
  obtain ⟨q,cs,hiq,hqn,rfl,rfl,hR⟩:=hrel
  have hcB:wr.cell? ⟨B,0,none⟩=some (.int .i64 (t:Int)):=hR.out.2.2.2.cell HC.out.2.2.2 hBg
  by_cases hlt:q+1<n
  ·have hltI:(q:Int)+1<n:=by omega
   have hl1:q+1<l.length:=by rw [←HP.out.2.2.1];exact hlt
   obtain ⟨x,hx⟩:∃ x,x=l.getD (q+1) 0:=⟨_,rfl⟩
   have hxl:l[q+1]? =some x:=by rw [hx,List.getD_eq_getElem?_getD,List.getElem?_eq_getElem hl1];rfl
   have hxt:x≠t:=λe=>by
    have:=(List.getElem?_inj hl1 HP.out.1).1 (hxl.trans (e▸HP.out.2.1.symm))
    omega
   have c1:wr.cell? ⟨g,q+1,none⟩=some (.int .i64 (x:Int)):=by
    rw [blk_cell hR.out.1,hR.out.2.2.1 (q+1) hlt,if_neg (by omega),←hx];rfl
   have f0:wr.frozen? ⟨g,q,none⟩=false:=blk_frozen hR.out.1 q
   have c0:∃ y,wr.cell? ⟨g,q,none⟩=some y:=⟨_,by rw [blk_cell hR.out.1,hR.out.2.2.1 q (by omega)]⟩
   obtain ⟨y,c0⟩:=c0
   have cx:=fi_is hcB x
   rw [decide_eq_false hxt] at cx
   have HX:=Lib.hid hx
   clear hx hxl hxt hl1 hcB
   go_wp2_with fail
   refine cx.mono ?_
   rintro e w' ⟨rfl,rfl⟩
   clear cx
   go_wp2
   have hnew:Hid ((wr.setCell ⟨g,q,none⟩ (.int .i64 (x:Int))).heap[g]? =some (.cells (cs.setIfInBounds q (.int .i64 (x:Int))) 3 (0,0))∧(cs.setIfInBounds q (.int .i64 (x:Int))).size=cap∧(∀ k,k<n→(cs.setIfInBounds q (.int .i64 (x:Int)))[k]? =some (nv (if i≤k∧k<q+1 then l.getD (k+1) 0 else l.getD k 0)))∧Wr (One g) w (wr.setCell ⟨g,q,none⟩ (.int .i64 (x:Int)))):=by
    refine Lib.hid ⟨blk_setCell hR.out.1 q _,by rw [Array.size_setIfInBounds];exact hR.out.2.1,λk hk=> ?_,hR.out.2.2.2.trans ((Wr.refl (One g) wr).setCell ⟨g,q,none⟩ (.int .i64 (x:Int)) λ_=>rfl) λ_ _ e=>e⟩
    rw [Array.getElem?_setIfInBounds]
    by_cases hkq:q=k
    ·subst hkq
     rw [if_pos rfl,if_pos (by rw [hR.out.2.1];omega),if_pos ⟨hiq,by omega⟩,HX.out];rfl
    ·rw [if_neg hkq,hR.out.2.2.1 k hk]
     by_cases hc:i≤k∧k<q
     ·rw [if_pos hc,if_pos ⟨hc.1,by omega⟩]
     ·rw [if_neg hc,if_neg (by omega)]
   exact ⟨⟨.int .i64 ((q:Int)+1),.int .i64 ((q:Int)+1+1),_,_,_,_,_,_,_,_,_,_,_,_,_,_,_,_,_,_,_,_,_,⟨q+1,_,by omega,hlt,by go_num,by go_num,hnew⟩,rfl⟩,by simp [intOf];omega⟩
  ·obtain rfl:n=q+1:=by omega
   have hcl:∀ ty,(Builtin.clear_ #[22] ty #[.slice (some ⟨g,q,none⟩) 1 (cap-q)]).run prog wr= .ok (.tuple #[]) (wr.setCells g q (List.replicate 1 (.int .i64 0))):=
    λty=>Go.Lib.run_clear_slice wr 22 3 ty _ underlying22 zv rfl rfl g q 1 _ (by omega) (λt ht'=>by
     rw [blk_cell hR.out.1,hR.out.2.2.1 (q+t) (by omega)];rfl) (λt _=>blk_frozen hR.out.1 _)
   have hend:DelPost base w (.slice (some ⟨g,0,none⟩) (q+1) cap) (l.eraseIdx i) (.returned (.slice (some ⟨g,0,none⟩) q cap)) (wr.setCells g q (List.replicate 1 (.int .i64 0))):=by
    have hil':i<l.length:=by rw [←HP.out.2.2.1];omega
    have hel:(l.eraseIdx i).length=q:=by rw [List.length_eraseIdx_of_lt hil',←HP.out.2.2.1];omega
    have hw:wr.setCells g q (List.replicate 1 (.int .i64 0))=wr.setCell ⟨g,q,none⟩ (.int .i64 0):=rfl
    rw [hw]
    refine ⟨_,rfl,⟨by simp,.inr ⟨g,cap,cs.setIfInBounds q (.int .i64 0),by rw [hel],HP.out.2.2.2.1,blk_setCell hR.out.1 q _,by omega,HP.out.2.2.2.2,by rw [Array.size_setIfInBounds,hR.out.2.1,Nat.mul_one],?_⟩⟩,rfl,(hR.out.2.2.2.trans ((Wr.refl (One g) wr).setCell ⟨g,q,none⟩ (.int .i64 0) λ_=>rfl) λ_ _ e=>e).mono λb _ e=>by cases e;rfl⟩
    rw [hel,Nat.mul_one]
    apply List.ext_getElem?
    intro k
    by_cases hk:k<q
    ·rw [List.getElem?_take_of_lt hk,Array.getElem?_toList,Array.getElem?_setIfInBounds,if_neg (by omega),hR.out.2.2.1 k (by omega),List.getElem?_map,List.getElem?_eraseIdx]
     by_cases hik:i≤k
     ·rw [if_pos ⟨hik,hk⟩,if_neg (by omega),List.getD_eq_getElem?_getD,List.getElem?_eq_getElem (by rw [←HP.out.2.2.1];omega)];rfl
     ·rw [if_neg (by omega),if_pos (by omega),List.getD_eq_getElem?_getD,List.getElem?_eq_getElem (by rw [←HP.out.2.2.1];omega)];rfl
    ·rw [List.getElem?_eq_none (by rw [List.length_take];omega),List.getElem?_eq_none (by rw [List.length_map,hel];omega)]
   have HE:=Lib.hid hend
   have hcq:¬ cap=q:=by omega
   have hqc:q≤cap:=by omega
   clear hend hcB hR
   generalize wr.setCells g q (List.replicate 1 (.int .i64 0))=W1 at*
   go_wp2
   go_ret
   exact HE.out
end Go.Proofs.YtmnephejhkfchaaGreat.Fi

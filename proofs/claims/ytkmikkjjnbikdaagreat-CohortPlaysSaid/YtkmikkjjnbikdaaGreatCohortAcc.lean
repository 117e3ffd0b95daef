
import Derived.Test.YtkmikkjjnbikdaaGreatPlanPort
namespace Go.Proofs.YtkmikkjjnbikdaaGreat
open _root_.Go.Proofs.Tryz
open Go.RowKit
set_option linter.unusedVariables false
set_option maxRecDepth 100000
theorem via_info:∃ j,prog.info? 61 =some j∧j.size=1:=by
 have h:(prog.info? 61).map (·.size)=some 1:=by kernel_rfl
 exact Option.map_eq_some_iff.1 h
theorem via_seats {name:String} {f:FuncId} (hm:((prog.info? 29).bind (λi=>i.methods.find? (·.name==name))).map (λm=>(m.path,m.func))=some (#[⟨68,0,true⟩],some (f,true)))
  (D lb:Nat) (p:Addr) (w:World) (h:w.cell? ⟨lb,0,none⟩=some (.pointer (some p))):(method (D+1) 29 (.pointer (some ⟨lb,0,none⟩)) name).run prog w= .ok (f,.pointer (some p)) w:=by
 obtain ⟨m,hm,he⟩:=Option.map_eq_some_iff.1 hm
 obtain ⟨i,hi,hf⟩:=Option.bind_eq_some_iff.1 hm
 simp only [Prod.mk.injEq] at he
 obtain ⟨j,hj,hs⟩:=via_info
 unfold method
 simp [typeInfo,hi,hf,he.1,he.2,follow,underlying,underlying68,underlying61,Place.get,asAddr,fieldPlace,Result.andThen,receiverAt,loadVar,isAgg,sizeOf,hj,hs,h,Addr.add]
theorem via_lock (lb:Nat) (p:Addr) (w:World) (h:w.cell? ⟨lb,0,none⟩=some (.pointer (some p))):(method 349 29 (.pointer (some ⟨lb,0,none⟩)) "Lock").run prog w= .ok (18,.pointer (some p)) w:=via_seats (name:="Lock") (by kernel_rfl) 348 lb p w h
theorem via_unlock (lb:Nat) (p:Addr) (w:World) (h:w.cell? ⟨lb,0,none⟩=some (.pointer (some p))):(method 349 29 (.pointer (some ⟨lb,0,none⟩)) "Unlock").run prog w= .ok (19,.pointer (some p)) w:=via_seats (name:="Unlock") (by kernel_rfl) 348 lb p w h
theorem via_probe (lb:Nat) (p:Addr) (w:World) (h:w.cell? ⟨lb,0,none⟩=some (.pointer (some p))):(method 349 29 (.pointer (some ⟨lb,0,none⟩)) "Probe").run prog w= .ok (123,.pointer (some p)) w:=via_seats (name:="Probe") (by kernel_rfl) 348 lb p w h
theorem via_state (lb:Nat) (p:Addr) (w:World) (h:w.cell? ⟨lb,0,none⟩=some (.pointer (some p))):(method 349 29 (.pointer (some ⟨lb,0,none⟩)) "State").run prog w= .ok (21,.pointer (some p)) w:=via_seats (name:="State") (by kernel_rfl) 348 lb p w h
theorem via_len (lb:Nat) (p:Addr) (w:World) (h:w.cell? ⟨lb,0,none⟩=some (.pointer (some p))):(method 349 29 (.pointer (some ⟨lb,0,none⟩)) "Len").run prog w= .ok (27,.pointer (some p)) w:=via_seats (name:="Len") (by kernel_rfl) 348 lb p w h
theorem via_use (a:Addr) (w:World):(method 349 29 (.pointer (some a)) "Use").run prog w= .ok (31,.pointer (some a)) w:=by kernel_rfl
theorem via_step (a:Addr) (w:World):(method 349 29 (.pointer (some a)) "Step").run prog w= .ok (20,.pointer (some a)) w:=by kernel_rfl
theorem via_rstep (a:Addr) (w:World):(method 349 33 (.pointer (some a)) "Step").run prog w= .ok (125,.pointer (some a)) w:=by kernel_rfl
theorem via_rseats (a:Addr) (w:World):(method 349 33 (.pointer (some a)) "Seats").run prog w= .ok (124,.pointer (some a)) w:=by kernel_rfl
structure Dd where
 ev:Int
 enq:Bool
 arr:Bool
 lead:Bool
def Dd.no:Dd:=⟨0,false,false,false⟩
def Dd.val (d:Dd):Value:= .agg #[.int .i64 d.ev,.bool d.enq,.bool d.arr,.bool d.lead]
def b2i (b:Bool):Int:=if b then 1 else 0
def Dd.rval (d:Dd):Value:= .agg #[.int .i64 d.ev,.int .i64 (b2i d.enq),.int .i64 (b2i d.arr),.int .i64 (b2i d.lead)]
end Go.Proofs.YtkmikkjjnbikdaaGreat
namespace Go.Proofs.YtkmikkjjnbikdaaGreat.Kf
open Go.RowKit
set_option linter.unusedVariables false
set_option maxRecDepth 100000
structure FL where
 s:SS
 num:Nat→Int
 dr:Nat→Bool
 ps:PSta
structure Lp where
 lb:Nat
 p:Nat
 b:Nat
 tb:Nat
 a1:Int
 a2:Int
 q:Place
 hs:List Int
def FL.acq (f:FL) (L:Lp) (t:Nat) (u:Int):FL:=if f.dr t=true then {f with ps:=doS f.ps u 1 L.a2 0 0} else {f with num:=upd f.num t (tellS f.ps u 5 L.a1),dr:=upd f.dr t true,ps:=doS f.ps u 5 L.a1 0 1}
def FL.acqD (f:FL) (L:Lp) (t:Nat) (u:Int):Dd:=if f.dr t=true then (if tellS f.ps u 1 L.a2=f.num t then ⟨1,false,false,false⟩ else Dd.no) else ⟨0,true,false,false⟩
def FL.rel (f:FL) (L:Lp) (t:Nat) (u:Int):FL:={f with num:=upd f.num t 0,dr:=upd f.dr t false,ps:=doS f.ps u 2 L.a2 0 ((f.num t+1)%4294967296)}
def FL.ask (f:FL) (L:Lp) (t:Nat) (u:Int):FL:={f with ps:=doS f.ps u 1 L.a1 0 0}
def FL.askD (f:FL) (L:Lp) (t:Nat) (u:Int):Dd:=if tellS f.ps u 1 L.a1=(f.num t+1)%4294967296 then ⟨4,false,false,false⟩ else ⟨5,false,false,false⟩
def FL.mid (f:FL) (L:Lp) (t u:Int):FL:=if 0≤t∧t<f.s.n then (if f.s.st t.toNat=1 then f.acq L t.toNat u else if f.s.st t.toNat=3 then f.rel L t.toNat u else if f.s.st t.toNat=4 then f.ask L t.toNat u else f) else f
def FL.did (f:FL) (L:Lp) (t u:Int):Dd:=if 0≤t∧t<f.s.n then (if f.s.st t.toNat=1 then f.acqD L t.toNat u else if f.s.st t.toNat=3 then ⟨3,false,false,false⟩ else if f.s.st t.toNat=4 then f.askD L t.toNat u else Dd.no) else Dd.no
def FL.step (f:FL) (L:Lp) (t u:Int):FL:={f.mid L t u with s:=f.s.fin t (f.did L t u).ev}
def FL.lock (f:FL) (t d:Int):FL:={f with s:=f.s.lock t d}
def FL.turn (f:FL) (t x:Int):FL:={f with s:=f.s.turn t x}
theorem FL.acq_s (f:FL) (L:Lp) (t:Nat) (u:Int):(f.acq L t u).s=f.s:=by unfold FL.acq;split<;>rfl
theorem FL.mid_s (f:FL) (L:Lp) (t u:Int):(f.mid L t u).s=f.s:=by
 unfold FL.mid
 repeat' split
 ·exact f.acq_s L _ u
 all_goals rfl
theorem do_add {ps:PSta} {nx ow:Int} {k:Nat} (h:ps.ws=[nx,ow]) (hk:k<ps.ac.length):
  tellS ps k 5 0=nx∧(doS ps k 5 0 0 1).ws=[(nx+1)%4294967296,ow]∧(doS ps k 5 0 0 1).ac.length=ps.ac.length∧(doS ps k 5 0 0 1).D.length=ps.D.length+1:=by
 have ho:okS ps k 5 0=true:=by simp [okS,okT,h];omega
 refine ⟨?_,?_,?_,?_⟩
 ·unfold tellS;rw [ho];simp [tellI,loadI,h]
 ·unfold doS;rw [ho];simp [doL,addL,storeL,loadI,h]
 ·unfold doS;rw [ho];simp [touchS,bump_len]
 ·unfold doS;rw [ho];simp [touchS]
theorem do_load {ps:PSta} {nx ow:Int} {k:Nat} (h:ps.ws=[nx,ow]) (hk:k<ps.ac.length) (a:Int) (ha:a=0∨a=1):
  tellS ps k 1 a=(if a=0 then nx else ow)∧(doS ps k 1 a 0 0).ws=[nx,ow]∧(doS ps k 1 a 0 0).ac.length=ps.ac.length∧(doS ps k 1 a 0 0).D.length=ps.D.length+1:=by
 have ho:okS ps k 1 a=true:=by rcases ha with rfl|rfl<;>(simp [okS,okT,h];omega)
 refine ⟨?_,?_,?_,?_⟩
 ·unfold tellS;rw [ho];rcases ha with rfl|rfl<;>simp [tellI,loadI,h]
 ·unfold doS;rw [ho];simp [doL,h]
 ·unfold doS;rw [ho];simp [touchS,bump_len]
 ·unfold doS;rw [ho];simp [touchS]
theorem do_store {ps:PSta} {nx ow v:Int} {k:Nat} (h:ps.ws=[nx,ow]) (hk:k<ps.ac.length):
  (doS ps k 2 1 0 v).ws=[nx,v]∧(doS ps k 2 1 0 v).ac.length=ps.ac.length∧(doS ps k 2 1 0 v).D.length=ps.D.length+1:=by
 have ho:okS ps k 2 1=true:=by simp [okS,okT,h];omega
 refine ⟨?_,?_,?_⟩
 ·unfold doS;rw [ho];simp [doL,storeL,h]
 ·unfold doS;rw [ho];simp [touchS,bump_len]
 ·unfold doS;rw [ho];simp [touchS]
theorem fin_none {s:SS} {k:Nat} {ev:Int} (h:behindI (s.st k) ev=none):s.fin k ev=s:=by
 unfold SS.fin endO
 split
 ·rename_i y hy
  split at hy
  ·rw [Int.toNat_natCast,h] at hy;cases hy
  ·cases hy
 ·rfl
theorem fin_some {s:SS} {k:Nat} {ev y:Int} (hk:k<s.n) (h:behindI (s.st k) ev=some y):s.fin k ev=s.set k y 0:=by
 have e:endO s k ev=some y:=by unfold endO;rw [if_pos (by omega),Int.toNat_natCast,h]
 unfold SS.fin
 rw [e,Int.toNat_natCast]
structure OrdJ (f:FL) (g:Option Nat) (W:List Nat) (nx ow:Int):Prop where
 n8:f.s.n≤8
 ws:f.ps.ws=[nx,ow]
 ac:f.ps.ac.length=f.s.n
 rng:0≤ow∧ow<4294967296
 nodup:(g.toList++W).Nodup
 lt:∀ k∈g.toList++W,k<f.s.n
 num:∀ (i k:Nat),(g.toList++W)[i]? =some k→f.num k=(ow+i)%4294967296
 nxt:nx=(ow+(g.toList++W).length)%4294967296
 dr:∀ k,k<f.s.n→(f.dr k=true↔k∈g.toList++W)
 stg:∀ k,g=some k→f.s.st k=2∨f.s.st k=3∨f.s.st k=4
 stw:∀ k∈W,f.s.st k=1
 sto:∀ k,k<f.s.n→k∉g.toList++W→f.s.st k=0∨f.s.st k=1
namespace OrdJ
variable {f:FL} {g:Option Nat} {W:List Nat} {nx ow:Int} {L:Lp}
theorem len (h:OrdJ f g W nx ow):(g.toList++W).length≤8:=by
 have h1:(g.toList++W).length≤(List.range f.s.n).length:=List.Nodup.length_le_of_subset h.nodup λk hk=>List.mem_range.2 (h.lt k hk)
 rw [List.length_range] at h1
 have:=h.n8
 omega
theorem held (h:OrdJ f g W nx ow) {k:Nat} (hk:k<f.s.n) (hs:f.s.st k=2∨f.s.st k=3∨f.s.st k=4):g=some k:=by
 by_cases hm:k∈g.toList++W
 ·rcases List.mem_append.1 hm with hm|hm
  ·simpa using hm
  ·have:=h.stw k hm;omega
 ·have:=h.sto k hk hm;omega
theorem idle (h:OrdJ f g W nx ow) {k:Nat} (hk:k<f.s.n) (hs:f.s.st k=0):k∉g.toList++W:=λhm=>by
 rcases List.mem_append.1 hm with hm|hm
 ·have:=h.stg k (by simpa using hm);omega
 ·have:=h.stw k hm;omega
theorem stS (h:OrdJ f g W nx ow) (k:Nat) (x d:Int) (h0:k∉g.toList++W→x=0∨x=1) (h1:k∈W→x=1) (h2:g=some k→x=2∨x=3∨x=4):OrdJ {f with s:=f.s.set k x d} g W nx ow:=by
 refine ⟨h.n8,h.ws,h.ac,h.rng,h.nodup,h.lt,h.num,h.nxt,h.dr,λj hj=> ?_,λj hj=> ?_,λj hj hn=> ?_⟩
 ·show upd f.s.st k x j=2∨upd f.s.st k x j=3∨upd f.s.st k x j=4
  by_cases e:j=k
  ·subst e;rw [upd_same];exact h2 hj
  ·rw [upd_other _ _ e];exact h.stg j hj
 ·show upd f.s.st k x j=1
  by_cases e:j=k
  ·subst e;rw [upd_same];exact h1 hj
  ·rw [upd_other _ _ e];exact h.stw j hj
 ·show upd f.s.st k x j=0∨upd f.s.st k x j=1
  by_cases e:j=k
  ·subst e;rw [upd_same];exact h0 hn
  ·rw [upd_other _ _ e];exact h.sto j hj hn
theorem lock (h:OrdJ f g W nx ow) (t d:Int):OrdJ (f.lock t d) g W nx ow:=by
 unfold FL.lock SS.lock
 split
 ·rename_i he
  unfold lockE at he
  split at he
  ·rename_i hc
   split at he
   ·rename_i hs
    have hk:t.toNat<f.s.n:=by omega
    have hn:=h.idle hk hs
    exact h.stS _ _ _ (λ_=> .inr rfl) (λ_=>rfl) λe=>absurd (List.mem_append_left W (by rw [e];simp)) hn
   ·omega
  ·omega
 ·exact h
theorem turn (h:OrdJ f g W nx ow) (t x:Int) (hx:x=3∨x=4):OrdJ (f.turn t x) g W nx ow:=by
 unfold FL.turn SS.turn
 split
 ·rename_i he
  unfold turnE at he
  split at he
  ·rename_i hc
   split at he
   ·omega
   ·split at he
    ·rename_i hs
     have hk:t.toNat<f.s.n:=by omega
     have hg:=h.held hk (.inl hs)
     refine h.stS _ _ _ (λhn=>absurd (List.mem_append_left W (by rw [hg];simp)) hn) (λhw=> ?_) λ_=> .inr hx
     have:=h.stw _ hw
     omega
    ·omega
  ·omega
 ·exact h
theorem psS (h:OrdJ f g W nx ow) {ps:PSta} (hw:ps.ws=[nx,ow]) (ha:ps.ac.length=f.ps.ac.length):OrdJ {f with ps:=ps} g W nx ow:=
 ⟨h.n8,hw,ha.trans h.ac,h.rng,h.nodup,h.lt,h.num,h.nxt,h.dr,h.stg,h.stw,h.sto⟩
theorem enq (h:OrdJ f g W nx ow) {k:Nat} (hk:k<f.s.n) (hs:f.s.st k=1) (hd:f.dr k=false) {ps:PSta} (hw:ps.ws=[(nx+1)%4294967296,ow]) (ha:ps.ac.length=f.ps.ac.length):
  OrdJ {f with num:=upd f.num k nx,dr:=upd f.dr k true,ps:=ps} g (W++[k]) ((nx+1)%4294967296) ow:=by
 have hn:k∉g.toList++W:=λe=>by rw [(h.dr k hk).2 e] at hd;cases hd
 have hl:=h.len
 refine ⟨h.n8,hw,ha.trans h.ac,h.rng,?_,?_,?_,?_,?_,h.stg,?_,?_⟩
 ·rw [←List.append_assoc,List.nodup_append]
  exact ⟨h.nodup,by simp,λa h1 b h2 e=>by rw [List.mem_singleton] at h2;subst e;subst h2;exact hn h1⟩
 ·intro j hj
  rw [←List.append_assoc,List.mem_append,List.mem_singleton] at hj
  rcases hj with hj|rfl
  ·exact h.lt j hj
  ·exact hk
 ·intro i j hj
  rw [←List.append_assoc] at hj
  show upd f.num k nx j=_
  by_cases hi:i<(g.toList++W).length
  ·rw [List.getElem?_append_left hi] at hj
   have hm:=List.mem_of_getElem? hj
   rw [upd_other _ _ (λe=>by subst e;exact hn hm)]
   exact h.num i j hj
  ·rw [List.getElem?_append_right (by omega)] at hj
   have hi2:i-(g.toList++W).length=0:=by
    have:=(List.getElem?_eq_some_iff.1 hj).1
    simpa using this
   rw [hi2] at hj
   obtain rfl:k=j:=by simpa using hj
   rw [upd_same,h.nxt]
   congr 3
   omega
 ·have e:((g.toList++W)++[k]).length=(g.toList++W).length+1:=by rw [List.length_append,List.length_singleton]
  rw [h.nxt,←List.append_assoc,e]
  omega
 ·intro j hj
  show upd f.dr k true j=true↔_
  rw [←List.append_assoc,List.mem_append,List.mem_singleton]
  by_cases e:j=k
  ·subst e;rw [upd_same];simp
  ·rw [upd_other _ _ e,h.dr j hj];simp [e]
 ·intro j hj
  rw [List.mem_append,List.mem_singleton] at hj
  rcases hj with hj|rfl
  ·exact h.stw j hj
  ·exact hs
 ·intro j hj hnj
  rw [←List.append_assoc,List.mem_append,not_or] at hnj
  exact h.sto j hj hnj.1
theorem first (h:OrdJ f g W nx ow) {k:Nat} (hk:k<f.s.n) (hs:f.s.st k=1) (hd:f.dr k=true) (he:ow=f.num k):g=none∧∃ W',W=k::W'∧k∉W':=by
 have hm:=(h.dr k hk).1 hd
 have hl:=h.len
 have hr:=h.rng
 obtain ⟨i,hi⟩:=List.getElem?_of_mem hm
 have hlt:=(List.getElem?_eq_some_iff.1 hi).1
 have:=h.num i k hi
 have i0:i=0:=by omega
 subst i0
 have hnd:=h.nodup
 cases g with
 |none=>
  refine ⟨rfl,?_⟩
  cases W with
  |nil=>simp at hi
  |cons a r=>
   obtain rfl:a=k:=by simpa using hi
   exact ⟨r,rfl,by simpa using (List.nodup_cons.1 hnd).1⟩
 |some a=>
  obtain rfl:a=k:=by simpa using hi
  have:=h.stg a rfl
  omega
theorem grant {k:Nat} (h:OrdJ f none (k::W) nx ow) {ps:PSta} (hw:ps.ws=[nx,ow]) (ha:ps.ac.length=f.ps.ac.length) (d:Int):
  OrdJ {f with s:=f.s.set k 2 d,ps:=ps} (some k) W nx ow:=by
 refine ⟨h.n8,hw,ha.trans h.ac,h.rng,h.nodup,h.lt,h.num,h.nxt,h.dr,λj hj=> ?_,λj hj=> ?_,λj hj hn=> ?_⟩
 ·obtain rfl:k=j:=by simpa using hj
  exact .inl (upd_same _ _ _)
 ·show upd f.s.st k 2 j=1
  rw [upd_other _ _ (λe=>by subst e;exact (List.nodup_cons.1 h.nodup).1 hj)]
  exact h.stw j (List.mem_cons_of_mem _ hj)
 ·show upd f.s.st k 2 j=0∨upd f.s.st k 2 j=1
  rw [upd_other _ _ (λe=>by subst e;exact hn (by simp))]
  exact h.sto j hj hn
theorem free {k:Nat} (h:OrdJ f (some k) W nx ow) {ps:PSta} (hw:ps.ws=[nx,(f.num k+1)%4294967296]) (ha:ps.ac.length=f.ps.ac.length) (d:Int):
  OrdJ {f with s:=f.s.set k 0 d,num:=upd f.num k 0,dr:=upd f.dr k false,ps:=ps} none W nx ((f.num k+1)%4294967296):=by
 have hn0:f.num k=ow:=by
  have:=h.num 0 k rfl
  have:=h.rng
  omega
 have hnW:k∉W:=(List.nodup_cons.1 h.nodup).1
 rw [hn0] at hw ⊢
 have hl:=h.len
 simp only [Option.toList_some,List.length_append,List.length_singleton] at hl
 refine ⟨h.n8,hw,ha.trans h.ac,by omega,(List.nodup_cons.1 h.nodup).2,λj hj=>h.lt j (List.mem_append_right _ hj),λi j hj=> ?_,?_,λj hj=> ?_,λj hj=>(by cases hj),λj hj=> ?_,λj hj hn=> ?_⟩
 ·show upd f.num k 0 j=_
  have hm:j∈W:=List.mem_of_getElem? hj
  rw [upd_other _ _ (λe=>by subst e;exact hnW hm),h.num (i+1) j (by simpa using hj)]
  omega
 ·rw [h.nxt]
  simp only [Option.toList_some,Option.toList_none,List.length_append,List.length_singleton,List.length_nil]
  omega
 ·show upd f.dr k false j=true↔_
  by_cases e:j=k
  ·subst e;rw [upd_same];simp [hnW]
  ·rw [upd_other _ _ e,h.dr j hj];simp [e]
 ·show upd f.s.st k 0 j=1
  rw [upd_other _ _ (λe=>by subst e;exact hnW hj)]
  exact h.stw j hj
 ·show upd f.s.st k 0 j=0∨upd f.s.st k 0 j=1
  by_cases e:j=k
  ·subst e;rw [upd_same];exact .inl rfl
  ·rw [upd_other _ _ e]
   exact h.sto j hj (by simpa [e] using hn)
inductive StepQ (W:List Nat) (t:Int) (d:Dd) (W':List Nat):Prop where
 |same (h0:d.enq=false) (h1:d.ev≠1) (h2:d.ev≠2) (e:W'=W):StepQ W t d W'
 |enq (hd:d=⟨0,true,false,false⟩) (k:Nat) (ht:t=k) (e:W'=W++[k]):StepQ W t d W'
 |grant (hd:d=⟨1,false,false,false⟩) (k:Nat) (ht:t=k) (e:W=k::W') (hn:k∉W'):StepQ W t d W'
theorem step (h:OrdJ f g W nx ow) (h1:L.a1=0) (h2:L.a2=1) (t:Int):
  ∃ g' W' nx' ow',OrdJ (f.step L t t) g' W' nx' ow'∧(f.step L t t).ps.D.length≤f.ps.D.length+1∧StepQ W t (f.did L t t) W':=by
 by_cases ht:0≤t∧t<f.s.n
 ·obtain ⟨k,rfl⟩:=Int.eq_ofNat_of_zero_le ht.1
  have hk:k<f.s.n:=by omega
  have hk2:k<f.ps.ac.length:=by rw [h.ac];exact hk
  unfold FL.step FL.mid FL.did
  rw [if_pos ht,if_pos ht,Int.toNat_natCast]
  by_cases s1:f.s.st k=1
  ·rw [if_pos s1,if_pos s1]
   unfold FL.acq FL.acqD
   rw [h1,h2]
   cases hd:f.dr k
   ·obtain ⟨e1,e2,e3,e4⟩:=do_add h.ws hk2
    have hj:=h.enq hk s1 hd e2 e3
    rw [if_neg (by decide),if_neg (by decide)]
    refine ⟨g,W++[k],(nx+1)%4294967296,ow,?_,Nat.le_of_eq e4,.enq rfl k rfl rfl⟩
    rw [e1]
    show OrdJ {f with s:=f.s.fin k 0,num:=_,dr:=_,ps:=_} g _ _ _
    rw [fin_none (by rw [s1];rfl)]
    exact hj
   ·obtain ⟨e1,e2,e3,e4⟩:=do_load h.ws hk2 1 (.inr rfl)
    rw [if_neg (by decide)] at e1
    rw [if_pos rfl,if_pos rfl,e1]
    by_cases he:ow=f.num k
    ·obtain ⟨rfl,W',rfl,hn⟩:=h.first hk s1 hd he
     rw [if_pos he]
     refine ⟨some k,W',nx,ow,?_,Nat.le_of_eq e4,.grant rfl k rfl rfl hn⟩
     show OrdJ {f with s:=f.s.fin k 1,ps:=_} _ _ _ _
     rw [fin_some hk (by rw [s1];rfl:behindI (f.s.st k) 1=some 2)]
     exact h.grant e2 e3 0
    ·rw [if_neg he]
     refine ⟨g,W,nx,ow,?_,Nat.le_of_eq e4,.same rfl (by decide) (by decide) rfl⟩
     show OrdJ {f with s:=f.s.fin k 0,ps:=_} _ _ _ _
     rw [fin_none (by rw [s1];rfl)]
     exact h.psS e2 e3
  ·rw [if_neg s1,if_neg s1]
   by_cases s3:f.s.st k=3
   ·rw [if_pos s3,if_pos s3]
    unfold FL.rel
    rw [h2]
    obtain rfl:=h.held hk (.inr (.inl s3))
    obtain ⟨e2,e3,e4⟩:=do_store (v:=(f.num k+1)%4294967296) h.ws hk2
    refine ⟨none,W,nx,(f.num k+1)%4294967296,?_,Nat.le_of_eq e4,.same rfl (by decide) (by decide) rfl⟩
    show OrdJ {f with s:=f.s.fin k 3,num:=_,dr:=_,ps:=_} _ _ _ _
    rw [fin_some hk (by rw [s3];rfl:behindI (f.s.st k) 3=some 0)]
    exact h.free e2 e3 0
   ·rw [if_neg s3,if_neg s3]
    by_cases s4:f.s.st k=4
    ·rw [if_pos s4,if_pos s4]
     unfold FL.ask FL.askD
     rw [h1]
     have hg:=h.held hk (.inr (.inr s4))
     obtain ⟨e1,e2,e3,e4⟩:=do_load h.ws hk2 0 (.inl rfl)
     have hm:k∈g.toList++W:=List.mem_append_left W (by rw [hg];simp)
     have hnW:k∉W:=λhw=>by have:=h.stw k hw;omega
     have key:∀ ev,ev=4∨ev=5→OrdJ {f with s:=f.s.fin k ev,ps:=doS f.ps k 1 0 0 0} g W nx ow:=λev hev=>by
      rw [fin_some hk (by rw [s4];rcases hev with rfl|rfl<;>rfl:behindI (f.s.st k) ev=some 2)]
      exact (h.psS e2 e3).stS k 2 0 (λe=>absurd hm e) (λe=>absurd e hnW) λ_=> .inl rfl
     split
     ·exact ⟨g,W,nx,ow,key 4 (.inl rfl),Nat.le_of_eq e4,.same rfl (by decide) (by decide) rfl⟩
     ·exact ⟨g,W,nx,ow,key 5 (.inr rfl),Nat.le_of_eq e4,.same rfl (by decide) (by decide) rfl⟩
    ·rw [if_neg s4,if_neg s4]
     refine ⟨g,W,nx,ow,?_,Nat.le_succ _,.same rfl (by decide) (by decide) rfl⟩
     have e:f.s.fin k Dd.no.ev=f.s:=fin_none (by
      unfold behindI Dd.no
      rw [if_neg (by omega),if_neg (by omega),if_neg (by omega),if_neg (by omega)])
     show OrdJ {f with s:=f.s.fin k Dd.no.ev} _ _ _ _
     rw [e]
     exact h
 ·unfold FL.step FL.mid FL.did
  rw [if_neg ht,if_neg ht]
  refine ⟨g,W,nx,ow,?_,Nat.le_succ _,.same rfl (by decide) (by decide) rfl⟩
  have e:f.s.fin t Dd.no.ev=f.s:=by
   have e0:endO f.s t Dd.no.ev=none:=by unfold endO;rw [if_neg ht]
   unfold SS.fin
   rw [e0]
  show OrdJ {f with s:=f.s.fin t Dd.no.ev} _ _ _ _
  rw [e]
  exact h
end OrdJ
namespace OrdI
variable {f:FL} {W:List Nat} {L:Lp}
end OrdI
end Go.Proofs.YtkmikkjjnbikdaaGreat.Kf
namespace Go.Proofs.YtkmikkjjnbikdaaGreat.Kc
open Go.RowKit
set_option linter.unusedVariables false
set_option maxRecDepth 100000
structure FL where
 s:SS
 pc:Nat→Int
 node:Nat→Int
 ahd:Nat→Int
 ps:PSta
structure Lp where
 lb:Nat
 p:Nat
 b:Nat
 tb:Nat
 a1:Int
 a2:Int
 q:Place
 hs:List Int
def FL.acq (f:FL) (L:Lp) (t:Nat) (u:Int):FL:=
 if f.pc t=0 then {f with pc:=upd f.pc t 1,ps:=doS f.ps u 2 (L.a2+f.node t) 0 1}
 else if f.pc t=1 then {f with pc:=upd f.pc t 2,ahd:=upd f.ahd t (tellS f.ps u 3 L.a1),ps:=doS f.ps u 3 L.a1 0 (f.node t)}
 else {f with ps:=doS f.ps u 1 (L.a2+f.ahd t) 0 0}
def FL.acqD (f:FL) (L:Lp) (t:Nat) (u:Int):Dd:=if f.pc t=0 then Dd.no else if f.pc t=1 then ⟨0,true,false,false⟩ else if tellS f.ps u 1 (L.a2+f.ahd t)=0 then ⟨1,false,false,false⟩ else Dd.no
def FL.rel (f:FL) (L:Lp) (t:Nat) (u:Int):FL:={f with pc:=upd f.pc t 0,node:=upd f.node t (f.ahd t),ahd:=upd f.ahd t 0,ps:=doS f.ps u 2 (L.a2+f.node t) 0 0}
def FL.ask (f:FL) (L:Lp) (t:Nat) (u:Int):FL:={f with ps:=doS f.ps u 1 L.a1 0 0}
def FL.askD (f:FL) (L:Lp) (t:Nat) (u:Int):Dd:=if tellS f.ps u 1 L.a1=f.node t then ⟨4,false,false,false⟩ else ⟨5,false,false,false⟩
def FL.mid (f:FL) (L:Lp) (t u:Int):FL:=if 0≤t∧t<f.s.n then (if f.s.st t.toNat=1 then f.acq L t.toNat u else if f.s.st t.toNat=3 then f.rel L t.toNat u else if f.s.st t.toNat=4 then f.ask L t.toNat u else f) else f
def FL.did (f:FL) (L:Lp) (t u:Int):Dd:=if 0≤t∧t<f.s.n then (if f.s.st t.toNat=1 then f.acqD L t.toNat u else if f.s.st t.toNat=3 then ⟨3,false,false,false⟩ else if f.s.st t.toNat=4 then f.askD L t.toNat u else Dd.no) else Dd.no
def FL.step (f:FL) (L:Lp) (t u:Int):FL:={f.mid L t u with s:=f.s.fin t (f.did L t u).ev}
def FL.lock (f:FL) (t d:Int):FL:={f with s:=f.s.lock t d}
def FL.turn (f:FL) (t x:Int):FL:={f with s:=f.s.turn t x}
theorem FL.acq_s (f:FL) (L:Lp) (t:Nat) (u:Int):(f.acq L t u).s=f.s:=by unfold FL.acq;repeat' split<;>try rfl
theorem FL.mid_s (f:FL) (L:Lp) (t u:Int):(f.mid L t u).s=f.s:=by
 unfold FL.mid
 repeat' split
 ·exact f.acq_s L _ u
 all_goals rfl
theorem do_swap {ps:PSta} {nx v:Int} {l:List Int} {k:Nat} (h:ps.ws=nx::l) (hk:k<ps.ac.length):
  tellS ps k 3 0=nx∧(doS ps k 3 0 0 v).ws=v::l∧(doS ps k 3 0 0 v).ac.length=ps.ac.length∧(doS ps k 3 0 0 v).D.length=ps.D.length+1:=by
 have ho:okS ps k 3 0=true:=by simp [okS,okT,h];omega
 refine ⟨?_,?_,?_,?_⟩
 ·unfold tellS;rw [ho];simp [tellI,loadI,h]
 ·unfold doS;rw [ho];simp [doL,storeL,h]
 ·unfold doS;rw [ho];simp [touchS,bump_len]
 ·unfold doS;rw [ho];simp [touchS]
theorem do_load {ps:PSta} {l:List Int} {k i:Nat} {a:Int} (h:ps.ws=l) (hk:k<ps.ac.length) (ha:a=((i:Nat):Int)) (hi:i<l.length):
  tellS ps k 1 a=l.getD i 0∧(doS ps k 1 a 0 0).ws=l∧(doS ps k 1 a 0 0).ac.length=ps.ac.length∧(doS ps k 1 a 0 0).D.length=ps.D.length+1:=by
 subst ha h
 have ho:okS ps k 1 (i:Int)=true:=by simp [okS,okT];omega
 refine ⟨?_,?_,?_,?_⟩
 ·unfold tellS;rw [ho];simp [tellI,loadI]
 ·unfold doS;rw [ho];simp [doL]
 ·unfold doS;rw [ho];simp [touchS,bump_len]
 ·unfold doS;rw [ho];simp [touchS]
theorem do_store {ps:PSta} {l:List Int} {k i:Nat} {a v:Int} (h:ps.ws=l) (hk:k<ps.ac.length) (ha:a=((i:Nat):Int)) (hi:i<l.length):
  (doS ps k 2 a 0 v).ws=l.set i v∧(doS ps k 2 a 0 v).ac.length=ps.ac.length∧(doS ps k 2 a 0 v).D.length=ps.D.length+1:=by
 subst ha h
 have ho:okS ps k 2 (i:Int)=true:=by simp [okS,okT];omega
 refine ⟨?_,?_,?_⟩
 ·unfold doS;rw [ho];simp [doL,storeL]
 ·unfold doS;rw [ho];simp [touchS,bump_len]
 ·unfold doS;rw [ho];simp [touchS]
theorem fin_none {s:SS} {k:Nat} {ev:Int} (h:behindI (s.st k) ev=none):s.fin k ev=s:=by
 unfold SS.fin endO
 split
 ·rename_i y hy
  split at hy
  ·rw [Int.toNat_natCast,h] at hy;cases hy
  ·cases hy
 ·rfl
theorem fin_some {s:SS} {k:Nat} {ev y:Int} (hk:k<s.n) (h:behindI (s.st k) ev=some y):s.fin k ev=s.set k y 0:=by
 have e:endO s k ev=some y:=by unfold endO;rw [if_pos (by omega),Int.toNat_natCast,h]
 unfold SS.fin
 rw [e,Int.toNat_natCast]
def Chain (node ahd:Nat→Int):Int→List Nat→Prop
 |_,[]=>True
 |e,k::r=>ahd k=e∧Chain node ahd (node k) r
def endN (node:Nat→Int):Int→List Nat→Int
 |e,[]=>e
 |_,k::r=>endN node (node k) r
theorem endN_more (node:Nat→Int) (e:Int) (Q:List Nat) (k:Nat):endN node e (Q++[k])=node k:=by
 induction Q generalizing e with
 |nil=>rfl
 |cons a r ih=>exact ih _
theorem chain_more {node ahd:Nat→Int} {e:Int} {Q:List Nat} {k:Nat} (h:Chain node ahd e Q) (hk:ahd k=endN node e Q):Chain node ahd e (Q++[k]):=by
 induction Q generalizing e with
 |nil=>exact ⟨hk,trivial⟩
 |cons a r ih=>exact ⟨h.1,ih h.2 hk⟩
theorem chain_same {node node' ahd ahd':Nat→Int} {e:Int} {Q:List Nat} (h:Chain node ahd e Q) (hs:∀ j∈Q,node' j=node j∧ahd' j=ahd j):Chain node' ahd' e Q:=by
 induction Q generalizing e with
 |nil=>trivial
 |cons a r ih=>
  have ha:=hs a List.mem_cons_self
  refine ⟨ha.2.trans h.1,?_⟩
  rw [ha.1]
  exact ih h.2 λj hj=>hs j (List.mem_cons_of_mem _ hj)
theorem endN_same {node node':Nat→Int} {Q:List Nat} (hs:∀ j∈Q,node' j=node j) (e:Int):endN node' e Q=endN node e Q:=by
 induction Q generalizing e with
 |nil=>rfl
 |cons a r ih=>
  show endN node' (node' a) r=endN node (node a) r
  rw [hs a List.mem_cons_self]
  exact ih (λj hj=>hs j (List.mem_cons_of_mem _ hj)) _
theorem chain_at {node ahd:Nat→Int} {e:Int} {Q:List Nat} (h:Chain node ahd e Q) {k:Nat} (hk:k∈Q):(∃ r,Q=k::r∧ahd k=e)∨∃ j∈Q,ahd k=node j:=by
 induction Q generalizing e with
 |nil=>cases hk
 |cons a r ih=>
  rcases List.mem_cons.1 hk with rfl|hk
  ·exact .inl ⟨r,rfl,h.1⟩
  ·rcases ih h.2 hk with ⟨r',rfl,he⟩|⟨j,hj,he⟩
   ·exact .inr ⟨a,List.mem_cons_self,he⟩
   ·exact .inr ⟨j,List.mem_cons_of_mem _ hj,he⟩
structure OrdJ (f:FL) (g:Option Nat) (W:List Nat) (e:Int):Prop where
 n8:f.s.n≤8
 rng:∀ j,j<f.s.n→0≤f.node j∧f.node j≤f.s.n
 erng:0≤e∧e≤f.s.n
 inj:∀ j k,j<f.s.n→k<f.s.n→f.node j=f.node k→j=k
 ne:∀ j,j<f.s.n→f.node j≠e
 ws:∃ fl:List Int,f.ps.ws=endN f.node e (g.toList++W)::fl∧fl.length=f.s.n+1∧(∀ j,j<f.s.n→fl.getD (f.node j).toNat 0=if f.pc j=0 then 0 else 1)∧fl.getD e.toNat 0=0
 ac:f.ps.ac.length=f.s.n
 nodup:(g.toList++W).Nodup
 lt:∀ k∈g.toList++W,k<f.s.n
 pc2:∀ j,j<f.s.n→(f.pc j=2↔j∈g.toList++W)
 prg:∀ j,f.pc j=0∨f.pc j=1∨f.pc j=2
 pc1:∀ j,j<f.s.n→f.pc j=1→f.s.st j=1
 ch:Chain f.node f.ahd e (g.toList++W)
 stg:∀ k,g=some k→f.s.st k=2∨f.s.st k=3∨f.s.st k=4
 stw:∀ k∈W,f.s.st k=1
 sto:∀ k,k<f.s.n→k∉g.toList++W→f.s.st k=0∨f.s.st k=1
namespace OrdJ
variable {f:FL} {g:Option Nat} {W:List Nat} {e:Int} {L:Lp}
theorem held (h:OrdJ f g W e) {k:Nat} (hk:k<f.s.n) (hs:f.s.st k=2∨f.s.st k=3∨f.s.st k=4):g=some k:=by
 by_cases hm:k∈g.toList++W
 ·rcases List.mem_append.1 hm with hm|hm
  ·simpa using hm
  ·have:=h.stw k hm;omega
 ·have:=h.sto k hk hm;omega
theorem idle (h:OrdJ f g W e) {k:Nat} (hk:k<f.s.n) (hs:f.s.st k=0):k∉g.toList++W:=λhm=>by
 rcases List.mem_append.1 hm with hm|hm
 ·have:=h.stg k (by simpa using hm);omega
 ·have:=h.stw k hm;omega
theorem stS (h:OrdJ f g W e) (k:Nat) (x d:Int) (h0:k∉g.toList++W→x=0∨x=1) (h1:k∈W→x=1) (h2:g=some k→x=2∨x=3∨x=4) (h3:f.pc k=1→x=1):OrdJ {f with s:=f.s.set k x d} g W e:=by
 refine ⟨h.n8,h.rng,h.erng,h.inj,h.ne,h.ws,h.ac,h.nodup,h.lt,h.pc2,h.prg,λj hj hp=> ?_,h.ch,λj hj=> ?_,λj hj=> ?_,λj hj hn=> ?_⟩
 ·show upd f.s.st k x j=1
  by_cases q:j=k
  ·subst q;rw [upd_same];exact h3 hp
  ·rw [upd_other _ _ q];exact h.pc1 j hj hp
 ·show upd f.s.st k x j=2∨upd f.s.st k x j=3∨upd f.s.st k x j=4
  by_cases q:j=k
  ·subst q;rw [upd_same];exact h2 hj
  ·rw [upd_other _ _ q];exact h.stg j hj
 ·show upd f.s.st k x j=1
  by_cases q:j=k
  ·subst q;rw [upd_same];exact h1 hj
  ·rw [upd_other _ _ q];exact h.stw j hj
 ·show upd f.s.st k x j=0∨upd f.s.st k x j=1
  by_cases q:j=k
  ·subst q;rw [upd_same];exact h0 hn
  ·rw [upd_other _ _ q];exact h.sto j hj hn
theorem lock (h:OrdJ f g W e) (t d:Int):OrdJ (f.lock t d) g W e:=by
 unfold FL.lock SS.lock
 split
 ·rename_i he
  unfold lockE at he
  split at he
  ·rename_i hc
   split at he
   ·rename_i hs
    have hk:t.toNat<f.s.n:=by omega
    have hn:=h.idle hk hs
    exact h.stS _ _ _ (λ_=> .inr rfl) (λ_=>rfl) (λe=>absurd (List.mem_append_left W (by rw [e];simp)) hn) λ_=>rfl
   ·omega
  ·omega
 ·exact h
theorem turn (h:OrdJ f g W e) (t x:Int) (hx:x=3∨x=4):OrdJ (f.turn t x) g W e:=by
 unfold FL.turn SS.turn
 split
 ·rename_i he
  unfold turnE at he
  split at he
  ·rename_i hc
   split at he
   ·omega
   ·split at he
    ·rename_i hs
     have hk:t.toNat<f.s.n:=by omega
     have hg:=h.held hk (.inl hs)
     refine h.stS _ _ _ (λhn=>absurd (List.mem_append_left W (by rw [hg];simp)) hn) (λhw=> ?_) (λ_=> .inr hx) λhp=> ?_
     ·have:=h.stw _ hw
      omega
     ·have:=h.pc1 _ hk hp
      omega
    ·omega
  ·omega
 ·exact h
theorem psS (h:OrdJ f g W e) {ps:PSta} (hw:ps.ws=f.ps.ws) (ha:ps.ac.length=f.ps.ac.length):OrdJ {f with ps:=ps} g W e:=
 ⟨h.n8,h.rng,h.erng,h.inj,h.ne,by obtain ⟨fl,a⟩:=h.ws;exact ⟨fl,by rw [hw];exact a.1,a.2⟩,ha.trans h.ac,h.nodup,h.lt,h.pc2,h.prg,h.pc1,h.ch,h.stg,h.stw,h.sto⟩
theorem flagN (h:OrdJ f g W e) {k:Nat} (hk:k<f.s.n):∃ x:Nat,f.node k=(x:Int)∧x<f.s.n+1:=by
 have:=h.rng k hk
 exact ⟨(f.node k).toNat,by omega,by omega⟩
theorem flagE (h:OrdJ f g W e):∃ x:Nat,e=(x:Int)∧x<f.s.n+1:=by
 have:=h.erng
 exact ⟨e.toNat,by omega,by omega⟩
theorem flag (h:OrdJ f g W e) {k:Nat} (hk:k<f.s.n) (hs:f.s.st k=1) (hp:f.pc k=0) {ps:PSta} (hw:ps.ws=f.ps.ws.set ((f.node k).toNat+1) 1) (ha:ps.ac.length=f.ps.ac.length):OrdJ {f with pc:=upd f.pc k 1,ps:=ps} g W e:=by
 have hn:k∉g.toList++W:=λq=>by have:=(h.pc2 k hk).2 q;omega
 obtain ⟨fl,w1,w2,w3,w4⟩:=h.ws
 obtain ⟨x,hx,hx1⟩:=h.flagN hk
 refine ⟨h.n8,h.rng,h.erng,h.inj,h.ne,⟨fl.set x 1,?_,by simpa using w2,λj hj=> ?_,?_⟩,ha.trans h.ac,h.nodup,h.lt,λj hj=> ?_,λj=> ?_,λj hj hq=> ?_,h.ch,h.stg,h.stw,h.sto⟩
 ·show ps.ws=_
  rw [hw,w1,hx]
  rfl
 ·show (fl.set x 1).getD (f.node j).toNat 0=if upd f.pc k 1 j=0 then 0 else 1
  by_cases q:j=k
  ·subst q
   rw [upd_same,hx,Int.toNat_natCast,if_neg (by decide)]
   simp [w2,hx1]
  ·have hne:x≠(f.node j).toNat:=λq2=>q (h.inj j k hj hk (by have:=h.rng j hj;omega))
   rw [upd_other _ _ q,←w3 j hj]
   simp [hne]
 ·have hne:x≠e.toNat:=λq=>h.ne k hk (by have:=h.erng;omega)
  rw [List.getD_eq_getElem?_getD,List.getElem?_set,if_neg hne,←List.getD_eq_getElem?_getD]
  exact w4
 ·show upd f.pc k 1 j=2↔_
  by_cases q:j=k
  ·subst q;rw [upd_same];exact ⟨λq=>by omega,λq=>absurd q hn⟩
  ·rw [upd_other _ _ q];exact h.pc2 j hj
 ·show upd f.pc k 1 j=0∨upd f.pc k 1 j=1∨upd f.pc k 1 j=2
  by_cases q:j=k
  ·subst q;rw [upd_same];exact .inr (.inl rfl)
  ·rw [upd_other _ _ q];exact h.prg j
 ·by_cases q:j=k
  ·subst q;exact hs
  ·have hq:upd f.pc k 1 j=1:=hq
   rw [upd_other _ _ q] at hq
   exact h.pc1 j hj hq
theorem enq (h:OrdJ f g W e) {k:Nat} (hk:k<f.s.n) (hs:f.s.st k=1) (hp:f.pc k=1) {fl:List Int} (hf:f.ps.ws=endN f.node e (g.toList++W)::fl) {ps:PSta} (hw:ps.ws=f.node k::fl) (ha:ps.ac.length=f.ps.ac.length):
  OrdJ {f with pc:=upd f.pc k 2,ahd:=upd f.ahd k (endN f.node e (g.toList++W)),ps:=ps} g (W++[k]) e:=by
 have hn:k∉g.toList++W:=λq=>by have:=(h.pc2 k hk).2 q;omega
 obtain ⟨fl',w1,w2,w3,w4⟩:=h.ws
 rw [hf] at w1
 obtain rfl:fl=fl':=(List.cons.inj w1).2
 refine ⟨h.n8,h.rng,h.erng,h.inj,h.ne,⟨fl,?_,w2,λj hj=> ?_,w4⟩,ha.trans h.ac,?_,?_,?_,?_,?_,?_,h.stg,?_,?_⟩
 ·show ps.ws=endN f.node e (g.toList++(W++[k]))::fl
  rw [←List.append_assoc,endN_more,hw]
 ·show fl.getD (f.node j).toNat 0=if upd f.pc k 2 j=0 then 0 else 1
  rw [w3 j hj]
  by_cases q:j=k
  ·subst q;rw [upd_same,hp,if_neg (by decide),if_neg (by decide)]
  ·rw [upd_other _ _ q]
 ·rw [←List.append_assoc,List.nodup_append]
  exact ⟨h.nodup,by simp,λa h1 b h2 q=>by rw [List.mem_singleton] at h2;subst q;subst h2;exact hn h1⟩
 ·intro j hj
  rw [←List.append_assoc,List.mem_append,List.mem_singleton] at hj
  rcases hj with hj|rfl
  ·exact h.lt j hj
  ·exact hk
 ·intro j hj
  show upd f.pc k 2 j=2↔_
  rw [←List.append_assoc,List.mem_append,List.mem_singleton]
  by_cases q:j=k
  ·subst q;rw [upd_same];simp
  ·rw [upd_other _ _ q,h.pc2 j hj];simp [q]
 ·intro j
  show upd f.pc k 2 j=0∨upd f.pc k 2 j=1∨upd f.pc k 2 j=2
  by_cases q:j=k
  ·subst q;rw [upd_same];exact .inr (.inr rfl)
  ·rw [upd_other _ _ q];exact h.prg j
 ·intro j hj hq
  by_cases q:j=k
  ·subst q;exact hs
  ·have hq:upd f.pc k 2 j=1:=hq
   rw [upd_other _ _ q] at hq
   exact h.pc1 j hj hq
 ·show Chain f.node (upd f.ahd k _) e (g.toList++(W++[k]))
  rw [←List.append_assoc]
  exact chain_more (chain_same h.ch λj hj=>⟨rfl,upd_other _ _ λq=>by subst q;exact hn hj⟩) (upd_same _ _ _)
 ·intro j hj
  rw [List.mem_append,List.mem_singleton] at hj
  rcases hj with hj|rfl
  ·exact h.stw j hj
  ·exact hs
 ·intro j hj hnj
  rw [←List.append_assoc,List.mem_append,not_or] at hnj
  exact h.sto j hj hnj.1
theorem waits (h:OrdJ f g W e) {k:Nat} (hk:k<f.s.n) (hs:f.s.st k=1) (hp:f.pc k=2):k∈W:=by
 rcases List.mem_append.1 ((h.pc2 k hk).1 hp) with hm|hm
 ·have:=h.stg k (by simpa using hm);omega
 ·exact hm
theorem looks (h:OrdJ f g W e) {k:Nat} (hm:k∈W):(g=none∧∃ W',W=k::W'∧f.ahd k=e)∨∃ j,j<f.s.n∧f.pc j=2∧f.ahd k=f.node j:=by
 rcases chain_at h.ch (List.mem_append_right _ hm) with ⟨r,hr,he⟩|⟨j,hj,he⟩
 ·cases g with
  |none=>exact .inl ⟨rfl,r,hr,he⟩
  |some a=>
   obtain rfl:a=k:=(List.cons.inj hr).1
   exact absurd hm (List.nodup_cons.1 h.nodup).1
 ·have hl:=h.lt j hj
  exact .inr ⟨j,hl,(h.pc2 j hl).2 hj,he⟩
theorem grant {k:Nat} (h:OrdJ f none (k::W) e) {ps:PSta} (hw:ps.ws=f.ps.ws) (ha:ps.ac.length=f.ps.ac.length) (d:Int):
  OrdJ {f with s:=f.s.set k 2 d,ps:=ps} (some k) W e:=by
 refine ⟨h.n8,h.rng,h.erng,h.inj,h.ne,by obtain ⟨fl,a⟩:=h.ws;exact ⟨fl,by rw [hw];exact a.1,a.2⟩,ha.trans h.ac,h.nodup,h.lt,h.pc2,h.prg,λj hj hp=> ?_,h.ch,λj hj=> ?_,λj hj=> ?_,λj hj hn=> ?_⟩
 ·show upd f.s.st k 2 j=1
  have hkm:=(h.pc2 k (h.lt k List.mem_cons_self)).2 List.mem_cons_self
  rw [upd_other _ _ (λq=>by subst q;have hp:f.pc j=1:=hp;omega)]
  exact h.pc1 j hj hp
 ·obtain rfl:k=j:=by simpa using hj
  exact .inl (upd_same _ _ _)
 ·show upd f.s.st k 2 j=1
  rw [upd_other _ _ (λq=>by subst q;exact (List.nodup_cons.1 h.nodup).1 hj)]
  exact h.stw j (List.mem_cons_of_mem _ hj)
 ·show upd f.s.st k 2 j=0∨upd f.s.st k 2 j=1
  rw [upd_other _ _ (λq=>by subst q;exact hn (by simp))]
  exact h.sto j hj hn
theorem free {k:Nat} (h:OrdJ f (some k) W e) {ps:PSta} (hw:ps.ws=f.ps.ws.set ((f.node k).toNat+1) 0) (ha:ps.ac.length=f.ps.ac.length) (d:Int):
  OrdJ {f with s:=f.s.set k 0 d,pc:=upd f.pc k 0,node:=upd f.node k (f.ahd k),ahd:=upd f.ahd k 0,ps:=ps} none W (f.node k):=by
 have hnW:k∉W:=(List.nodup_cons.1 h.nodup).1
 have hk:k<f.s.n:=h.lt k List.mem_cons_self
 have hae:f.ahd k=e:=h.ch.1
 obtain ⟨fl,w1,w2,w3,w4⟩:=h.ws
 obtain ⟨x,hx,hx1⟩:=h.flagN hk
 have hxe:x≠e.toNat:=λq=>h.ne k hk (by have:=h.erng;omega)
 rw [hae]
 refine ⟨h.n8,λj hj=> ?_,h.rng k hk,λj i hj hi hq=> ?_,λj hj=> ?_,⟨fl.set x 0,?_,by rw [List.length_set];exact w2,λj hj=> ?_,?_⟩,ha.trans h.ac,(List.nodup_cons.1 h.nodup).2,λj hj=>h.lt j (List.mem_append_right _ hj),λj hj=> ?_,λj=> ?_,λj hj hq=> ?_,?_,λj hj=>(by cases hj),λj hj=> ?_,λj hj hn=> ?_⟩
 ·show 0≤upd f.node k e j∧upd f.node k e j≤_
  by_cases q:j=k
  ·subst q;rw [upd_same];exact h.erng
  ·rw [upd_other _ _ q];exact h.rng j hj
 ·replace hq:upd f.node k e j=upd f.node k e i:=hq
  by_cases q:j=k
  ·by_cases q2:i=k
   ·rw [q,q2]
   ·subst q;rw [upd_same,upd_other _ _ q2] at hq;exact absurd hq.symm (h.ne i hi)
  ·by_cases q2:i=k
   ·subst q2;rw [upd_same,upd_other _ _ q] at hq;exact absurd hq (h.ne j hj)
   ·rw [upd_other _ _ q,upd_other _ _ q2] at hq;exact h.inj j i hj hi hq
 ·show upd f.node k e j≠f.node k
  by_cases q:j=k
  ·subst q;rw [upd_same];exact λq=>h.ne j hj q.symm
  ·rw [upd_other _ _ q];exact λq2=>q (h.inj j k hj hk q2)
 ·show ps.ws=endN (upd f.node k e) (f.node k) W::fl.set x 0
  rw [hw,w1,hx,endN_same (λj hj=>upd_other _ _ λq=>by subst q;exact hnW hj)]
  show _::fl.set (Int.toNat (x:Int)) 0=_
  rw [Int.toNat_natCast,←hx]
  rfl
 ·show (fl.set x 0).getD (upd f.node k e j).toNat 0=if upd f.pc k 0 j=0 then 0 else 1
  by_cases q:j=k
  ·subst q
   rw [upd_same,upd_same,if_pos rfl,List.getD_eq_getElem?_getD,List.getElem?_set,if_neg hxe,←List.getD_eq_getElem?_getD]
   exact w4
  ·have hne:x≠(f.node j).toNat:=λq2=>q (h.inj j k hj hk (by have:=h.rng j hj;omega))
   rw [upd_other _ _ q,upd_other _ _ q,←w3 j hj]
   simp [hne]
 ·show (fl.set x 0).getD (f.node k).toNat 0=0
  rw [hx,Int.toNat_natCast]
  simp [w2,hx1]
 ·show upd f.pc k 0 j=2↔_
  by_cases q:j=k
  ·subst q;rw [upd_same];simp [hnW]
  ·rw [upd_other _ _ q,h.pc2 j hj];simp [q]
 ·show upd f.pc k 0 j=0∨upd f.pc k 0 j=1∨upd f.pc k 0 j=2
  by_cases q:j=k
  ·subst q;rw [upd_same];exact .inl rfl
  ·rw [upd_other _ _ q];exact h.prg j
 ·replace hq:upd f.pc k 0 j=1:=hq
  show upd f.s.st k 0 j=1
  by_cases q:j=k
  ·subst q;rw [upd_same] at hq;omega
  ·rw [upd_other _ _ q] at hq ⊢;exact h.pc1 j hj hq
 ·exact chain_same h.ch.2 λj hj=>⟨upd_other _ _ λq=>by subst q;exact hnW hj,upd_other _ _ λq=>by subst q;exact hnW hj⟩
 ·show upd f.s.st k 0 j=1
  rw [upd_other _ _ (λq=>by subst q;exact hnW hj)]
  exact h.stw j hj
 ·show upd f.s.st k 0 j=0∨upd f.s.st k 0 j=1
  by_cases q:j=k
  ·subst q;rw [upd_same];exact .inl rfl
  ·rw [upd_other _ _ q]
   exact h.sto j hj (by simpa [q] using hn)
theorem at_none {t:Int} (hk:¬ ((0:Int)≤t∧t<f.s.n)):f.did L t t=Dd.no∧f.step L t t=f:=by
 have e:f.did L t t=Dd.no:=by unfold FL.did;rw [if_neg hk]
 have em:f.mid L t t=f:=by unfold FL.mid;rw [if_neg hk]
 refine ⟨e,?_⟩
 have e0:f.s.fin t Dd.no.ev=f.s:=by
  have e0:endO f.s t Dd.no.ev=none:=by unfold endO;rw [if_neg hk]
  unfold SS.fin
  rw [e0]
 unfold FL.step
 rw [e,em,e0]
theorem fin_no (s:SS) (t:Nat):s.fin t Dd.no.ev=s:=fin_none (by
 unfold behindI
 rw [if_neg (λq=>absurd q.2 (by decide)),if_neg (λq=>q.2.elim (λq=>absurd q (by decide)) λq=>absurd q (by decide)),if_neg (λq=>absurd q.2 (by decide)),if_neg (λq=>q.2.elim (λq=>absurd q (by decide)) λq=>absurd q (by decide))])
theorem at_idle {k:Nat} (hk:k<f.s.n) (s1:f.s.st k≠1) (s3:f.s.st k≠3) (s4:f.s.st k≠4):f.did L k k=Dd.no∧f.step L k k=f:=by
 have ht:(0:Int)≤(k:Int)∧(k:Int)<f.s.n:=by omega
 have e:f.did L k k=Dd.no:=by unfold FL.did;rw [if_pos ht,Int.toNat_natCast,if_neg s1,if_neg s3,if_neg s4]
 have em:f.mid L k k=f:=by unfold FL.mid;rw [if_pos ht,Int.toNat_natCast,if_neg s1,if_neg s3,if_neg s4]
 refine ⟨e,?_⟩
 unfold FL.step
 rw [e,em,fin_no]
theorem at_flag (h:OrdJ f g W e) (h2:L.a2=1) {k:Nat} (hk:k<f.s.n) (s1:f.s.st k=1) (hd:f.pc k=0):
  f.did L k k=Dd.no∧f.step L k k={f with pc:=upd f.pc k 1,ps:=doS f.ps k 2 (L.a2+f.node k) 0 1}∧(doS f.ps k 2 (L.a2+f.node k) 0 1).ws=f.ps.ws.set ((f.node k).toNat+1) 1∧(doS f.ps k 2 (L.a2+f.node k) 0 1).ac.length=f.ps.ac.length∧(doS f.ps k 2 (L.a2+f.node k) 0 1).D.length=f.ps.D.length+1:=by
 have ht:(0:Int)≤(k:Int)∧(k:Int)<f.s.n:=by omega
 obtain ⟨x,hx,hx1⟩:=h.flagN hk
 obtain ⟨fl,w1,w2,_⟩:=h.ws
 obtain ⟨b,c,d⟩:=do_store (a:=L.a2+f.node k) (i:=x+1) (v:=1) rfl (show k<f.ps.ac.length by rw [h.ac];exact hk) (by rw [h2,hx];omega) (by rw [w1,List.length_cons,w2];omega)
 have e:f.did L k k=Dd.no:=by unfold FL.did FL.acqD;rw [if_pos ht,Int.toNat_natCast,if_pos s1,if_pos hd]
 have em:f.mid L k k={f with pc:=upd f.pc k 1,ps:=doS f.ps k 2 (L.a2+f.node k) 0 1}:=by unfold FL.mid FL.acq;rw [if_pos ht,Int.toNat_natCast,if_pos s1,if_pos hd]
 refine ⟨e,?_,?_,c,d⟩
 ·unfold FL.step
  rw [e,em,fin_no]
 ·rw [b,hx,Int.toNat_natCast]
theorem at_swap (h:OrdJ f g W e) (h1:L.a1=0) {k:Nat} (hk:k<f.s.n) (s1:f.s.st k=1) (hd:f.pc k=1) {fl:List Int} (hf:f.ps.ws=endN f.node e (g.toList++W)::fl):
  f.did L k k=⟨0,true,false,false⟩∧f.step L k k={f with pc:=upd f.pc k 2,ahd:=upd f.ahd k (endN f.node e (g.toList++W)),ps:=doS f.ps k 3 0 0 (f.node k)}∧(doS f.ps k 3 0 0 (f.node k)).ws=f.node k::fl∧(doS f.ps k 3 0 0 (f.node k)).ac.length=f.ps.ac.length∧(doS f.ps k 3 0 0 (f.node k)).D.length=f.ps.D.length+1:=by
 have ht:(0:Int)≤(k:Int)∧(k:Int)<f.s.n:=by omega
 obtain ⟨a,b,c,d⟩:=do_swap (v:=f.node k) hf (show k<f.ps.ac.length by rw [h.ac];exact hk)
 have e:f.did L k k=⟨0,true,false,false⟩:=by unfold FL.did FL.acqD;rw [if_pos ht,Int.toNat_natCast,if_pos s1,if_neg (by omega),if_pos hd]
 refine ⟨e,?_,b,c,d⟩
 unfold FL.step
 rw [e,fin_none (by rw [s1];rfl)]
 unfold FL.mid FL.acq
 rw [if_pos ht,Int.toNat_natCast,if_pos s1,if_neg (by omega),if_pos hd,h1,a]
theorem at_take {k:Nat} (h:OrdJ f none (k::W) e) (h2:L.a2=1) (hk:k<f.s.n) (s1:f.s.st k=1):
  f.did L k k=⟨1,false,false,false⟩∧f.step L k k={f with s:=f.s.set k 2 0,ps:=doS f.ps k 1 (L.a2+f.ahd k) 0 0}∧(doS f.ps k 1 (L.a2+f.ahd k) 0 0).ws=f.ps.ws∧(doS f.ps k 1 (L.a2+f.ahd k) 0 0).ac.length=f.ps.ac.length∧(doS f.ps k 1 (L.a2+f.ahd k) 0 0).D.length=f.ps.D.length+1:=by
 have ht:(0:Int)≤(k:Int)∧(k:Int)<f.s.n:=by omega
 have hd:f.pc k=2:=(h.pc2 k hk).2 List.mem_cons_self
 have hae:f.ahd k=e:=h.ch.1
 obtain ⟨x,hx,hx1⟩:=h.flagE
 obtain ⟨fl,w1,w2,_,w4⟩:=h.ws
 obtain ⟨a,b,c,d⟩:=do_load (a:=L.a2+f.ahd k) (i:=x+1) rfl (show k<f.ps.ac.length by rw [h.ac];exact hk) (by rw [h2,hae,hx];omega) (by rw [w1,List.length_cons,w2];omega)
 have a0:tellS f.ps k 1 (L.a2+f.ahd k)=0:=by
  rw [a,w1,List.getD_cons_succ]
  rw [hx,Int.toNat_natCast] at w4
  exact w4
 have e:f.did L k k=⟨1,false,false,false⟩:=by unfold FL.did FL.acqD;rw [if_pos ht,Int.toNat_natCast,if_pos s1,if_neg (by omega),if_neg (by omega),if_pos a0]
 refine ⟨e,?_,b,c,d⟩
 unfold FL.step
 rw [e,fin_some hk (by rw [s1];rfl:behindI (f.s.st k) 1=some 2)]
 unfold FL.mid FL.acq
 rw [if_pos ht,Int.toNat_natCast,if_pos s1,if_neg (by omega),if_neg (by omega)]
theorem at_wait (h:OrdJ f g W e) (h2:L.a2=1) {k j:Nat} (hk:k<f.s.n) (s1:f.s.st k=1) (hd:f.pc k=2) (hj:j<f.s.n) (pj:f.pc j=2) (ha:f.ahd k=f.node j):
  f.did L k k=Dd.no∧f.step L k k={f with ps:=doS f.ps k 1 (L.a2+f.ahd k) 0 0}∧(doS f.ps k 1 (L.a2+f.ahd k) 0 0).ws=f.ps.ws∧(doS f.ps k 1 (L.a2+f.ahd k) 0 0).ac.length=f.ps.ac.length∧(doS f.ps k 1 (L.a2+f.ahd k) 0 0).D.length=f.ps.D.length+1∧f.ps.ws.getD ((f.ahd k).toNat+1) 0=1:=by
 have ht:(0:Int)≤(k:Int)∧(k:Int)<f.s.n:=by omega
 obtain ⟨x,hx,hx1⟩:=h.flagN hj
 obtain ⟨fl,w1,w2,w3,w4⟩:=h.ws
 obtain ⟨a,b,c,d⟩:=do_load (a:=L.a2+f.ahd k) (i:=x+1) rfl (show k<f.ps.ac.length by rw [h.ac];exact hk) (by rw [h2,ha,hx];omega) (by rw [w1,List.length_cons,w2];omega)
 have hfl:fl.getD x 0=1:=by
  have:=w3 j hj
  rw [hx,Int.toNat_natCast,pj,if_neg (by decide)] at this
  exact this
 have a0:tellS f.ps k 1 (L.a2+f.ahd k)=1:=by rw [a,w1,List.getD_cons_succ,hfl]
 have e:f.did L k k=Dd.no:=by unfold FL.did FL.acqD;rw [if_pos ht,Int.toNat_natCast,if_pos s1,if_neg (by omega),if_neg (by omega),if_neg (by rw [a0];decide)]
 refine ⟨e,?_,b,c,d,?_⟩
 ·unfold FL.step
  rw [e,fin_no]
  unfold FL.mid FL.acq
  rw [if_pos ht,Int.toNat_natCast,if_pos s1,if_neg (by omega),if_neg (by omega)]
 ·rw [ha,hx,Int.toNat_natCast,w1,List.getD_cons_succ,hfl]
theorem at_free {k:Nat} (h:OrdJ f (some k) W e) (h2:L.a2=1) (hk:k<f.s.n) (s3:f.s.st k=3):
  f.did L k k=⟨3,false,false,false⟩∧f.step L k k={f with s:=f.s.set k 0 0,pc:=upd f.pc k 0,node:=upd f.node k (f.ahd k),ahd:=upd f.ahd k 0,ps:=doS f.ps k 2 (L.a2+f.node k) 0 0}∧(doS f.ps k 2 (L.a2+f.node k) 0 0).ws=f.ps.ws.set ((f.node k).toNat+1) 0∧(doS f.ps k 2 (L.a2+f.node k) 0 0).ac.length=f.ps.ac.length∧(doS f.ps k 2 (L.a2+f.node k) 0 0).D.length=f.ps.D.length+1:=by
 have ht:(0:Int)≤(k:Int)∧(k:Int)<f.s.n:=by omega
 obtain ⟨x,hx,hx1⟩:=h.flagN hk
 obtain ⟨fl,w1,w2,_⟩:=h.ws
 obtain ⟨b,c,d⟩:=do_store (a:=L.a2+f.node k) (i:=x+1) (v:=0) rfl (show k<f.ps.ac.length by rw [h.ac];exact hk) (by rw [h2,hx];omega) (by rw [w1,List.length_cons,w2];omega)
 have e:f.did L k k=⟨3,false,false,false⟩:=by unfold FL.did;rw [if_pos ht,Int.toNat_natCast,if_neg (by omega),if_pos s3]
 refine ⟨e,?_,?_,c,d⟩
 ·unfold FL.step
  rw [e,fin_some hk (by rw [s3];rfl:behindI (f.s.st k) 3=some 0)]
  unfold FL.mid FL.rel
  rw [if_pos ht,Int.toNat_natCast,if_neg (by omega),if_pos s3]
 ·rw [b,hx,Int.toNat_natCast]
theorem at_ask (h:OrdJ f g W e) (h1:L.a1=0) {k:Nat} (hk:k<f.s.n) (s4:f.s.st k=4):
  ∃ ev,(ev=4∨ev=5)∧f.did L k k=⟨ev,false,false,false⟩∧f.step L k k={f with s:=f.s.set k 2 0,ps:=doS f.ps k 1 0 0 0}∧(doS f.ps k 1 0 0 0).ws=f.ps.ws∧(doS f.ps k 1 0 0 0).ac.length=f.ps.ac.length∧(doS f.ps k 1 0 0 0).D.length=f.ps.D.length+1:=by
 have ht:(0:Int)≤(k:Int)∧(k:Int)<f.s.n:=by omega
 obtain ⟨fl,w1,_⟩:=h.ws
 obtain ⟨a,b,c,d⟩:=do_load (a:=0) (i:=0) rfl (show k<f.ps.ac.length by rw [h.ac];exact hk) rfl (by rw [w1,List.length_cons];omega)
 have em:f.mid L k k={f with ps:=doS f.ps k 1 0 0 0}:=by
  unfold FL.mid FL.ask
  rw [if_pos ht,Int.toNat_natCast,if_neg (by omega),if_neg (by omega),if_pos s4,h1]
 have key:∀ ev,ev=4∨ev=5→f.did L k k=⟨ev,false,false,false⟩→f.step L k k={f with s:=f.s.set k 2 0,ps:=doS f.ps k 1 0 0 0}:=λev hev he=>by
  unfold FL.step
  rw [he,em,fin_some hk (by rw [s4];rcases hev with rfl|rfl<;>rfl:behindI (f.s.st k) ev=some 2)]
 by_cases q:tellS f.ps k 1 L.a1=f.node k
 ·have e:f.did L k k=⟨4,false,false,false⟩:=by unfold FL.did FL.askD;rw [if_pos ht,Int.toNat_natCast,if_neg (by omega),if_neg (by omega),if_pos s4,if_pos q]
  exact ⟨4,.inl rfl,e,key 4 (.inl rfl) e,b,c,d⟩
 ·have e:f.did L k k=⟨5,false,false,false⟩:=by unfold FL.did FL.askD;rw [if_pos ht,Int.toNat_natCast,if_neg (by omega),if_neg (by omega),if_pos s4,if_neg q]
  exact ⟨5,.inr rfl,e,key 5 (.inr rfl) e,b,c,d⟩
inductive StepQ (W:List Nat) (t:Int) (d:Dd) (W':List Nat):Prop where
 |same (h0:d.enq=false) (h1:d.ev≠1) (h2:d.ev≠2) (e:W'=W):StepQ W t d W'
 |enq (hd:d=⟨0,true,false,false⟩) (k:Nat) (ht:t=k) (e:W'=W++[k]):StepQ W t d W'
 |grant (hd:d=⟨1,false,false,false⟩) (k:Nat) (ht:t=k) (e:W=k::W') (hn:k∉W'):StepQ W t d W'
theorem step (h:OrdJ f g W e) (h1:L.a1=0) (h2:L.a2=1) (t:Int):
  ∃ g' W' e',OrdJ (f.step L t t) g' W' e'∧(f.step L t t).ps.D.length≤f.ps.D.length+1∧StepQ W t (f.did L t t) W':=by
 by_cases ht:0≤t∧t<f.s.n
 ·obtain ⟨k,rfl⟩:=Int.eq_ofNat_of_zero_le ht.1
  have hk:k<f.s.n:=by omega
  by_cases s1:f.s.st k=1
  ·rcases h.prg k with q|q|q
   ·obtain ⟨d1,d2,d3,d4,d5⟩:=h.at_flag h2 hk s1 q
    rw [d1,d2]
    exact ⟨g,W,e,h.flag hk s1 q d3 d4,Nat.le_of_eq d5,.same rfl (by decide) (by decide) rfl⟩
   ·obtain ⟨fl,w1,_⟩:=h.ws
    obtain ⟨d1,d2,d3,d4,d5⟩:=h.at_swap h1 hk s1 q w1
    rw [d1,d2]
    exact ⟨g,W++[k],e,h.enq hk s1 q w1 d3 d4,Nat.le_of_eq d5,.enq rfl k rfl rfl⟩
   ·have hm:=h.waits hk s1 q
    rcases h.looks hm with ⟨rfl,W',rfl,_⟩|⟨j,hj,pj,ha⟩
    ·obtain ⟨d1,d2,d3,d4,d5⟩:=h.at_take h2 hk s1
     rw [d1,d2]
     exact ⟨some k,W',e,h.grant d3 d4 0,Nat.le_of_eq d5,.grant rfl k rfl rfl (List.nodup_cons.1 h.nodup).1⟩
    ·obtain ⟨d1,d2,d3,d4,d5,_⟩:=h.at_wait h2 hk s1 q hj pj ha
     rw [d1,d2]
     exact ⟨g,W,e,h.psS d3 d4,Nat.le_of_eq d5,.same rfl (by decide) (by decide) rfl⟩
  ·by_cases s3:f.s.st k=3
   ·obtain rfl:=h.held hk (.inr (.inl s3))
    obtain ⟨d1,d2,d3,d4,d5⟩:=h.at_free h2 hk s3
    rw [d1,d2]
    exact ⟨none,W,f.node k,h.free d3 d4 0,Nat.le_of_eq d5,.same rfl (by decide) (by decide) rfl⟩
   ·by_cases s4:f.s.st k=4
    ·have hg:=h.held hk (.inr (.inr s4))
     have hm:k∈g.toList++W:=List.mem_append_left W (by rw [hg];simp)
     have hnW:k∉W:=λhw=>by have:=h.stw k hw;omega
     obtain ⟨ev,hev,d1,d2,d3,d4,d5⟩:=h.at_ask h1 hk s4
     rw [d1,d2]
     refine ⟨g,W,e,(h.psS d3 d4).stS k 2 0 (λq=>absurd hm q) (λq=>absurd q hnW) (λ_=> .inl rfl) (λhp=> ?_),Nat.le_of_eq d5,.same rfl (by rcases hev with rfl|rfl<;>decide) (by rcases hev with rfl|rfl<;>decide) rfl⟩
     have hp:f.pc k=1:=hp
     have:=(h.pc2 k hk).2 hm
     omega
    ·obtain ⟨d1,d2⟩:=at_idle (L:=L) hk s1 s3 s4
     rw [d1,d2]
     exact ⟨g,W,e,h,Nat.le_succ _,.same rfl (by decide) (by decide) rfl⟩
 ·obtain ⟨d1,d2⟩:=at_none (L:=L) ht
  rw [d1,d2]
  exact ⟨g,W,e,h,Nat.le_succ _,.same rfl (by decide) (by decide) rfl⟩
end OrdJ
namespace OrdI
variable {f:FL} {W:List Nat} {L:Lp}
end OrdI
end Go.Proofs.YtkmikkjjnbikdaaGreat.Kc
namespace Go.Proofs.YtkmikkjjnbikdaaGreat.Km
open Go.RowKit
set_option linter.unusedVariables false
set_option maxRecDepth 100000
structure FL where
 s:SS
 pc:Nat→Int
 oth:Nat→Int
 ps:PSta
structure Lp where
 lb:Nat
 p:Nat
 b:Nat
 tb:Nat
 a1:Int
 a2:Int
 q:Place
 hs:List Int
def Lp.nx (L:Lp) (t:Int):Int:=L.a2+2*t
def Lp.lk (L:Lp) (t:Int):Int:=L.a2+2*t+1
def casT (s:PSta) (u a old:Int):Bool:=okT s u a&&casB s.ws a old
def FL.acq (f:FL) (L:Lp) (t:Nat) (u:Int):FL:=
 if f.pc t=0 then {f with pc:=upd f.pc t 1,ps:=doS f.ps u 2 (L.nx t) 0 0}
 else if f.pc t=1 then {f with pc:=upd f.pc t (if tellS f.ps u 3 L.a1=0 then 0 else 2),oth:=upd f.oth t (tellS f.ps u 3 L.a1),ps:=doS f.ps u 3 L.a1 0 ((t:Int)+1)}
 else if f.pc t=2 then {f with pc:=upd f.pc t 3,ps:=doS f.ps u 2 (L.lk t) 0 1}
 else if f.pc t=3 then {f with pc:=upd f.pc t 4,ps:=doS f.ps u 2 (L.nx (f.oth t-1)) 0 ((t:Int)+1)}
 else {f with pc:=upd f.pc t (if tellS f.ps u 1 (L.lk t)=0 then 0 else 4),ps:=doS f.ps u 1 (L.lk t) 0 0}
def FL.acqD (f:FL) (L:Lp) (t:Nat) (u:Int):Dd:=
 if f.pc t=0 then Dd.no
 else if f.pc t=1 then ⟨if tellS f.ps u 3 L.a1=0 then 1 else 0,true,false,false⟩
 else if f.pc t=2 then Dd.no
 else if f.pc t=3 then Dd.no
 else if tellS f.ps u 1 (L.lk t)=0 then ⟨1,false,false,false⟩ else Dd.no
def FL.rel (f:FL) (L:Lp) (t:Nat) (u:Int):FL:=
 if f.pc t=0 then {f with pc:=upd f.pc t (if tellS f.ps u 1 (L.nx t)=0 then 1 else 3),oth:=upd f.oth t (tellS f.ps u 1 (L.nx t)),ps:=doS f.ps u 1 (L.nx t) 0 0}
 else if f.pc t=1 then {f with pc:=upd f.pc t (if casT f.ps u L.a1 ((t:Int)+1)=true then 0 else 2),ps:=doS f.ps u 4 L.a1 ((t:Int)+1) 0}
 else if f.pc t=2 then {f with pc:=upd f.pc t (if tellS f.ps u 1 (L.nx t)=0 then 2 else 3),oth:=upd f.oth t (tellS f.ps u 1 (L.nx t)),ps:=doS f.ps u 1 (L.nx t) 0 0}
 else {f with pc:=upd f.pc t 0,ps:=doS f.ps u 2 (L.lk (f.oth t-1)) 0 0}
def FL.relD (f:FL) (L:Lp) (t:Nat) (u:Int):Dd:=
 if f.pc t=0 then Dd.no
 else if f.pc t=1 then (if casT f.ps u L.a1 ((t:Int)+1)=true then ⟨3,false,false,false⟩ else Dd.no)
 else if f.pc t=2 then Dd.no
 else ⟨3,false,false,false⟩
def FL.ask (f:FL) (L:Lp) (t:Nat) (u:Int):FL:={f with ps:=doS f.ps u 1 (L.nx t) 0 0}
def FL.askD (f:FL) (L:Lp) (t:Nat) (u:Int):Dd:=if tellS f.ps u 1 (L.nx t)=0 then ⟨4,false,false,false⟩ else ⟨5,false,false,false⟩
def FL.mid (f:FL) (L:Lp) (t u:Int):FL:=if 0≤t∧t<f.s.n then (if f.s.st t.toNat=1 then f.acq L t.toNat u else if f.s.st t.toNat=3 then f.rel L t.toNat u else if f.s.st t.toNat=4 then f.ask L t.toNat u else f) else f
def FL.did (f:FL) (L:Lp) (t u:Int):Dd:=if 0≤t∧t<f.s.n then (if f.s.st t.toNat=1 then f.acqD L t.toNat u else if f.s.st t.toNat=3 then f.relD L t.toNat u else if f.s.st t.toNat=4 then f.askD L t.toNat u else Dd.no) else Dd.no
def FL.step (f:FL) (L:Lp) (t u:Int):FL:={f.mid L t u with s:=f.s.fin t (f.did L t u).ev}
def FL.lock (f:FL) (t d:Int):FL:={f with s:=f.s.lock t d}
def FL.turn (f:FL) (t x:Int):FL:={f with s:=f.s.turn t x}
theorem FL.acq_s (f:FL) (L:Lp) (t:Nat) (u:Int):(f.acq L t u).s=f.s:=by unfold FL.acq;repeat' split<;>try rfl
theorem FL.rel_s (f:FL) (L:Lp) (t:Nat) (u:Int):(f.rel L t u).s=f.s:=by unfold FL.rel;repeat' split<;>try rfl
theorem FL.mid_s (f:FL) (L:Lp) (t u:Int):(f.mid L t u).s=f.s:=by
 unfold FL.mid
 repeat' split
 ·exact f.acq_s L _ u
 ·exact f.rel_s L _ u
 all_goals rfl
def Lnk (pc oth N K:Nat→Int) (i j:Nat):Prop:=
 (pc j=2∧oth j=(i:Int)+1∧N i=0)∨(pc j=3∧oth j=(i:Int)+1∧K j=1∧N i=0)∨(pc j=4∧K j=1∧N i=(j:Int)+1)
def Chn (pc oth N K:Nat→Int):List Nat→Prop
 |[]=>True
 |[k]=>N k=0
 |i::j::r=>Lnk pc oth N K i j∧Chn pc oth N K (j::r)
def lastM:Int→List Nat→Int
 |e,[]=>e
 |_,k::r=>lastM ((k:Int)+1) r
theorem lastM_more (e:Int) (Q:List Nat) (k:Nat):lastM e (Q++[k])=(k:Int)+1:=by
 induction Q generalizing e with
 |nil=>rfl
 |cons a r ih=>exact ih _
theorem lastM_pos (e:Int) (k:Nat) (r:List Nat):∃ j∈k::r,lastM e (k::r)=(j:Int)+1:=by
 induction r generalizing e k with
 |nil=>exact ⟨k,List.mem_cons_self,rfl⟩
 |cons a r ih=>
  obtain ⟨j,hj,h⟩:=ih ((k:Int)+1) a
  exact ⟨j,List.mem_cons_of_mem _ hj,h⟩
section
variable {pc oth N K pc' oth' N' K':Nat→Int}
theorem chn_same {Q:List Nat} (h:Chn pc oth N K Q) (hN:∀ j∈Q,N' j=N j) (hs:∀ j∈Q.tail,pc' j=pc j∧oth' j=oth j∧K' j=K j):Chn pc' oth' N' K' Q:=by
 induction Q with
 |nil=>trivial
 |cons i r ih=>
  cases r with
  |nil=>exact (hN i List.mem_cons_self).trans h
  |cons j r=>
   obtain ⟨a,b,c⟩:=hs j List.mem_cons_self
   refine ⟨?_,ih h.2 (λx hx=>hN x (List.mem_cons_of_mem _ hx)) λx hx=>hs x (List.mem_cons_of_mem _ hx)⟩
   have h1:=h.1
   unfold Lnk at h1 ⊢
   rw [a,b,c,hN i List.mem_cons_self]
   exact h1
theorem chn_lkd {Q:List Nat} (h:Chn pc oth N K Q) (hn:Q.Nodup) {k:Nat} (hk:k∈Q.tail) (hp:pc k=2):Chn (upd pc k 3) oth N (upd K k 1) Q:=by
 induction Q with
 |nil=>cases hk
 |cons i r ih=>
  cases r with
  |nil=>cases hk
  |cons j r=>
   have hk:k∈j::r:=hk
   by_cases e:j=k
   ·subst e
    have hnr:j∉r:=(List.nodup_cons.1 (List.nodup_cons.1 hn).2).1
    refine ⟨?_,chn_same h.2 (λ_ _=>rfl) λx hx=> ?_⟩
    ·rcases h.1 with a|a|a
     ·exact .inr (.inl ⟨upd_same _ _ _,a.2.1,upd_same _ _ _,a.2.2⟩)
     ·omega
     ·omega
    ·have hx:x∈r:=hx
     have e2:x≠j:=λq=>hnr (q▸hx)
     exact ⟨upd_other _ _ e2,rfl,upd_other _ _ e2⟩
   ·have hk2:k∈r:=by rcases List.mem_cons.1 hk with q|q;exact absurd q.symm e;exact q
    refine ⟨?_,ih h.2 (List.nodup_cons.1 hn).2 hk2⟩
    have h1:=h.1
    unfold Lnk at h1 ⊢
    rw [upd_other _ _ e,upd_other _ _ e]
    exact h1
theorem chn_ahead {Q:List Nat} (h:Chn pc oth N K Q) (hn:Q.Nodup) {k:Nat} (hk:k∈Q.tail) (hp:pc k=2∨pc k=3):∃ i∈Q,i≠k∧oth k=(i:Int)+1:=by
 induction Q with
 |nil=>cases hk
 |cons i r ih=>
  cases r with
  |nil=>cases hk
  |cons j r=>
   have hk:k∈j::r:=hk
   by_cases e:j=k
   ·subst e
    refine ⟨i,List.mem_cons_self,λq=>(List.nodup_cons.1 hn).1 (q▸hk),?_⟩
    rcases h.1 with a|a|a
    ·exact a.2.1
    ·exact a.2.1
    ·omega
   ·have hk2:k∈r:=by rcases List.mem_cons.1 hk with q|q;exact absurd q.symm e;exact q
    obtain ⟨i2,a,b,c⟩:=ih h.2 (List.nodup_cons.1 hn).2 hk2
    exact ⟨i2,List.mem_cons_of_mem _ a,b,c⟩
theorem chn_nxt {Q:List Nat} (h:Chn pc oth N K Q) (hn:Q.Nodup) {k i:Nat} (hk:k∈Q.tail) (hp:pc k=3) (hi:oth k=(i:Int)+1):Chn (upd pc k 4) oth (upd N i ((k:Int)+1)) K Q:=by
 induction Q with
 |nil=>cases hk
 |cons i0 r ih=>
  cases r with
  |nil=>cases hk
  |cons j r=>
   have hk:k∈j::r:=hk
   have hi0:i0∉j::r:=(List.nodup_cons.1 hn).1
   by_cases e:j=k
   ·subst e
    have hnr:j∉r:=(List.nodup_cons.1 (List.nodup_cons.1 hn).2).1
    have e0:i=i0∧K j=1:=by
     rcases h.1 with a|a|a
     ·omega
     ·have:=a.2.1;exact ⟨by omega,a.2.2.1⟩
     ·omega
    obtain ⟨rfl,eK⟩:=e0
    refine ⟨.inr (.inr ⟨upd_same _ _ _,eK,upd_same _ _ _⟩),chn_same h.2 (λx hx=>upd_other _ _ λq=>hi0 (q▸hx)) λx hx=> ?_⟩
    have hx:x∈r:=hx
    exact ⟨upd_other _ _ λq=>hnr (q▸hx),rfl,rfl⟩
   ·have hk2:k∈r:=by rcases List.mem_cons.1 hk with q|q;exact absurd q.symm e;exact q
    obtain ⟨i2,a,b,c⟩:=chn_ahead h.2 (List.nodup_cons.1 hn).2 (k:=k) hk2 (.inr hp)
    have e2:i2=i:=by omega
    subst e2
    refine ⟨?_,ih h.2 (List.nodup_cons.1 hn).2 hk2⟩
    have h1:=h.1
    unfold Lnk at h1 ⊢
    rw [upd_other _ _ e,upd_other _ _ λq=>hi0 (by rw [q];exact a)]
    exact h1
theorem chn_more {Q:List Nat} (h:Chn pc oth N K Q) (h0:Q≠[]) {k:Nat} (hk:k∉Q) (hp:pc k=2) (ho:oth k=lastM 0 Q) (hN:N k=0):Chn pc oth N K (Q++[k]):=by
 have key:∀ (Q:List Nat) (e:Int),Chn pc oth N K Q→Q≠[]→oth k=lastM e Q→Chn pc oth N K (Q++[k]):=by
  intro Q
  induction Q with
  |nil=>intro e _ h0;exact absurd rfl h0
  |cons i r ih=>
   intro e h _ ho
   cases r with
   |nil=>exact ⟨.inl ⟨hp,ho,h⟩,hN⟩
   |cons j r=>exact ⟨h.1,ih ((i:Int)+1) h.2 (by simp) ho⟩
 exact key Q 0 h h0 ho
theorem chn_rest {k:Nat} {Q:List Nat} (h:Chn pc oth N K (k::Q)):Chn pc oth N K Q:=by
 cases Q with
 |nil=>trivial
 |cons j r=>exact h.2
theorem chn_at {Q:List Nat} (h:Chn pc oth N K Q) {k:Nat} (hk:k∈Q.tail):pc k=2∨pc k=3∨(pc k=4∧K k=1):=by
 induction Q with
 |nil=>cases hk
 |cons i r ih=>
  cases r with
  |nil=>cases hk
  |cons j r=>
   have hk:k∈j::r:=hk
   by_cases e:j=k
   ·subst e
    rcases h.1 with a|a|a
    ·exact .inl a.1
    ·exact .inr (.inl a.1)
    ·exact .inr (.inr ⟨a.1,a.2.1⟩)
   ·have hk2:k∈r:=by rcases List.mem_cons.1 hk with q|q;exact absurd q.symm e;exact q
    exact ih h.2 hk2
end
structure Cor (n:Nat) (st pc oth:Nat→Int) (T:Int) (N K:Nat→Int) (g:Option Nat) (W:List Nat):Prop where
 nodup:(g.toList++W).Nodup
 lt:∀ k∈g.toList++W,k<n
 tl:T=lastM 0 (g.toList++W)
 prg:∀ j,0≤pc j∧pc j≤4
 inq:∀ j,j<n→st j=1→(2≤pc j↔j∈g.toList++W)
 pcI:∀ j,j<n→st j≠1→st j≠3→pc j=0
 pc3:∀ j,j<n→st j=3→pc j≤3
 stg:∀ k,g=some k→st k=2∨st k=3∨st k=4
 stw:∀ k∈W,st k=1
 sto:∀ k,k<n→k∉g.toList++W→st k=0∨st k=1
 ch:Chn pc oth N K (g.toList++W)
 out:∀ j,j<n→st j=1→pc j=1→N j=0
 hd:g=none→∀ k r,W=k::r→pc k=4∧K k=0
 un2:∀ k,g=some k→st k=3→pc k=2→W≠[]
 un3:∀ k,g=some k→st k=3→pc k=3→∃ j r,W=j::r∧oth k=(j:Int)+1∧pc j=4
namespace Cor
variable {n:Nat} {st pc oth:Nat→Int} {T:Int} {N K:Nat→Int} {g:Option Nat} {W:List Nat}
theorem held (h:Cor n st pc oth T N K g W) {k:Nat} (hk:k<n) (hs:st k=2∨st k=3∨st k=4):g=some k:=by
 by_cases hm:k∈g.toList++W
 ·rcases List.mem_append.1 hm with hm|hm
  ·simpa using hm
  ·have:=h.stw k hm;omega
 ·have:=h.sto k hk hm;omega
theorem idle (h:Cor n st pc oth T N K g W) {k:Nat} (hs:st k=0):k∉g.toList++W:=λhm=>by
 rcases List.mem_append.1 hm with hm|hm
 ·have:=h.stg k (by simpa using hm);omega
 ·have:=h.stw k hm;omega
theorem away (h:Cor n st pc oth T N K g W) {k:Nat} (hk:k<n) (hs:st k=1) (hp:pc k<2):k∉g.toList++W:=λhm=>by
 have:=(h.inq k hk hs).2 hm;omega
theorem waits (h:Cor n st pc oth T N K g W) {k:Nat} (hk:k<n) (hs:st k=1) (hp:2≤pc k):k∈W:=by
 rcases List.mem_append.1 ((h.inq k hk hs).1 hp) with hm|hm
 ·have:=h.stg k (by simpa using hm);omega
 ·exact hm
theorem notW {k:Nat} (h:Cor n st pc oth T N K (some k) W):k∉W:=(List.nodup_cons.1 h.nodup).1
theorem behind (h:Cor n st pc oth T N K g W) {k:Nat} (hm:k∈W) (hne:g=none→∀ r,W≠k::r):k∈(g.toList++W).tail:=by
 cases g with
 |some a=>exact hm
 |none=>
  cases W with
  |nil=>cases hm
  |cons j r=>
   rcases List.mem_cons.1 hm with rfl|hm
   ·exact absurd rfl (hne rfl r)
   ·exact hm
theorem lock (h:Cor n st pc oth T N K g W) {k:Nat} (hk:k<n) (s0:st k=0):Cor n (upd st k 1) pc oth T N K g W:=by
 have hn:=h.idle s0
 have p0:=h.pcI k hk (by omega) (by omega)
 refine ⟨h.nodup,h.lt,h.tl,h.prg,λj hj hs=> ?_,λj hj h1 h3=> ?_,λj hj hs=> ?_,λj hj=> ?_,λj hj=> ?_,λj hj hnj=> ?_,h.ch,λj hj hs hp=> ?_,h.hd,λj hj hs=> ?_,λj hj hs=> ?_⟩
 ·by_cases e:j=k
  ·subst e;exact ⟨λq=>by omega,λq=>absurd q hn⟩
  ·rw [upd_other _ _ e] at hs;exact h.inq j hj hs
 ·by_cases e:j=k
  ·subst e;exact p0
  ·rw [upd_other _ _ e] at h1 h3;exact h.pcI j hj h1 h3
 ·by_cases e:j=k
  ·subst e;omega
  ·rw [upd_other _ _ e] at hs;exact h.pc3 j hj hs
 ·rw [upd_other _ _ λe=>hn (by subst e;exact List.mem_append_left _ (by rw [hj];simp))];exact h.stg j hj
 ·rw [upd_other _ _ λe=>hn (by subst e;exact List.mem_append_right _ hj)];exact h.stw j hj
 ·by_cases e:j=k
  ·subst e;rw [upd_same];exact .inr rfl
  ·rw [upd_other _ _ e];exact h.sto j hj hnj
 ·by_cases e:j=k
  ·subst e;omega
  ·rw [upd_other _ _ e] at hs;exact h.out j hj hs hp
 ·have e:j≠k:=λe=>hn (by subst e;exact List.mem_append_left _ (by rw [hj];simp))
  rw [upd_other _ _ e] at hs;exact h.un2 j hj hs
 ·have e:j≠k:=λe=>hn (by subst e;exact List.mem_append_left _ (by rw [hj];simp))
  rw [upd_other _ _ e] at hs;exact h.un3 j hj hs
theorem turn (h:Cor n st pc oth T N K g W) {k:Nat} (hk:k<n) (s2:st k=2∨st k=4) {x:Int} (hx:x=2∨x=3∨x=4):Cor n (upd st k x) pc oth T N K g W:=by
 have hg:=h.held hk (by omega)
 subst hg
 have p0:=h.pcI k hk (by omega) (by omega)
 have hnW:=h.notW
 refine ⟨h.nodup,h.lt,h.tl,h.prg,λj hj hs=> ?_,λj hj h1 h3=> ?_,λj hj hs=> ?_,λj hj=> ?_,λj hj=> ?_,λj hj hnj=> ?_,h.ch,λj hj hs hp=> ?_,h.hd,λj hj hs hp=> ?_,λj hj hs hp=> ?_⟩
 ·by_cases e:j=k
  ·subst e;rw [upd_same] at hs;omega
  ·rw [upd_other _ _ e] at hs;exact h.inq j hj hs
 ·by_cases e:j=k
  ·subst e;exact p0
  ·rw [upd_other _ _ e] at h1 h3;exact h.pcI j hj h1 h3
 ·by_cases e:j=k
  ·subst e;omega
  ·rw [upd_other _ _ e] at hs;exact h.pc3 j hj hs
 ·obtain rfl:k=j:=Option.some.inj hj
  rw [upd_same];exact hx
 ·rw [upd_other _ _ λe=>hnW (by subst e;exact hj)];exact h.stw j hj
 ·rw [upd_other _ _ λe=>hnj (by subst e;simp)];exact h.sto j hj hnj
 ·by_cases e:j=k
  ·subst e;omega
  ·rw [upd_other _ _ e] at hs;exact h.out j hj hs hp
 ·obtain rfl:k=j:=Option.some.inj hj
  omega
 ·obtain rfl:k=j:=Option.some.inj hj
  omega
theorem nxt0 (h:Cor n st pc oth T N K g W) {k:Nat} (hk:k<n) (s1:st k=1) (p0:pc k=0):Cor n st (upd pc k 1) oth T (upd N k 0) K g W:=by
 have hn:=h.away hk s1 (by omega)
 have ne:∀ j∈g.toList++W,j≠k:=λj hj e=>hn (by subst e;exact hj)
 refine ⟨h.nodup,h.lt,h.tl,λj=> ?_,λj hj hs=> ?_,λj hj h1 h3=> ?_,λj hj hs=> ?_,h.stg,h.stw,h.sto,?_,λj hj hs hp=> ?_,λhg a r hW=> ?_,λj hj hs hp=> ?_,λj hj hs hp=> ?_⟩
 ·by_cases e:j=k
  ·subst e;rw [upd_same];omega
  ·rw [upd_other _ _ e];exact h.prg j
 ·by_cases e:j=k
  ·subst e;rw [upd_same];exact ⟨λq=>by omega,λq=>absurd q hn⟩
  ·rw [upd_other _ _ e];exact h.inq j hj hs
 ·rw [upd_other _ _ λe=>h1 (by rw [e];exact s1)];exact h.pcI j hj h1 h3
 ·rw [upd_other _ _ λe=>by subst e;omega];exact h.pc3 j hj hs
 ·exact chn_same h.ch (λj hj=>upd_other _ _ (ne j hj)) λj hj=>⟨upd_other _ _ (ne j (List.mem_of_mem_tail hj)),rfl,rfl⟩
 ·by_cases e:j=k
  ·subst e;rw [upd_same]
  ·rw [upd_other _ _ e] at hp ⊢;exact h.out j hj hs hp
 ·have:=h.hd hg a r hW
  rw [upd_other _ _ (ne a (List.mem_append_right _ (by rw [hW];simp)))];exact this
 ·rw [upd_other _ _ λe=>by subst e;omega] at hp;exact h.un2 j hj hs hp
 ·rw [upd_other _ _ λe=>by subst e;omega] at hp
  obtain ⟨a,r,q1,q2,q3⟩:=h.un3 j hj hs hp
  exact ⟨a,r,q1,q2,by rw [upd_other _ _ (ne a (List.mem_append_right _ (by rw [q1];simp)))];exact q3⟩
theorem enq0 (h:Cor n st pc oth T N K none []) {k:Nat} (hk:k<n) (s1:st k=1) (p1:pc k=1) (x:Int):Cor n (upd st k 2) (upd pc k 0) (upd oth k x) ((k:Int)+1) N K (some k) []:=by
 have n0:=h.out k hk s1 p1
 refine ⟨by simp,λj hj=> ?_,rfl,λj=> ?_,λj hj hs=> ?_,λj hj h1 h3=> ?_,λj hj hs=> ?_,λj hj=> ?_,λj hj=>(by cases hj),λj hj hnj=> ?_,n0,λj hj hs hp=> ?_,λhg=>(by cases hg),λj hj hs hp=> ?_,λj hj hs hp=> ?_⟩
 ·obtain rfl:j=k:=by simpa using hj
  exact hk
 ·by_cases e:j=k
  ·subst e;rw [upd_same];omega
  ·rw [upd_other _ _ e];exact h.prg j
 ·by_cases e:j=k
  ·subst e;rw [upd_same] at hs;omega
  ·rw [upd_other _ _ e] at hs ⊢
   have:=h.inq j hj hs
   simp at this ⊢
   exact ⟨λq=>by omega,λq=>absurd q e⟩
 ·by_cases e:j=k
  ·subst e;rw [upd_same]
  ·rw [upd_other _ _ e] at h1 h3 ⊢;exact h.pcI j hj h1 h3
 ·by_cases e:j=k
  ·subst e;rw [upd_same];omega
  ·rw [upd_other _ _ e] at hs ⊢;exact h.pc3 j hj hs
 ·obtain rfl:k=j:=Option.some.inj hj
  rw [upd_same];exact .inl rfl
 ·rw [upd_other _ _ λe=>hnj (by subst e;simp)];exact h.sto j hj (by simp)
 ·by_cases e:j=k
  ·subst e;rw [upd_same] at hs;omega
  ·rw [upd_other _ _ e] at hs hp;exact h.out j hj hs hp
 ·obtain rfl:k=j:=Option.some.inj hj
  rw [upd_same] at hs;omega
 ·obtain rfl:k=j:=Option.some.inj hj
  rw [upd_same] at hs;omega
theorem enq (h:Cor n st pc oth T N K g W) (h0:g.toList++W≠[]) {k:Nat} (hk:k<n) (s1:st k=1) (p1:pc k=1):Cor n st (upd pc k 2) (upd oth k T) ((k:Int)+1) N K g (W++[k]):=by
 have hn:=h.away hk s1 (by omega)
 have ne:∀ j∈g.toList++W,j≠k:=λj hj e=>hn (by subst e;exact hj)
 have n0:=h.out k hk s1 p1
 have mem:∀ j,j∈g.toList++(W++[k])↔j∈g.toList++W∨j=k:=λj=>by rw [←List.append_assoc,List.mem_append,List.mem_singleton]
 refine ⟨?_,λj hj=> ?_,by rw [←List.append_assoc,lastM_more],λj=> ?_,λj hj hs=> ?_,λj hj h1 h3=> ?_,λj hj hs=> ?_,h.stg,λj hj=> ?_,λj hj hnj=> ?_,?_,λj hj hs hp=> ?_,λhg a r hW=> ?_,λj hj hs hp=>by simp,λj hj hs hp=> ?_⟩
 ·rw [←List.append_assoc,List.nodup_append]
  exact ⟨h.nodup,by simp,λa h1 b h2 q=>by rw [List.mem_singleton] at h2;subst q;subst h2;exact hn h1⟩
 ·rcases (mem j).1 hj with hj|rfl
  ·exact h.lt j hj
  ·exact hk
 ·by_cases e:j=k
  ·subst e;rw [upd_same];omega
  ·rw [upd_other _ _ e];exact h.prg j
 ·rw [mem]
  by_cases e:j=k
  ·subst e;rw [upd_same];simp
  ·rw [upd_other _ _ e,h.inq j hj hs];simp [e]
 ·rw [upd_other _ _ λe=>h1 (by rw [e];exact s1)];exact h.pcI j hj h1 h3
 ·rw [upd_other _ _ λe=>by subst e;omega];exact h.pc3 j hj hs
 ·rcases List.mem_append.1 hj with hj|hj
  ·exact h.stw j hj
  ·obtain rfl:j=k:=by simpa using hj
   exact s1
 ·rw [mem,not_or] at hnj;exact h.sto j hj hnj.1
 ·rw [←List.append_assoc]
  exact chn_more (chn_same h.ch (λ_ _=>rfl) λj hj=>⟨upd_other _ _ (ne j (List.mem_of_mem_tail hj)),upd_other _ _ (ne j (List.mem_of_mem_tail hj)),rfl⟩) h0 hn (upd_same _ _ _) ((upd_same _ _ _).trans h.tl) n0
 ·by_cases e:j=k
  ·subst e;exact n0
  ·rw [upd_other _ _ e] at hp;exact h.out j hj hs hp
 ·subst hg
  cases W with
  |nil=>exact absurd rfl h0
  |cons b r2=>
   obtain rfl:b=a:=(List.cons.inj hW).1
   rw [upd_other _ _ (ne b (by simp))]
   exact h.hd rfl b r2 rfl
 ·rw [upd_other _ _ λe=>by subst e;omega] at hp
  obtain ⟨a,r,q1,q2,q3⟩:=h.un3 j hj hs hp
  refine ⟨a,r++[k],by rw [q1];rfl,?_,?_⟩
  ·rw [upd_other _ _ (ne j (List.mem_append_left _ (by rw [hj];simp)))];exact q2
  ·rw [upd_other _ _ (ne a (List.mem_append_right _ (by rw [q1];simp)))];exact q3
theorem late (h:Cor n st pc oth T N K g W) {k:Nat} (hm:k∈W) (hp:pc k≠4∨K k≠0):k∈(g.toList++W).tail:=
 h.behind hm λhg r hW=>by
  have:=h.hd hg k r hW
  rcases hp with q|q
  ·exact q this.1
  ·exact q this.2
theorem lkd (h:Cor n st pc oth T N K g W) {k:Nat} (hk:k<n) (s1:st k=1) (p2:pc k=2):Cor n st (upd pc k 3) oth T N (upd K k 1) g W:=by
 have hm:=h.waits hk s1 (by omega)
 have hb:=h.late hm (.inl (by omega))
 refine ⟨h.nodup,h.lt,h.tl,λj=> ?_,λj hj hs=> ?_,λj hj h1 h3=> ?_,λj hj hs=> ?_,h.stg,h.stw,h.sto,chn_lkd h.ch h.nodup hb p2,λj hj hs hp=> ?_,λhg a r hW=> ?_,λj hj hs hp=> ?_,λj hj hs hp=> ?_⟩
 ·by_cases e:j=k
  ·subst e;rw [upd_same];omega
  ·rw [upd_other _ _ e];exact h.prg j
 ·by_cases e:j=k
  ·subst e;rw [upd_same];exact ⟨λ_=>List.mem_append_right _ hm,λ_=>by omega⟩
  ·rw [upd_other _ _ e];exact h.inq j hj hs
 ·rw [upd_other _ _ λe=>h1 (by rw [e];exact s1)];exact h.pcI j hj h1 h3
 ·rw [upd_other _ _ λe=>by subst e;omega];exact h.pc3 j hj hs
 ·by_cases e:j=k
  ·subst e;rw [upd_same] at hp;omega
  ·rw [upd_other _ _ e] at hp;exact h.out j hj hs hp
 ·have:=h.hd hg a r hW
  have e:a≠k:=λe=>by subst e;omega
  rw [upd_other _ _ e,upd_other _ _ e];exact this
 ·rw [upd_other _ _ λe=>by subst e;omega] at hp;exact h.un2 j hj hs hp
 ·rw [upd_other _ _ λe=>by subst e;omega] at hp
  obtain ⟨a,r,q1,q2,q3⟩:=h.un3 j hj hs hp
  exact ⟨a,r,q1,q2,by rw [upd_other _ _ λe=>by subst e;omega];exact q3⟩
theorem ahead (h:Cor n st pc oth T N K g W) {k:Nat} (hk:k<n) (s1:st k=1) (p3:pc k=2∨pc k=3):∃ i,i<n∧oth k=(i:Int)+1:=by
 have hm:=h.waits hk s1 (by omega)
 obtain ⟨i,a,_,c⟩:=chn_ahead h.ch h.nodup (h.late hm (.inl (by omega))) p3
 exact ⟨i,h.lt i a,c⟩
theorem nxt (h:Cor n st pc oth T N K g W) {k i:Nat} (hk:k<n) (s1:st k=1) (p3:pc k=3) (hi:oth k=(i:Int)+1):Cor n st (upd pc k 4) oth T (upd N i ((k:Int)+1)) K g W:=by
 have hm:=h.waits hk s1 (by omega)
 have hb:=h.late hm (.inl (by omega))
 obtain ⟨i2,ia,_,ic⟩:=chn_ahead h.ch h.nodup hb (.inr p3)
 obtain rfl:i2=i:=by omega
 refine ⟨h.nodup,h.lt,h.tl,λj=> ?_,λj hj hs=> ?_,λj hj h1 h3=> ?_,λj hj hs=> ?_,h.stg,h.stw,h.sto,chn_nxt h.ch h.nodup hb p3 hi,λj hj hs hp=> ?_,λhg a r hW=> ?_,λj hj hs hp=> ?_,λj hj hs hp=> ?_⟩
 ·by_cases e:j=k
  ·subst e;rw [upd_same];omega
  ·rw [upd_other _ _ e];exact h.prg j
 ·by_cases e:j=k
  ·subst e;rw [upd_same];exact ⟨λ_=>List.mem_append_right _ hm,λ_=>by omega⟩
  ·rw [upd_other _ _ e];exact h.inq j hj hs
 ·rw [upd_other _ _ λe=>h1 (by rw [e];exact s1)];exact h.pcI j hj h1 h3
 ·rw [upd_other _ _ λe=>by subst e;omega];exact h.pc3 j hj hs
 ·by_cases e:j=k
  ·subst e;rw [upd_same] at hp;omega
  ·rw [upd_other _ _ e] at hp
   rw [upd_other _ _ λq=>h.away hj hs (by omega) (by rw [q];exact ia)]
   exact h.out j hj hs hp
 ·have:=h.hd hg a r hW
  have e:a≠k:=λe=>by subst e;omega
  rw [upd_other _ _ e];exact this
 ·rw [upd_other _ _ λe=>by subst e;omega] at hp;exact h.un2 j hj hs hp
 ·rw [upd_other _ _ λe=>by subst e;omega] at hp
  obtain ⟨a,r,q1,q2,q3⟩:=h.un3 j hj hs hp
  exact ⟨a,r,q1,q2,by rw [upd_other _ _ λe=>by subst e;omega];exact q3⟩
theorem looks (h:Cor n st pc oth T N K g W) {k:Nat} (hk:k<n) (s1:st k=1) (p4:pc k=4):(g=none∧∃ r,W=k::r∧K k=0)∨K k=1:=by
 have hm:=h.waits hk s1 (by omega)
 by_cases q:g=none∧∃ r,W=k::r
 ·obtain ⟨hg,r,hW⟩:=q
  exact .inl ⟨hg,r,hW,(h.hd hg k r hW).2⟩
 ·have hb:=h.behind hm λhg r hW=>q ⟨hg,r,hW⟩
  rcases chn_at h.ch hb with a|a|a
  ·omega
  ·omega
  ·exact .inr a.2
theorem grant {k:Nat} (h:Cor n st pc oth T N K none (k::W)):Cor n (upd st k 2) (upd pc k 0) oth T N K (some k) W:=by
 have hn:k∉W:=(List.nodup_cons.1 h.nodup).1
 have hk:k<n:=h.lt k (by simp)
 refine ⟨h.nodup,h.lt,h.tl,λj=> ?_,λj hj hs=> ?_,λj hj h1 h3=> ?_,λj hj hs=> ?_,λj hj=> ?_,λj hj=> ?_,λj hj hnj=> ?_,?_,λj hj hs hp=> ?_,λhg=>(by cases hg),λj hj hs hp=> ?_,λj hj hs hp=> ?_⟩
 ·by_cases e:j=k
  ·subst e;rw [upd_same];omega
  ·rw [upd_other _ _ e];exact h.prg j
 ·by_cases e:j=k
  ·subst e;rw [upd_same] at hs;omega
  ·rw [upd_other _ _ e] at hs ⊢;exact h.inq j hj hs
 ·by_cases e:j=k
  ·subst e;rw [upd_same]
  ·rw [upd_other _ _ e] at h1 h3 ⊢;exact h.pcI j hj h1 h3
 ·by_cases e:j=k
  ·subst e;rw [upd_same];omega
  ·rw [upd_other _ _ e] at hs ⊢;exact h.pc3 j hj hs
 ·obtain rfl:k=j:=Option.some.inj hj
  rw [upd_same];exact .inl rfl
 ·rw [upd_other _ _ λe=>hn (by subst e;exact hj)];exact h.stw j (List.mem_cons_of_mem _ hj)
 ·rw [upd_other _ _ λe=>hnj (by subst e;simp)];exact h.sto j hj hnj
 ·exact chn_same h.ch (λ_ _=>rfl) λj hj=>⟨upd_other _ _ λe=>hn (by subst e;exact hj),rfl,rfl⟩
 ·by_cases e:j=k
  ·subst e;rw [upd_same] at hs;omega
  ·rw [upd_other _ _ e] at hs hp;exact h.out j hj hs hp
 ·obtain rfl:k=j:=Option.some.inj hj
  rw [upd_same] at hs;omega
 ·obtain rfl:k=j:=Option.some.inj hj
  rw [upd_same] at hs;omega
theorem nextOf {k:Nat} (h:Cor n st pc oth T N K (some k) W):(W=[]∧N k=0)∨∃ j r,W=j::r∧((N k=0∧(pc j=2∨pc j=3))∨(N k=(j:Int)+1∧pc j=4∧K j=1)):=by
 cases W with
 |nil=>exact .inl ⟨rfl,h.ch⟩
 |cons j r=>
  refine .inr ⟨j,r,rfl,?_⟩
  rcases h.ch.1 with a|a|a
  ·exact .inl ⟨a.2.2,.inl a.1⟩
  ·exact .inl ⟨a.2.2.2,.inr a.1⟩
  ·exact .inr ⟨a.2.2,a.1,a.2.1⟩
theorem unl {k:Nat} (h:Cor n st pc oth T N K (some k) W) (s3:st k=3) {p x:Int} (hp0:0≤p∧p≤3) (h2:p=2→W≠[]) (h3:p=3→∃ j r,W=j::r∧x=(j:Int)+1∧pc j=4):Cor n st (upd pc k p) (upd oth k x) T N K (some k) W:=by
 have hn:=h.notW
 have hne:∀ j∈W,j≠k:=λj hj e=>hn (by subst e;exact hj)
 refine ⟨h.nodup,h.lt,h.tl,λj=> ?_,λj hj hs=> ?_,λj hj h1 h3=> ?_,λj hj hs=> ?_,h.stg,h.stw,h.sto,?_,λj hj hs hp=> ?_,λhg=>(by cases hg),λj hj hs hp=> ?_,λj hj hs hp=> ?_⟩
 ·by_cases e:j=k
  ·subst e;rw [upd_same];omega
  ·rw [upd_other _ _ e];exact h.prg j
 ·rw [upd_other _ _ λe=>by subst e;omega];exact h.inq j hj hs
 ·rw [upd_other _ _ λe=>by subst e;omega];exact h.pcI j hj h1 h3
 ·by_cases e:j=k
  ·subst e;rw [upd_same];omega
  ·rw [upd_other _ _ e];exact h.pc3 j hj hs
 ·exact chn_same h.ch (λ_ _=>rfl) λj hj=>⟨upd_other _ _ (hne j hj),upd_other _ _ (hne j hj),rfl⟩
 ·rw [upd_other _ _ λe=>by subst e;omega] at hp;exact h.out j hj hs hp
 ·obtain rfl:k=j:=Option.some.inj hj
  rw [upd_same] at hp;exact h2 hp
 ·obtain rfl:k=j:=Option.some.inj hj
  rw [upd_same] at hp
  obtain ⟨a,r,q1,q2,q3⟩:=h3 hp
  exact ⟨a,r,q1,by rw [upd_same];exact q2,by rw [upd_other _ _ (hne a (by rw [q1];simp))];exact q3⟩
theorem freeE {k:Nat} (h:Cor n st pc oth T N K (some k) []):Cor n (upd st k 0) (upd pc k 0) oth 0 N K none []:=by
 have hk:k<n:=h.lt k (by simp)
 have hg:=h.stg k rfl
 refine ⟨by simp,λj hj=>(by cases hj),rfl,λj=> ?_,λj hj hs=> ?_,λj hj h1 h3=> ?_,λj hj hs=> ?_,λj hj=>(by cases hj),λj hj=>(by cases hj),λj hj hnj=> ?_,trivial,λj hj hs hp=> ?_,λ_ a r hW=>(by cases hW),λj hj=>(by cases hj),λj hj=>(by cases hj)⟩
 ·by_cases e:j=k
  ·subst e;rw [upd_same];omega
  ·rw [upd_other _ _ e];exact h.prg j
 ·by_cases e:j=k
  ·subst e;rw [upd_same] at hs;omega
  ·rw [upd_other _ _ e] at hs ⊢
   have:=h.inq j hj hs
   simp [e] at this ⊢
   exact this
 ·by_cases e:j=k
  ·subst e;rw [upd_same]
  ·rw [upd_other _ _ e] at h1 h3 ⊢;exact h.pcI j hj h1 h3
 ·by_cases e:j=k
  ·subst e;rw [upd_same];omega
  ·rw [upd_other _ _ e] at hs ⊢;exact h.pc3 j hj hs
 ·by_cases e:j=k
  ·subst e;rw [upd_same];exact .inl rfl
  ·rw [upd_other _ _ e];exact h.sto j hj (by simpa using e)
 ·by_cases e:j=k
  ·subst e;rw [upd_same] at hs;omega
  ·rw [upd_other _ _ e] at hs hp;exact h.out j hj hs hp
theorem freeW {k j:Nat} {r:List Nat} (h:Cor n st pc oth T N K (some k) (j::r)) (p4:pc j=4):Cor n (upd st k 0) (upd pc k 0) oth T N (upd K j 0) none (j::r):=by
 have hk:k<n:=h.lt k (by simp)
 have hn:=h.notW
 have hne:∀ i∈j::r,i≠k:=λi hi e=>hn (by subst e;exact hi)
 have hjr:j∉r:=(List.nodup_cons.1 (List.nodup_cons.1 h.nodup).2).1
 have hg:=h.stg k rfl
 refine ⟨(List.nodup_cons.1 h.nodup).2,λi hi=>h.lt i (List.mem_cons_of_mem _ hi),h.tl,λi=> ?_,λi hi hs=> ?_,λi hi h1 h3=> ?_,λi hi hs=> ?_,λi hi=>(by cases hi),λi hi=> ?_,λi hi hni=> ?_,?_,λi hi hs hp=> ?_,λ_ a r2 hW=> ?_,λi hi=>(by cases hi),λi hi=>(by cases hi)⟩
 ·by_cases e:i=k
  ·subst e;rw [upd_same];omega
  ·rw [upd_other _ _ e];exact h.prg i
 ·by_cases e:i=k
  ·subst e;rw [upd_same] at hs;omega
  ·rw [upd_other _ _ e] at hs ⊢
   rw [h.inq i hi hs]
   show i∈k::j::r↔i∈j::r
   rw [List.mem_cons]
   exact ⟨λq=>q.resolve_left e,.inr⟩
 ·by_cases e:i=k
  ·subst e;rw [upd_same]
  ·rw [upd_other _ _ e] at h1 h3 ⊢;exact h.pcI i hi h1 h3
 ·by_cases e:i=k
  ·subst e;rw [upd_same];omega
  ·rw [upd_other _ _ e] at hs ⊢;exact h.pc3 i hi hs
 ·rw [upd_other _ _ (hne i hi)];exact h.stw i hi
 ·by_cases e:i=k
  ·subst e;rw [upd_same];exact .inl rfl
  ·rw [upd_other _ _ e]
   refine h.sto i hi λq=> ?_
   have q:i∈k::j::r:=q
   rcases List.mem_cons.1 q with q|q
   ·exact e q
   ·exact hni q
 ·refine chn_same (chn_rest h.ch) (λ_ _=>rfl) λi hi=> ?_
  have hi:i∈r:=hi
  exact ⟨upd_other _ _ (hne i (List.mem_cons_of_mem _ hi)),rfl,upd_other _ _ λe=>hjr (by subst e;exact hi)⟩
 ·by_cases e:i=k
  ·subst e;rw [upd_same] at hs;omega
  ·rw [upd_other _ _ e] at hs hp;exact h.out i hi hs hp
 ·obtain rfl:j=a:=(List.cons.inj hW).1
  rw [upd_same,upd_other _ _ (hne j (by simp))]
  exact ⟨p4,rfl⟩
end Cor
theorem do_load {ps:PSta} {k i:Nat} {a:Int} (hk:k<ps.ac.length) (ha:a=((i:Nat):Int)) (hi:i<ps.ws.length):
  tellS ps k 1 a=ps.ws.getD i 0∧(doS ps k 1 a 0 0).ws=ps.ws∧(doS ps k 1 a 0 0).ac.length=ps.ac.length∧(doS ps k 1 a 0 0).D.length=ps.D.length+1:=by
 subst ha
 have ho:okS ps k 1 (i:Int)=true:=by simp [okS,okT];omega
 refine ⟨?_,?_,?_,?_⟩
 ·unfold tellS;rw [ho];simp [tellI,loadI]
 ·unfold doS;rw [ho];simp [doL]
 ·unfold doS;rw [ho];simp [touchS,bump_len]
 ·unfold doS;rw [ho];simp [touchS]
theorem do_store {ps:PSta} {k i:Nat} {a v:Int} (hk:k<ps.ac.length) (ha:a=((i:Nat):Int)) (hi:i<ps.ws.length):
  (doS ps k 2 a 0 v).ws=ps.ws.set i v∧(doS ps k 2 a 0 v).ac.length=ps.ac.length∧(doS ps k 2 a 0 v).D.length=ps.D.length+1:=by
 subst ha
 have ho:okS ps k 2 (i:Int)=true:=by simp [okS,okT];omega
 refine ⟨?_,?_,?_⟩
 ·unfold doS;rw [ho];simp [doL,storeL]
 ·unfold doS;rw [ho];simp [touchS,bump_len]
 ·unfold doS;rw [ho];simp [touchS]
theorem do_swap {ps:PSta} {k i:Nat} {a v:Int} (hk:k<ps.ac.length) (ha:a=((i:Nat):Int)) (hi:i<ps.ws.length):
  tellS ps k 3 a=ps.ws.getD i 0∧(doS ps k 3 a 0 v).ws=ps.ws.set i v∧(doS ps k 3 a 0 v).ac.length=ps.ac.length∧(doS ps k 3 a 0 v).D.length=ps.D.length+1:=by
 subst ha
 have ho:okS ps k 3 (i:Int)=true:=by simp [okS,okT];omega
 refine ⟨?_,?_,?_,?_⟩
 ·unfold tellS;rw [ho];simp [tellI,loadI]
 ·unfold doS;rw [ho];simp [doL,storeL]
 ·unfold doS;rw [ho];simp [touchS,bump_len]
 ·unfold doS;rw [ho];simp [touchS]
theorem do_cas {ps:PSta} {k i:Nat} {a old v:Int} (hk:k<ps.ac.length) (ha:a=((i:Nat):Int)) (hi:i<ps.ws.length):
  (casT ps k a old=true↔ps.ws.getD i 0=old)∧(doS ps k 4 a old v).ws=(if ps.ws.getD i 0=old then ps.ws.set i v else ps.ws)∧(doS ps k 4 a old v).ac.length=ps.ac.length∧(doS ps k 4 a old v).D.length=ps.D.length+1:=by
 subst ha
 have ho:okS ps k 4 (i:Int)=true:=by simp [okS,okT];omega
 have hb:casB ps.ws (i:Int) old=decide (ps.ws.getD i 0=old):=by unfold casB;rw [has_at hi,load_at];simp
 refine ⟨?_,?_,?_,?_⟩
 ·unfold casT;rw [hb,okT_at hk hi];simp
 ·unfold doS;rw [ho]
  show casL ps.ws (i:Int) old v=_
  unfold casL
  rw [hb]
  by_cases e:ps.ws.getD i 0=old
  ·rw [decide_eq_true e,if_pos rfl,if_pos e];simp [storeL]
  ·rw [decide_eq_false e,if_neg (by decide),if_neg e]
 ·unfold doS;rw [ho];simp [touchS,bump_len]
 ·unfold doS;rw [ho];simp [touchS]
theorem fin_none {s:SS} {k:Nat} {ev:Int} (h:behindI (s.st k) ev=none):s.fin k ev=s:=by
 unfold SS.fin endO
 split
 ·rename_i y hy
  split at hy
  ·rw [Int.toNat_natCast,h] at hy;cases hy
  ·cases hy
 ·rfl
theorem fin_some {s:SS} {k:Nat} {ev y:Int} (hk:k<s.n) (h:behindI (s.st k) ev=some y):s.fin k ev=s.set k y 0:=by
 have e:endO s k ev=some y:=by unfold endO;rw [if_pos (by omega),Int.toNat_natCast,h]
 unfold SS.fin
 rw [e,Int.toNat_natCast]
theorem fin_no (s:SS) (t:Nat):s.fin t Dd.no.ev=s:=fin_none (by
 unfold behindI
 rw [if_neg (λq=>absurd q.2 (by decide)),if_neg (λq=>q.2.elim (λq=>absurd q (by decide)) λq=>absurd q (by decide)),if_neg (λq=>absurd q.2 (by decide)),if_neg (λq=>q.2.elim (λq=>absurd q (by decide)) λq=>absurd q (by decide))])
def wT (ps:PSta):Int:=ps.ws.getD 0 0
def wN (ps:PSta) (i:Nat):Int:=ps.ws.getD (1+2*i) 0
def wK (ps:PSta) (i:Nat):Int:=ps.ws.getD (2+2*i) 0
theorem getD_set_same {l:List Int} {i:Nat} (v:Int) (h:i<l.length):(l.set i v).getD i 0=v:=by simp [h]
theorem getD_set_other {l:List Int} {i j:Nat} (v:Int) (h:i≠j):(l.set i v).getD j 0=l.getD j 0:=by
 rw [List.getD_eq_getElem?_getD,List.getElem?_set,if_neg h,←List.getD_eq_getElem?_getD]
theorem ws_same {ps ps':PSta} (h:ps'.ws=ps.ws):wT ps'=wT ps∧wN ps'=wN ps∧wK ps'=wK ps:=by
 unfold wT
 refine ⟨by rw [h],funext λi=> ?_,funext λi=> ?_⟩
 ·unfold wN;rw [h]
 ·unfold wK;rw [h]
theorem ws_tail {ps ps':PSta} {v:Int} (hl:0<ps.ws.length) (h:ps'.ws=ps.ws.set 0 v):wT ps'=v∧wN ps'=wN ps∧wK ps'=wK ps:=by
 unfold wT
 refine ⟨by rw [h];exact getD_set_same v hl,funext λi=> ?_,funext λi=> ?_⟩
 ·unfold wN;rw [h,getD_set_other _ (by omega)]
 ·unfold wK;rw [h,getD_set_other _ (by omega)]
theorem ws_next {ps ps':PSta} {v:Int} {i n:Nat} (hn:ps.ws.length=2*n+1) (hi:i<n) (h:ps'.ws=ps.ws.set (1+2*i) v):wT ps'=wT ps∧wN ps'=upd (wN ps) i v∧wK ps'=wK ps:=by
 unfold wT
 refine ⟨by rw [h,getD_set_other _ (by omega)],funext λj=> ?_,funext λj=> ?_⟩
 ·unfold wN upd
  rw [h]
  by_cases e:j=i
  ·subst e;rw [if_pos rfl];exact getD_set_same v (by omega)
  ·rw [if_neg e,getD_set_other _ (by omega)]
 ·unfold wK;rw [h,getD_set_other _ (by omega)]
theorem ws_lock {ps ps':PSta} {v:Int} {i n:Nat} (hn:ps.ws.length=2*n+1) (hi:i<n) (h:ps'.ws=ps.ws.set (2+2*i) v):wT ps'=wT ps∧wN ps'=wN ps∧wK ps'=upd (wK ps) i v:=by
 unfold wT
 refine ⟨by rw [h,getD_set_other _ (by omega)],funext λj=> ?_,funext λj=> ?_⟩
 ·unfold wN;rw [h,getD_set_other _ (by omega)]
 ·unfold wK upd
  rw [h]
  by_cases e:j=i
  ·subst e;rw [if_pos rfl];exact getD_set_same v (by omega)
  ·rw [if_neg e,getD_set_other _ (by omega)]
structure OrdJ (f:FL) (g:Option Nat) (W:List Nat):Prop where
 n8:f.s.n≤8
 len:f.ps.ws.length=2*f.s.n+1
 ac:f.ps.ac.length=f.s.n
 cor:Cor f.s.n f.s.st f.pc f.oth (wT f.ps) (wN f.ps) (wK f.ps) g W
def phs (x p:Int):Nat:=if x=1 then (10-p).toNat else if x=3 then (4-p).toNat else if x=2 then 5 else 0
inductive OrdJ.StepQ (W:List Nat) (t:Int) (d:Dd) (W':List Nat):Prop where
 |same (h0:d.enq=false) (h1:d.ev≠1) (h2:d.ev≠2) (e:W'=W):StepQ W t d W'
 |enq (hd:d=⟨0,true,false,false⟩) (k:Nat) (ht:t=k) (e:W'=W++[k]):StepQ W t d W'
 |grant (hd:d=⟨1,false,false,false⟩) (k:Nat) (ht:t=k) (e:W=k::W') (hn:k∉W'):StepQ W t d W'
 |both (hd:d=⟨1,true,false,false⟩) (k:Nat) (ht:t=k) (e:W=[]) (e':W'=[]):StepQ W t d W'
structure Stp (f f':FL) (W:List Nat) (k:Nat) (d:Dd) (g':Option Nat) (W':List Nat) (x p:Int):Prop where
 ord:OrdJ f' g' W'
 q:OrdJ.StepQ W k d W'
 st:∀ j,f'.s.st j=upd f.s.st k x j
 n:f'.s.n=f.s.n
 pc:∀ j,f'.pc j=upd f.pc k p j
 D:f'.ps.D.length≤f.ps.D.length+1
 on:phs x p+1≤phs (f.s.st k) (f.pc k)∨f.s.st k=4∨(x=f.s.st k∧p=f.pc k∧f'.ps.ws=f.ps.ws∧(f.s.st k=0∨f.s.st k=2∨(f.s.st k=1∧f.pc k=4∧wK f.ps k≠0)∨(f.s.st k=3∧f.pc k=2∧wN f.ps k=0)))
 ev:d.ev=1→f.s.st k=1∧x=2∧p=0∧∃ b,d=⟨1,b,false,false⟩
 seat:x=f.s.st k→f'.s=f.s
 s1:f.s.st k=1→(x=1∧p≠0)∨(x=2∧d.ev=1)
 s3:f.s.st k=3→x=3∨x=0
 s0:f.s.st k=0→x=0∧p=f.pc k
theorem upd_self {α:Type} (f:Nat→α) (k:Nat):∀ j,f j=upd f k (f k) j:=λj=>by
 unfold upd;split
 ·rename_i e;rw [e]
 ·rfl
namespace OrdJ
variable {f:FL} {g:Option Nat} {W:List Nat} {L:Lp}
theorem lock (h:OrdJ f g W) (t d:Int):OrdJ (f.lock t d) g W:=by
 unfold FL.lock SS.lock
 split
 ·rename_i he
  unfold lockE at he
  split at he
  ·rename_i hc
   split at he
   ·rename_i hs
    exact ⟨h.n8,h.len,h.ac,h.cor.lock (by omega) hs⟩
   ·omega
  ·omega
 ·exact h
theorem turn (h:OrdJ f g W) (t x:Int) (hx:x=3∨x=4):OrdJ (f.turn t x) g W:=by
 unfold FL.turn SS.turn
 split
 ·rename_i he
  unfold turnE at he
  split at he
  ·rename_i hc
   split at he
   ·omega
   ·split at he
    ·rename_i hs
     exact ⟨h.n8,h.len,h.ac,h.cor.turn (by omega) (.inl hs) (.inr hx)⟩
    ·omega
  ·omega
 ·exact h
theorem at_idle {k:Nat} (hk:k<f.s.n) (s1:f.s.st k≠1) (s3:f.s.st k≠3) (s4:f.s.st k≠4):f.did L k k=Dd.no∧f.step L k k=f:=by
 have ht:(0:Int)≤(k:Int)∧(k:Int)<f.s.n:=by omega
 have e:f.did L k k=Dd.no:=by unfold FL.did;rw [if_pos ht,Int.toNat_natCast,if_neg s1,if_neg s3,if_neg s4]
 have em:f.mid L k k=f:=by unfold FL.mid;rw [if_pos ht,Int.toNat_natCast,if_neg s1,if_neg s3,if_neg s4]
 refine ⟨e,?_⟩
 unfold FL.step
 rw [e,em,fin_no]
theorem at_one {k:Nat} (hk:k<f.s.n) (s1:f.s.st k=1):f.did L k k=f.acqD L k k∧f.step L k k={f.acq L k k with s:=f.s.fin k (f.acqD L k k).ev}:=by
 have ht:(0:Int)≤(k:Int)∧(k:Int)<f.s.n:=by omega
 have e:f.did L k k=f.acqD L k k:=by unfold FL.did;rw [if_pos ht,Int.toNat_natCast,if_pos s1]
 have em:f.mid L k k=f.acq L k k:=by unfold FL.mid;rw [if_pos ht,Int.toNat_natCast,if_pos s1]
 refine ⟨e,?_⟩
 unfold FL.step
 rw [e,em]
theorem at_three {k:Nat} (hk:k<f.s.n) (s3:f.s.st k=3):f.did L k k=f.relD L k k∧f.step L k k={f.rel L k k with s:=f.s.fin k (f.relD L k k).ev}:=by
 have ht:(0:Int)≤(k:Int)∧(k:Int)<f.s.n:=by omega
 have e:f.did L k k=f.relD L k k:=by unfold FL.did;rw [if_pos ht,Int.toNat_natCast,if_neg (by omega),if_pos s3]
 have em:f.mid L k k=f.rel L k k:=by unfold FL.mid;rw [if_pos ht,Int.toNat_natCast,if_neg (by omega),if_pos s3]
 refine ⟨e,?_⟩
 unfold FL.step
 rw [e,em]
theorem at_four {k:Nat} (hk:k<f.s.n) (s4:f.s.st k=4):f.did L k k=f.askD L k k∧f.step L k k={f.ask L k k with s:=f.s.fin k (f.askD L k k).ev}:=by
 have ht:(0:Int)≤(k:Int)∧(k:Int)<f.s.n:=by omega
 have e:f.did L k k=f.askD L k k:=by unfold FL.did;rw [if_pos ht,Int.toNat_natCast,if_neg (by omega),if_neg (by omega),if_pos s4]
 have em:f.mid L k k=f.ask L k k:=by unfold FL.mid;rw [if_pos ht,Int.toNat_natCast,if_neg (by omega),if_neg (by omega),if_pos s4]
 refine ⟨e,?_⟩
 unfold FL.step
 rw [e,em]
theorem put (h:OrdJ f g W) {f':FL} {g':Option Nat} {W':List Nat} (hn:f'.s.n=f.s.n) (hl:f'.ps.ws.length=f.ps.ws.length) (ha:f'.ps.ac.length=f.ps.ac.length) (hc:Cor f.s.n f'.s.st f'.pc f'.oth (wT f'.ps) (wN f'.ps) (wK f'.ps) g' W'):OrdJ f' g' W':=
 ⟨by rw [hn];exact h.n8,by rw [hl,hn];exact h.len,by rw [ha,hn];exact h.ac,by rw [hn];exact hc⟩
theorem nxA (h2:L.a2=1) (i:Nat):L.nx (i:Int)=((1+2*i:Nat):Int):=by unfold Lp.nx;rw [h2];omega
theorem lkA (h2:L.a2=1) (i:Nat):L.lk (i:Int)=((2+2*i:Nat):Int):=by unfold Lp.lk;rw [h2];omega
theorem stp1 (h:OrdJ f g W) (h1:L.a1=0) (h2:L.a2=1) {k:Nat} (hk:k<f.s.n) (s1:f.s.st k=1):∃ g' W' x p,Stp f (f.step L k k) W k (f.did L k k) g' W' x p:=by
 obtain ⟨ed,es⟩:=at_one (L:=L) hk s1
 rw [ed,es]
 have hl:=h.len
 have hac:k<f.ps.ac.length:=by rw [h.ac];exact hk
 have prg:=h.cor.prg k
 by_cases p0:f.pc k=0
 ·obtain ⟨b,c,d⟩:=do_store (v:=0) hac (nxA h2 k) (show 1+2*k<f.ps.ws.length by omega)
  have e1:f.acq L k k={f with pc:=upd f.pc k 1,ps:=doS f.ps k 2 (L.nx k) 0 0}:=by unfold FL.acq;rw [if_pos p0]
  have e2:f.acqD L k k=Dd.no:=by unfold FL.acqD;rw [if_pos p0]
  rw [e1,e2,fin_no]
  obtain ⟨wt,wn,wk⟩:=ws_next hl hk b
  refine ⟨g,W,1,1,h.put rfl (by show (doS _ _ _ _ _ _).ws.length=_;rw [b,List.length_set]) c ?_,.same rfl (by decide) (by decide) rfl,λj=>by rw [←s1];exact upd_self _ _ j,rfl,λ_=>rfl,Nat.le_of_eq d,.inl (by rw [s1,p0];decide),λq=>absurd q (by decide),λ_=>rfl,λ_=> .inl ⟨rfl,by decide⟩,λq=>by omega,λq=>by omega⟩
  show Cor _ _ (upd f.pc k 1) _ (wT (doS _ _ _ _ _ _)) (wN (doS _ _ _ _ _ _)) (wK (doS _ _ _ _ _ _)) g W
  rw [wt,wn,wk]
  exact h.cor.nxt0 hk s1 p0
 by_cases p1:f.pc k=1
 ·obtain ⟨a,b,c,d⟩:=do_swap (v:=(k:Int)+1) hac (show L.a1=((0:Nat):Int) from h1) (show 0<f.ps.ws.length by omega)
  have hT:tellS f.ps k 3 L.a1=wT f.ps:=a
  have e1:f.acq L k k={f with pc:=upd f.pc k (if wT f.ps=0 then 0 else 2),oth:=upd f.oth k (wT f.ps),ps:=doS f.ps k 3 L.a1 0 ((k:Int)+1)}:=by unfold FL.acq;rw [if_neg p0,if_pos p1,hT]
  have e2:f.acqD L k k=⟨if wT f.ps=0 then 1 else 0,true,false,false⟩:=by unfold FL.acqD;rw [if_neg p0,if_pos p1,hT]
  obtain ⟨wt,wn,wk⟩:=ws_tail (by omega) b
  by_cases q:g.toList++W=[]
  ·have hT0:wT f.ps=0:=by rw [h.cor.tl,q];rfl
   obtain ⟨q1,rfl⟩:=List.append_eq_nil_iff.1 q
   have hg:g=none:=by cases g with
    |none=>rfl
    |some a=>cases q1
   subst hg
   rw [e1,e2,hT0,if_pos rfl,if_pos rfl,fin_some hk (by rw [s1];rfl:behindI (f.s.st k) 1=some 2)]
   refine ⟨some k,[],2,0,h.put rfl (by show (doS _ _ _ _ _ _).ws.length=_;rw [b,List.length_set]) c ?_,.both rfl k rfl rfl rfl,λ_=>rfl,rfl,λ_=>rfl,Nat.le_of_eq d,.inl (by rw [s1,p1];decide),λ_=>⟨s1,rfl,rfl,true,rfl⟩,λq=>by omega,λ_=> .inr ⟨rfl,rfl⟩,λq=>by omega,λq=>by omega⟩
   show Cor _ (upd f.s.st k 2) (upd f.pc k 0) (upd f.oth k 0) (wT (doS _ _ _ _ _ _)) (wN (doS _ _ _ _ _ _)) (wK (doS _ _ _ _ _ _)) (some k) []
   rw [wt,wn,wk]
   exact h.cor.enq0 hk s1 p1 0
  ·have hT0:wT f.ps≠0:=by
    rw [h.cor.tl]
    cases hq:g.toList++W with
    |nil=>exact absurd hq q
    |cons i r=>
     obtain ⟨j,_,hj⟩:=lastM_pos 0 i r
     rw [hj];omega
   rw [e1,e2,if_neg hT0,if_neg hT0]
   rw [show f.s.fin k (⟨0,true,false,false⟩:Dd).ev=f.s from fin_no f.s k]
   refine ⟨g,W++[k],1,2,h.put rfl (by show (doS _ _ _ _ _ _).ws.length=_;rw [b,List.length_set]) c ?_,.enq rfl k rfl rfl,λj=>by rw [←s1];exact upd_self _ _ j,rfl,λ_=>rfl,Nat.le_of_eq d,.inl (by rw [s1,p1];decide),λq=>absurd q (by decide),λ_=>rfl,λ_=> .inl ⟨rfl,by decide⟩,λq=>by omega,λq=>by omega⟩
   show Cor _ _ (upd f.pc k 2) (upd f.oth k (wT f.ps)) (wT (doS _ _ _ _ _ _)) (wN (doS _ _ _ _ _ _)) (wK (doS _ _ _ _ _ _)) g (W++[k])
   rw [wt,wn,wk]
   exact h.cor.enq q hk s1 p1
 by_cases p2:f.pc k=2
 ·obtain ⟨b,c,d⟩:=do_store (v:=1) hac (lkA h2 k) (show 2+2*k<f.ps.ws.length by omega)
  have e1:f.acq L k k={f with pc:=upd f.pc k 3,ps:=doS f.ps k 2 (L.lk k) 0 1}:=by unfold FL.acq;rw [if_neg p0,if_neg p1,if_pos p2]
  have e2:f.acqD L k k=Dd.no:=by unfold FL.acqD;rw [if_neg p0,if_neg p1,if_pos p2]
  rw [e1,e2,fin_no]
  obtain ⟨wt,wn,wk⟩:=ws_lock hl hk b
  refine ⟨g,W,1,3,h.put rfl (by show (doS _ _ _ _ _ _).ws.length=_;rw [b,List.length_set]) c ?_,.same rfl (by decide) (by decide) rfl,λj=>by rw [←s1];exact upd_self _ _ j,rfl,λ_=>rfl,Nat.le_of_eq d,.inl (by rw [s1,p2];decide),λq=>absurd q (by decide),λ_=>rfl,λ_=> .inl ⟨rfl,by decide⟩,λq=>by omega,λq=>by omega⟩
  show Cor _ _ (upd f.pc k 3) _ (wT (doS _ _ _ _ _ _)) (wN (doS _ _ _ _ _ _)) (wK (doS _ _ _ _ _ _)) g W
  rw [wt,wn,wk]
  exact h.cor.lkd hk s1 p2
 by_cases p3:f.pc k=3
 ·obtain ⟨i,hi,ho⟩:=h.cor.ahead hk s1 (.inr p3)
  have hi1:f.oth k-1=(i:Int):=by omega
  obtain ⟨b,c,d⟩:=do_store (v:=(k:Int)+1) hac (show L.nx (f.oth k-1)=((1+2*i:Nat):Int) by rw [hi1];exact nxA h2 i) (show 1+2*i<f.ps.ws.length by omega)
  have e1:f.acq L k k={f with pc:=upd f.pc k 4,ps:=doS f.ps k 2 (L.nx (f.oth k-1)) 0 ((k:Int)+1)}:=by unfold FL.acq;rw [if_neg p0,if_neg p1,if_neg p2,if_pos p3]
  have e2:f.acqD L k k=Dd.no:=by unfold FL.acqD;rw [if_neg p0,if_neg p1,if_neg p2,if_pos p3]
  rw [e1,e2,fin_no]
  obtain ⟨wt,wn,wk⟩:=ws_next hl hi b
  refine ⟨g,W,1,4,h.put rfl (by show (doS _ _ _ _ _ _).ws.length=_;rw [b,List.length_set]) c ?_,.same rfl (by decide) (by decide) rfl,λj=>by rw [←s1];exact upd_self _ _ j,rfl,λ_=>rfl,Nat.le_of_eq d,.inl (by rw [s1,p3];decide),λq=>absurd q (by decide),λ_=>rfl,λ_=> .inl ⟨rfl,by decide⟩,λq=>by omega,λq=>by omega⟩
  show Cor _ _ (upd f.pc k 4) _ (wT (doS _ _ _ _ _ _)) (wN (doS _ _ _ _ _ _)) (wK (doS _ _ _ _ _ _)) g W
  rw [wt,wn,wk]
  exact h.cor.nxt hk s1 p3 ho
 have p4:f.pc k=4:=by omega
 obtain ⟨a,b,c,d⟩:=do_load hac (lkA h2 k) (show 2+2*k<f.ps.ws.length by omega)
 have hT:tellS f.ps k 1 (L.lk k)=wK f.ps k:=a
 have e1:f.acq L k k={f with pc:=upd f.pc k (if wK f.ps k=0 then 0 else 4),ps:=doS f.ps k 1 (L.lk k) 0 0}:=by unfold FL.acq;rw [if_neg p0,if_neg p1,if_neg p2,if_neg p3,hT]
 have e2:f.acqD L k k=if wK f.ps k=0 then ⟨1,false,false,false⟩ else Dd.no:=by unfold FL.acqD;rw [if_neg p0,if_neg p1,if_neg p2,if_neg p3,hT]
 obtain ⟨wt,wn,wk⟩:=ws_same b
 rcases h.cor.looks hk s1 p4 with ⟨rfl,r,rfl,hz⟩|hz
 ·rw [e1,e2,if_pos hz,if_pos hz,fin_some hk (by rw [s1];rfl:behindI (f.s.st k) 1=some 2)]
  have hnr:k∉r:=(List.nodup_cons.1 h.cor.nodup).1
  refine ⟨some k,r,2,0,h.put rfl (by show (doS _ _ _ _ _ _).ws.length=_;rw [b]) c ?_,.grant rfl k rfl rfl hnr,λ_=>rfl,rfl,λ_=>rfl,Nat.le_of_eq d,.inl (by rw [s1,p4];decide),λ_=>⟨s1,rfl,rfl,false,rfl⟩,λq=>by omega,λ_=> .inr ⟨rfl,rfl⟩,λq=>by omega,λq=>by omega⟩
  show Cor _ (upd f.s.st k 2) (upd f.pc k 0) _ (wT (doS _ _ _ _ _ _)) (wN (doS _ _ _ _ _ _)) (wK (doS _ _ _ _ _ _)) (some k) r
  rw [wt,wn,wk]
  exact h.cor.grant
 ·have hz0:wK f.ps k≠0:=by omega
  rw [e1,e2,if_neg hz0,if_neg hz0,fin_no]
  have ep:upd f.pc k 4=f.pc:=funext λj=>by rw [←p4];exact (upd_self f.pc k j).symm
  refine ⟨g,W,1,4,h.put rfl (by show (doS _ _ _ _ _ _).ws.length=_;rw [b]) c ?_,.same rfl (by decide) (by decide) rfl,λj=>by rw [←s1];exact upd_self _ _ j,rfl,λ_=>rfl,Nat.le_of_eq d,.inr (.inr ⟨s1.symm,p4.symm,b,.inr (.inr (.inl ⟨s1,p4,hz0⟩))⟩),λq=>absurd q (by decide),λ_=>rfl,λ_=> .inl ⟨rfl,by decide⟩,λq=>by omega,λq=>by omega⟩
  show Cor _ _ (upd f.pc k 4) _ (wT (doS _ _ _ _ _ _)) (wN (doS _ _ _ _ _ _)) (wK (doS _ _ _ _ _ _)) g W
  rw [wt,wn,wk,ep]
  exact h.cor
theorem stp3 (h:OrdJ f g W) (h1:L.a1=0) (h2:L.a2=1) {k:Nat} (hk:k<f.s.n) (s3:f.s.st k=3):∃ g' W' x p,Stp f (f.step L k k) W k (f.did L k k) g' W' x p:=by
 obtain ⟨ed,es⟩:=at_three (L:=L) hk s3
 rw [ed,es]
 obtain rfl:=h.cor.held hk (.inr (.inl s3))
 have hl:=h.len
 have hac:k<f.ps.ac.length:=by rw [h.ac];exact hk
 have prg:=h.cor.prg k
 have pc3:=h.cor.pc3 k hk s3
 have look:∀ (p0:Int),f.pc k=p0→(p0=0∨p0=2)→(wN f.ps k=0→p0=2→W≠[])→∀ f',f'={f with pc:=upd f.pc k (if wN f.ps k=0 then (if p0=0 then 1 else 2) else 3),oth:=upd f.oth k (wN f.ps k),ps:=doS f.ps k 1 (L.nx k) 0 0}→
   ∃ g' W' x p,Stp f f' W k Dd.no g' W' x p:=by
  intro p0 hp hp0 hne f' hf'
  obtain ⟨a,b,c,d⟩:=do_load hac (nxA h2 k) (show 1+2*k<f.ps.ws.length by omega)
  obtain ⟨wt,wn,wk⟩:=ws_same b
  by_cases hz:wN f.ps k=0
  ·rw [if_pos hz] at hf'
   rcases hp0 with rfl|rfl
   ·rw [if_pos rfl] at hf'
    subst hf'
    refine ⟨some k,W,3,1,h.put rfl (by show (doS _ _ _ _ _ _).ws.length=_;rw [b]) c ?_,.same rfl (by decide) (by decide) rfl,λj=>by rw [←s3];exact upd_self _ _ j,rfl,λ_=>rfl,Nat.le_of_eq d,.inl (by rw [s3,hp];decide),λq=>absurd q (by decide),λ_=>rfl,λq=>by omega,λ_=> .inl rfl,λq=>by omega⟩
    show Cor _ _ (upd f.pc k 1) (upd f.oth k _) (wT (doS _ _ _ _ _ _)) (wN (doS _ _ _ _ _ _)) (wK (doS _ _ _ _ _ _)) (some k) W
    rw [wt,wn,wk]
    exact h.cor.unl s3 (by omega) (λq=>by omega) (λq=>by omega)
   ·rw [if_neg (by decide)] at hf'
    subst hf'
    refine ⟨some k,W,3,2,h.put rfl (by show (doS _ _ _ _ _ _).ws.length=_;rw [b]) c ?_,.same rfl (by decide) (by decide) rfl,λj=>by rw [←s3];exact upd_self _ _ j,rfl,λ_=>rfl,Nat.le_of_eq d,.inr (.inr ⟨s3.symm,hp.symm,b,.inr (.inr (.inr ⟨s3,hp,hz⟩))⟩),λq=>absurd q (by decide),λ_=>rfl,λq=>by omega,λ_=> .inl rfl,λq=>by omega⟩
    show Cor _ _ (upd f.pc k 2) (upd f.oth k _) (wT (doS _ _ _ _ _ _)) (wN (doS _ _ _ _ _ _)) (wK (doS _ _ _ _ _ _)) (some k) W
    rw [wt,wn,wk]
    exact h.cor.unl s3 (by omega) (λ_=>hne hz rfl) (λq=>by omega)
  ·rw [if_neg hz] at hf'
   subst hf'
   refine ⟨some k,W,3,3,h.put rfl (by show (doS _ _ _ _ _ _).ws.length=_;rw [b]) c ?_,.same rfl (by decide) (by decide) rfl,λj=>by rw [←s3];exact upd_self _ _ j,rfl,λ_=>rfl,Nat.le_of_eq d,.inl (by rw [s3,hp];rcases hp0 with rfl|rfl<;>decide),λq=>absurd q (by decide),λ_=>rfl,λq=>by omega,λ_=> .inl rfl,λq=>by omega⟩
   show Cor _ _ (upd f.pc k 3) (upd f.oth k _) (wT (doS _ _ _ _ _ _)) (wN (doS _ _ _ _ _ _)) (wK (doS _ _ _ _ _ _)) (some k) W
   rw [wt,wn,wk]
   refine h.cor.unl s3 (by omega) (λq=>by omega) λ_=> ?_
   rcases h.cor.nextOf with ⟨_,q⟩|⟨j,r,q1,q2⟩
   ·exact absurd q hz
   ·rcases q2 with q2|q2
    ·exact absurd q2.1 hz
    ·exact ⟨j,r,q1,q2.1,q2.2.1⟩
 have tellN:tellS f.ps k 1 (L.nx k)=wN f.ps k:=(do_load hac (nxA h2 k) (show 1+2*k<f.ps.ws.length by omega)).1
 by_cases p0:f.pc k=0
 ·have e2:f.relD L k k=Dd.no:=by unfold FL.relD;rw [if_pos p0]
  rw [e2,fin_no]
  refine look 0 p0 (.inl rfl) (λ_ q=>by omega) _ ?_
  unfold FL.rel
  rw [if_pos p0,tellN,if_pos rfl]
 by_cases p1:f.pc k=1
 ·obtain ⟨a,b,c,d⟩:=do_cas (old:=(k:Int)+1) (v:=0) hac (show L.a1=((0:Nat):Int) from h1) (show 0<f.ps.ws.length by omega)
  have e1:f.rel L k k={f with pc:=upd f.pc k (if casT f.ps k L.a1 ((k:Int)+1)=true then 0 else 2),ps:=doS f.ps k 4 L.a1 ((k:Int)+1) 0}:=by unfold FL.rel;rw [if_neg p0,if_pos p1]
  have e2:f.relD L k k=if casT f.ps k L.a1 ((k:Int)+1)=true then ⟨3,false,false,false⟩ else Dd.no:=by unfold FL.relD;rw [if_neg p0,if_pos p1]
  cases W with
  |nil=>
   have hT:f.ps.ws.getD 0 0=(k:Int)+1:=h.cor.tl
   have hc:=a.2 hT
   rw [if_pos hT] at b
   obtain ⟨wt,wn,wk⟩:=ws_tail (by omega) b
   rw [e1,e2,if_pos hc,if_pos hc,fin_some hk (by rw [s3];rfl:behindI (f.s.st k) 3=some 0)]
   refine ⟨none,[],0,0,h.put rfl (by show (doS _ _ _ _ _ _).ws.length=_;rw [b,List.length_set]) c ?_,.same rfl (by decide) (by decide) rfl,λ_=>rfl,rfl,λ_=>rfl,Nat.le_of_eq d,.inl (by rw [s3,p1];decide),λq=>absurd q (by decide),λq=>by omega,λq=>by omega,λ_=> .inr rfl,λq=>by omega⟩
   show Cor _ (upd f.s.st k 0) (upd f.pc k 0) _ (wT (doS _ _ _ _ _ _)) (wN (doS _ _ _ _ _ _)) (wK (doS _ _ _ _ _ _)) none []
   rw [wt,wn,wk]
   exact h.cor.freeE
  |cons j r=>
   have hT:f.ps.ws.getD 0 0≠(k:Int)+1:=by
    have ht:=h.cor.tl
    have ht:f.ps.ws.getD 0 0=lastM ((k:Int)+1) (j::r):=ht
    obtain ⟨i,hi,hj⟩:=lastM_pos ((k:Int)+1) j r
    rw [ht,hj]
    intro q
    have:i=k:=by omega
    subst this
    exact h.cor.notW hi
   have hc:¬ casT f.ps k L.a1 ((k:Int)+1)=true:=λq=>hT (a.1 q)
   rw [if_neg hT] at b
   obtain ⟨wt,wn,wk⟩:=ws_same b
   rw [e1,e2,if_neg hc,if_neg hc,fin_no]
   have eo:upd f.oth k (f.oth k)=f.oth:=funext λj=>(upd_self f.oth k j).symm
   refine ⟨some k,j::r,3,2,h.put rfl (by show (doS _ _ _ _ _ _).ws.length=_;rw [b]) c ?_,.same rfl (by decide) (by decide) rfl,λj=>by rw [←s3];exact upd_self _ _ j,rfl,λ_=>rfl,Nat.le_of_eq d,.inl (by rw [s3,p1];decide),λq=>absurd q (by decide),λ_=>rfl,λq=>by omega,λ_=> .inl rfl,λq=>by omega⟩
   show Cor _ _ (upd f.pc k 2) f.oth (wT (doS _ _ _ _ _ _)) (wN (doS _ _ _ _ _ _)) (wK (doS _ _ _ _ _ _)) (some k) (j::r)
   rw [wt,wn,wk,←eo]
   exact h.cor.unl s3 (by omega) (λ_=>by simp) (λq=>by omega)
 by_cases p2:f.pc k=2
 ·have e2:f.relD L k k=Dd.no:=by unfold FL.relD;rw [if_neg p0,if_neg p1,if_pos p2]
  rw [e2,fin_no]
  refine look 2 p2 (.inr rfl) (λ_ _=>h.cor.un2 k rfl s3 p2) _ ?_
  unfold FL.rel
  rw [if_neg p0,if_neg p1,if_pos p2,tellN,if_neg (by decide:¬ (2:Int)=0)]
 have p3:f.pc k=3:=by omega
 obtain ⟨j,r,rfl,ho,pj⟩:=h.cor.un3 k rfl s3 p3
 have hj:j<f.s.n:=h.cor.lt j (by simp)
 have hi1:f.oth k-1=(j:Int):=by omega
 obtain ⟨b,c,d⟩:=do_store (v:=0) hac (show L.lk (f.oth k-1)=((2+2*j:Nat):Int) by rw [hi1];exact lkA h2 j) (show 2+2*j<f.ps.ws.length by omega)
 have e1:f.rel L k k={f with pc:=upd f.pc k 0,ps:=doS f.ps k 2 (L.lk (f.oth k-1)) 0 0}:=by unfold FL.rel;rw [if_neg p0,if_neg p1,if_neg p2]
 have e2:f.relD L k k=⟨3,false,false,false⟩:=by unfold FL.relD;rw [if_neg p0,if_neg p1,if_neg p2]
 obtain ⟨wt,wn,wk⟩:=ws_lock hl hj b
 rw [e1,e2,fin_some hk (by rw [s3];rfl:behindI (f.s.st k) 3=some 0)]
 refine ⟨none,j::r,0,0,h.put rfl (by show (doS _ _ _ _ _ _).ws.length=_;rw [b,List.length_set]) c ?_,.same rfl (by decide) (by decide) rfl,λ_=>rfl,rfl,λ_=>rfl,Nat.le_of_eq d,.inl (by rw [s3,p3];decide),λq=>absurd q (by decide),λq=>by omega,λq=>by omega,λ_=> .inr rfl,λq=>by omega⟩
 show Cor _ (upd f.s.st k 0) (upd f.pc k 0) _ (wT (doS _ _ _ _ _ _)) (wN (doS _ _ _ _ _ _)) (wK (doS _ _ _ _ _ _)) none (j::r)
 rw [wt,wn,wk]
 exact h.cor.freeW pj
theorem stp4 (h:OrdJ f g W) (h1:L.a1=0) (h2:L.a2=1) {k:Nat} (hk:k<f.s.n) (s4:f.s.st k=4):∃ g' W' x p,Stp f (f.step L k k) W k (f.did L k k) g' W' x p:=by
 obtain ⟨ed,es⟩:=at_four (L:=L) hk s4
 rw [ed,es]
 have hl:=h.len
 have hac:k<f.ps.ac.length:=by rw [h.ac];exact hk
 obtain ⟨a,b,c,d⟩:=do_load hac (nxA h2 k) (show 1+2*k<f.ps.ws.length by omega)
 obtain ⟨wt,wn,wk⟩:=ws_same b
 have p0:=h.cor.pcI k hk (by omega) (by omega)
 obtain ⟨ev,hev,e2⟩:∃ ev,(ev=4∨ev=5)∧f.askD L k k=⟨ev,false,false,false⟩:=by
  unfold FL.askD
  split
  ·exact ⟨4,.inl rfl,rfl⟩
  ·exact ⟨5,.inr rfl,rfl⟩
 rw [e2,show f.s.fin k (⟨ev,false,false,false⟩:Dd).ev=f.s.set k 2 0 from fin_some hk (by rw [s4];rcases hev with rfl|rfl<;>rfl)]
 unfold FL.ask
 refine ⟨g,W,2,f.pc k,h.put rfl (by show (doS _ _ _ _ _ _).ws.length=_;rw [b]) c ?_,.same rfl (by rcases hev with rfl|rfl<;>decide) (by rcases hev with rfl|rfl<;>decide) rfl,λ_=>rfl,rfl,λj=>upd_self _ _ j,Nat.le_of_eq d,.inr (.inl s4),λq=>by rcases hev with rfl|rfl<;>exact absurd q (by decide),λq=>by omega,λq=>by omega,λq=>by omega,λq=>by omega⟩
 show Cor _ (upd f.s.st k 2) _ _ (wT (doS _ _ _ _ _ _)) (wN (doS _ _ _ _ _ _)) (wK (doS _ _ _ _ _ _)) g W
 rw [wt,wn,wk]
 exact h.cor.turn hk (.inr s4) (.inl rfl)
theorem stp (h:OrdJ f g W) (h1:L.a1=0) (h2:L.a2=1) {k:Nat} (hk:k<f.s.n):∃ g' W' x p,Stp f (f.step L k k) W k (f.did L k k) g' W' x p:=by
 by_cases s1:f.s.st k=1
 ·exact h.stp1 h1 h2 hk s1
 by_cases s3:f.s.st k=3
 ·exact h.stp3 h1 h2 hk s3
 by_cases s4:f.s.st k=4
 ·exact h.stp4 h1 h2 hk s4
 obtain ⟨d1,d2⟩:=at_idle (L:=L) hk s1 s3 s4
 rw [d1,d2]
 have hst:f.s.st k=0∨f.s.st k=2:=by
  by_cases hm:k∈g.toList++W
  ·rcases List.mem_append.1 hm with hm|hm
   ·have:=h.cor.stg k (by simpa using hm);omega
   ·have:=h.cor.stw k hm;omega
  ·have:=h.cor.sto k hk hm;omega
 exact ⟨g,W,f.s.st k,f.pc k,h,.same rfl (by decide) (by decide) rfl,upd_self _ _,rfl,upd_self _ _,Nat.le_succ _,.inr (.inr ⟨rfl,rfl,rfl,by omega⟩),λq=>absurd q (by decide),λ_=>rfl,λq=>absurd q s1,λq=>absurd q s3,λq=>⟨q,rfl⟩⟩
end OrdJ
namespace OrdI
variable {f:FL} {W:List Nat} {L:Lp}
end OrdI
end Go.Proofs.YtkmikkjjnbikdaaGreat.Km
namespace Go.Proofs.YtkmikkjjnbikdaaGreat
open Go.RowKit
set_option linter.unusedVariables false
def sub (l:List Int) (o n:Nat):List Int:=(l.drop o).take n
theorem sub_len {l:List Int} {o n:Nat} (h:o+n≤l.length):(sub l o n).length=n:=by unfold sub;rw [List.length_take,List.length_drop];omega
theorem sub_at {l:List Int} {o n i:Nat} (hi:i<n):(sub l o n).getD i 0=l.getD (o+i) 0:=by
 unfold sub
 rw [List.getD_eq_getElem?_getD,List.getD_eq_getElem?_getD,List.getElem?_take_of_lt hi,List.getElem?_drop]
theorem sub_set {l:List Int} {o n i:Nat} (v:Int):sub (l.set (o+i) v) o n=(sub l o n).set i v:=by
 unfold sub
 rw [List.drop_set,if_neg (by omega),List.take_set,show o+i-o=i by omega]
theorem sub_set_off {l:List Int} {o n i:Nat} (v:Int) (h:i<o∨o+n≤i):sub (l.set i v) o n=sub l o n:=by
 unfold sub
 rw [List.drop_set]
 rcases h with h|h
 ·rw [if_pos h]
 ·rw [if_neg (by omega),List.take_set,List.set_eq_of_length_le (by rw [List.length_take];omega)]
def PSta.vw (ps:PSta) (o n m:Nat):PSta:=⟨sub ps.ws o n,[],List.replicate m 0,[],[]⟩
def PSta.nrm (ps:PSta) (m:Nat):PSta:=⟨ps.ws,[],List.replicate m 0,[],[]⟩
theorem load_sub {l:List Int} {o n i:Nat} (hi:i<n):loadI l ((o:Int)+i)=loadI (sub l o n) i:=by
 rw [show (o:Int)+i=((o+i:Nat):Int) by omega,load_at,load_at,sub_at hi]
theorem store_sub {l:List Int} {o n i:Nat} (v:Int):sub (storeL l ((o:Int)+i) v) o n=storeL (sub l o n) i v:=by
 unfold storeL
 rw [if_pos (by omega),if_pos (by omega),show ((o:Int)+i).toNat=o+i by omega,Int.toNat_natCast,sub_set]
theorem has_sub {l:List Int} {o n i:Nat} (hi:i<n) (h:o+n≤l.length):hasB l.length ((o:Int)+i)=true∧hasB (sub l o n).length i=true:=by
 rw [sub_len h]
 exact ⟨decide_eq_true (by omega),decide_eq_true (by omega)⟩
theorem cas_sub {l:List Int} {o n i:Nat} (hi:i<n) (h:o+n≤l.length) (old:Int):casB l ((o:Int)+i) old=casB (sub l o n) i old:=by
 unfold casB
 rw [(has_sub hi h).1,(has_sub hi h).2,load_sub hi]
section
variable {ps:PSta} {o n m u v i:Nat}
theorem ok_vw (hu:u<ps.ac.length) (hv:v<m) (hi:i<n) (h:o+n≤ps.ws.length):okT ps u ((o:Int)+i)=true∧okT (ps.vw o n m) v i=true:=by
 refine ⟨decide_eq_true (by omega),decide_eq_true ?_⟩
 have h1:(ps.vw o n m).ws.length=n:=sub_len h
 have h2:(ps.vw o n m).ac.length=m:=by simp [PSta.vw]
 omega
theorem tell_vw (hu:u<ps.ac.length) (hv:v<m) (hi:i<n) (h:o+n≤ps.ws.length) (K:Int):tellS ps u K ((o:Int)+i)=tellS (ps.vw o n m) v K i:=by
 unfold tellS okS
 rw [(ok_vw hu hv hi h).1,(ok_vw hu hv hi h).2]
 unfold tellI
 rw [load_sub hi]
 rfl
theorem do_vw (hu:u<ps.ac.length) (hv:v<m) (hi:i<n) (h:o+n≤ps.ws.length) (K old x:Int):(doS ps u K ((o:Int)+i) old x).vw o n m=(doS (ps.vw o n m) v K i old x).nrm m:=by
 unfold doS okS
 rw [(ok_vw hu hv hi h).1,(ok_vw hu hv hi h).2]
 by_cases hK:1≤K∧K≤5
 ·rw [decide_eq_true hK,Bool.and_self,if_pos rfl,if_pos rfl]
  unfold PSta.nrm
  unfold PSta.vw
  dsimp only
  congr 1
  unfold doL
  by_cases k2:K=2∨K=3
  ·rw [if_pos k2,if_pos k2];exact store_sub x
  ·rw [if_neg k2,if_neg k2]
   by_cases k4:K=4
   ·rw [if_pos k4,if_pos k4]
    unfold casL
    rw [cas_sub hi h]
    split
    ·exact store_sub x
    ·rfl
   ·rw [if_neg k4,if_neg k4]
    by_cases k5:K=5
    ·rw [if_pos k5,if_pos k5]
     unfold addL
     rw [load_sub (n:=n) hi]
     exact store_sub _
    ·rw [if_neg k5,if_neg k5]
 ·rw [decide_eq_false hK,Bool.and_false,if_neg (by decide),if_neg (by decide)]
  rfl
theorem cast_vw (hu:u<ps.ac.length) (hv:v<m) (hi:i<n) (h:o+n≤ps.ws.length) (old:Int):(okT ps u ((o:Int)+i)&&casB ps.ws ((o:Int)+i) old)=(okT (ps.vw o n m) v i&&casB (ps.vw o n m).ws i old):=by
 rw [(ok_vw hu hv hi h).1,(ok_vw hu hv hi h).2,cas_sub hi h]
 rfl
theorem do_off (K old x:Int) {o' n':Nat} (ha:o+i<o'∨o'+n'≤o+i):sub (doS ps u K ((o:Int)+i) old x).ws o' n'=sub ps.ws o' n':=by
 have key:∀ y,sub (storeL ps.ws ((o:Int)+i) y) o' n'=sub ps.ws o' n':=λy=>by
  unfold storeL
  rw [if_pos (by omega),show ((o:Int)+i).toNat=o+i by omega]
  exact sub_set_off y ha
 unfold doS
 split
 ·dsimp only
  unfold doL casL addL
  repeat' split
  all_goals first|exact key _|rfl
 ·rfl
theorem do_len' (ps:PSta) (t a K old x:Int):(doS ps t K a old x).ws.length=ps.ws.length∧(doS ps t K a old x).ac.length=ps.ac.length:=by
 unfold doS
 split
 ·dsimp only [touchS]
  exact ⟨doL_len _ _ _ _ _,bump_len _ _ _⟩
 ·exact ⟨rfl,rfl⟩
end
end Go.Proofs.YtkmikkjjnbikdaaGreat
namespace Go.Proofs.YtkmikkjjnbikdaaGreat.Kf
set_option linter.unusedVariables false
set_option maxRecDepth 100000
def FL.vw (f:FL) (o n m:Nat):FL:={f with ps:=f.ps.vw o n m}
def FL.nrm (f:FL) (m:Nat):FL:={f with ps:=f.ps.nrm m}
section
variable {f:FL} {L L0:Lp} {o m k u:Nat}
theorem did_vw (h1:L.a1=(o:Int)+(0:Nat)) (h2:L.a2=(o:Int)+(1:Nat)) (z1:L0.a1=(0:Nat)) (z2:L0.a2=(1:Nat)) (hl:o+2≤f.ps.ws.length) (hu:u<f.ps.ac.length) (hm:k<m):
  f.did L k u=(f.vw o 2 m).did L0 k k:=by
 have t0:=λK=>tell_vw (v:=k) (m:=m) (n:=2) (i:=0) hu hm (by decide) hl K
 have t1:=λK=>tell_vw (v:=k) (m:=m) (n:=2) (i:=1) hu hm (by decide) hl K
 unfold FL.did FL.acqD FL.askD
 rw [h1,h2,z1,z2,t0,t1]
 rfl
theorem mid_vw (h1:L.a1=(o:Int)+(0:Nat)) (h2:L.a2=(o:Int)+(1:Nat)) (z1:L0.a1=(0:Nat)) (z2:L0.a2=(1:Nat)) (hl:o+2≤f.ps.ws.length) (hu:u<f.ps.ac.length) (hm:k<m):
  (f.mid L k u).vw o 2 m=((f.vw o 2 m).mid L0 k k).nrm m:=by
 have t0:=λK=>tell_vw (v:=k) (m:=m) (n:=2) (i:=0) hu hm (by decide) hl K
 have d0:=λK old x=>do_vw (v:=k) (m:=m) (n:=2) (i:=0) hu hm (by decide) hl K old x
 have d1:=λK old x=>do_vw (v:=k) (m:=m) (n:=2) (i:=1) hu hm (by decide) hl K old x
 unfold FL.mid FL.acq FL.rel FL.ask
 rw [h1,h2,z1,z2,t0]
 show FL.vw (if 0≤(k:Int)∧(k:Int)<f.s.n then _ else _) o 2 m=FL.nrm (if 0≤(k:Int)∧(k:Int)<f.s.n then _ else _) m
 by_cases ht:0≤(k:Int)∧(k:Int)<f.s.n
 ·rw [if_pos ht,if_pos ht]
  show FL.vw (if f.s.st (k:Int).toNat=1 then _ else _) o 2 m=FL.nrm (if f.s.st (k:Int).toNat=1 then _ else _) m
  by_cases s1:f.s.st (k:Int).toNat=1
  ·rw [if_pos s1,if_pos s1]
   show FL.vw (if f.dr (k:Int).toNat=true then _ else _) o 2 m=FL.nrm (if f.dr (k:Int).toNat=true then _ else _) m
   by_cases hd:f.dr (k:Int).toNat=true
   ·rw [if_pos hd,if_pos hd]
    unfold FL.vw FL.nrm
    dsimp only
    rw [d1]
   ·rw [if_neg hd,if_neg hd]
    unfold FL.vw FL.nrm
    dsimp only
    rw [d0]
  ·rw [if_neg s1,if_neg s1]
   show FL.vw (if f.s.st (k:Int).toNat=3 then _ else _) o 2 m=FL.nrm (if f.s.st (k:Int).toNat=3 then _ else _) m
   by_cases s3:f.s.st (k:Int).toNat=3
   ·rw [if_pos s3,if_pos s3]
    unfold FL.vw FL.nrm
    dsimp only
    rw [d1]
   ·rw [if_neg s3,if_neg s3]
    show FL.vw (if f.s.st (k:Int).toNat=4 then _ else _) o 2 m=FL.nrm (if f.s.st (k:Int).toNat=4 then _ else _) m
    by_cases s4:f.s.st (k:Int).toNat=4
    ·rw [if_pos s4,if_pos s4]
     unfold FL.vw FL.nrm
     dsimp only
     rw [d0]
    ·rw [if_neg s4,if_neg s4]
     rfl
 ·rw [if_neg ht,if_neg ht]
  rfl
theorem step_vw (h1:L.a1=(o:Int)+(0:Nat)) (h2:L.a2=(o:Int)+(1:Nat)) (z1:L0.a1=(0:Nat)) (z2:L0.a2=(1:Nat)) (hl:o+2≤f.ps.ws.length) (hu:u<f.ps.ac.length) (hm:k<m):
  (f.step L k u).vw o 2 m=((f.vw o 2 m).step L0 k k).nrm m:=by
 have e:=mid_vw h1 h2 z1 z2 hl hu hm
 have d:=did_vw h1 h2 z1 z2 hl hu hm
 unfold FL.step
 rw [d]
 have:({f.mid L k u with s:=f.s.fin k ((f.vw o 2 m).did L0 k k).ev}:FL).vw o 2 m={(f.mid L k u).vw o 2 m with s:=f.s.fin k ((f.vw o 2 m).did L0 k k).ev}:=rfl
 rw [this,e]
 rfl
theorem step_off (h1:L.a1=(o:Int)+(0:Nat)) (h2:L.a2=(o:Int)+(1:Nat)) {o' n':Nat} (ha:o+2≤o'∨o'+n'≤o):sub (f.step L k u).ps.ws o' n'=sub f.ps.ws o' n':=by
 have key:∀ (i:Nat) K old x,i<2→sub (doS f.ps u K ((o:Int)+i) old x).ws o' n'=sub f.ps.ws o' n':=λi K old x hi=>do_off K old x (by omega)
 show sub (f.mid L k u).ps.ws o' n'=_
 unfold FL.mid FL.acq FL.rel FL.ask
 rw [h1,h2]
 repeat' split
 all_goals first|exact key 0 _ _ _ (by decide)|exact key 1 _ _ _ (by decide)|rfl
theorem step_len (t u:Int):(f.step L t u).ps.ws.length=f.ps.ws.length∧(f.step L t u).ps.ac.length=f.ps.ac.length:=by
 show (f.mid L t u).ps.ws.length=_∧(f.mid L t u).ps.ac.length=_
 unfold FL.mid FL.acq FL.rel FL.ask doS
 repeat' split
 all_goals first|exact ⟨rfl,rfl⟩|(dsimp only [touchS];exact ⟨doL_len _ _ _ _ _,bump_len _ _ _⟩)
theorem step_n (t u:Int):(f.step L t u).s.n=f.s.n:=SS.fin_n _ _ _
end
def In (f:FL) (o:Nat) (g:Option Nat) (W:List Nat):Prop:=o+2≤f.ps.ws.length∧∃ nx ow,OrdJ (f.vw o 2 f.s.n) g W nx ow
namespace In
variable {f:FL} {o:Nat} {g:Option Nat} {W:List Nat} {L:Lp}
theorem lock (h:In f o g W) (t d:Int):In (f.lock t d) o g W:=by
 obtain ⟨hl,nx,ow,h⟩:=h
 refine ⟨hl,nx,ow,?_⟩
 have e:(f.lock t d).vw o 2 (f.lock t d).s.n=(f.vw o 2 f.s.n).lock t d:=by
  show (f.lock t d).vw o 2 (f.s.lock t d).n=_
  rw [SS.lock_n];rfl
 rw [e]
 exact h.lock t d
theorem turn (h:In f o g W) (t x:Int) (hx:x=3∨x=4):In (f.turn t x) o g W:=by
 obtain ⟨hl,nx,ow,h⟩:=h
 refine ⟨hl,nx,ow,?_⟩
 have e:(f.turn t x).vw o 2 (f.turn t x).s.n=(f.vw o 2 f.s.n).turn t x:=by
  show (f.turn t x).vw o 2 (f.s.turn t x).n=_
  rw [SS.turn_n];rfl
 rw [e]
 exact h.turn t x hx
theorem far (h:In f o g W) {ps:PSta} (hl:ps.ws.length=f.ps.ws.length) (hw:sub ps.ws o 2=sub f.ps.ws o 2):In {f with ps:=ps} o g W:=by
 obtain ⟨hl0,nx,ow,h⟩:=h
 refine ⟨by show o+2≤ps.ws.length;omega,nx,ow,?_⟩
 have e:({f with ps:=ps}:FL).vw o 2 f.s.n=f.vw o 2 f.s.n:=by
  unfold FL.vw PSta.vw
  rw [hw]
 show OrdJ (({f with ps:=ps}:FL).vw o 2 f.s.n) g W nx ow
 rw [e]
 exact h
theorem step (h:In f o g W) (h1:L.a1=o) (h2:L.a2=(o:Int)+1) {k u:Nat} (hk:k<f.s.n) (hu:u<f.ps.ac.length):
  ∃ g' W',In (f.step L k u) o g' W'∧OrdJ.StepQ W k (f.did L k u) W'∧(∀ o' n',o+2≤o'∨o'+n'≤o→sub (f.step L k u).ps.ws o' n'=sub f.ps.ws o' n'):=by
 obtain ⟨hl,nx,ow,h⟩:=h
 have q1:L.a1=(o:Int)+(0:Nat):=by rw [h1];omega
 have q2:L.a2=(o:Int)+(1:Nat):=by rw [h2];omega
 obtain ⟨L0,z1,z2⟩:∃ L0:Lp,L0.a1=0∧L0.a2=1:=⟨{L with a1:=0,a2:=1},rfl,rfl⟩
 have e:=step_vw q1 q2 (by rw [z1];rfl:L0.a1=(0:Nat)) (by rw [z2];rfl:L0.a2=(1:Nat)) hl hu hk
 have d:=did_vw q1 q2 (by rw [z1];rfl:L0.a1=(0:Nat)) (by rw [z2];rfl:L0.a2=(1:Nat)) hl hu hk
 obtain ⟨g',W',nx',ow',hJ,_,hQ⟩:=h.step z1 z2 (k:Int)
 refine ⟨g',W',⟨by rw [(step_len (f:=f) (L:=L) k u).1];exact hl,nx',ow',?_⟩,?_,λo' n' ha=>step_off q1 q2 ha⟩
 ·rw [step_n,e]
  have hac:=hJ.ac
  exact hJ.psS hJ.ws (by rw [hac];show (List.replicate f.s.n 0).length=_;rw [List.length_replicate,step_n];rfl)
 ·rw [d];exact hQ
theorem company (h:In f o g W) (h1:L.a1=o) (h2:L.a2=(o:Int)+1) {k u:Nat} (hk:k<f.s.n) (hu:u<f.ps.ac.length) (hs:f.s.st k=4):((f.did L k u).ev=4∧W=[])∨((f.did L k u).ev=5∧W≠[]):=by
 obtain ⟨hl,nx,ow,h⟩:=h
 have q1:L.a1=(o:Int)+(0:Nat):=by rw [h1];omega
 have q2:L.a2=(o:Int)+(1:Nat):=by rw [h2];omega
 obtain ⟨L0,z1,z2⟩:∃ L0:Lp,L0.a1=0∧L0.a2=1:=⟨{L with a1:=0,a2:=1},rfl,rfl⟩
 rw [did_vw q1 q2 (by rw [z1];rfl:L0.a1=(0:Nat)) (by rw [z2];rfl:L0.a2=(1:Nat)) hl hu hk]
 have hg:g=some k:=h.held (k:=k) hk (.inr (.inr hs))
 subst hg
 have ht:0≤(k:Int)∧(k:Int)<(f.vw o 2 f.s.n).s.n:=by have:(f.vw o 2 f.s.n).s.n=f.s.n:=rfl;omega
 have hac:k<(f.vw o 2 f.s.n).ps.ac.length:=by rw [h.ac];exact hk
 obtain ⟨e1,_⟩:=do_load h.ws hac 0 (.inl rfl)
 have hn:=h.nxt
 have hm:=h.num 0 k rfl
 have h8:=h.len
 have hr:=h.rng
 have st4:(f.vw o 2 f.s.n).s.st k=4:=hs
 unfold FL.did
 rw [if_pos ht,Int.toNat_natCast,if_neg (by omega),if_neg (by omega),if_pos st4]
 unfold FL.askD
 rw [z1,e1,if_pos rfl,hm]
 simp only [Option.toList_some,List.length_append,List.length_singleton] at hn h8
 cases W with
 |nil=>
  left
  rw [if_pos (by simp at hn;omega)]
  exact ⟨rfl,rfl⟩
 |cons a W=>
  right
  rw [if_neg (by simp at hn h8;omega)]
  exact ⟨rfl,by simp⟩
end In
end Go.Proofs.YtkmikkjjnbikdaaGreat.Kf
namespace Go.Proofs.YtkmikkjjnbikdaaGreat.Kc
set_option linter.unusedVariables false
set_option maxRecDepth 100000
def FL.vw (f:FL) (o n m:Nat):FL:={f with ps:=f.ps.vw o n m}
def FL.nrm (f:FL) (m:Nat):FL:={f with ps:=f.ps.nrm m}
section
variable {f:FL} {L L0:Lp} {o m k u x:Nat}
structure Adr (f:FL) (L L0:Lp) (o m k u x:Nat):Prop where
 h1:L.a1=(o:Int)+(0:Nat)
 h2:L.a2=(o:Int)+1
 z1:L0.a1=(0:Nat)
 z2:L0.a2=1
 hl:o+(m+2)≤f.ps.ws.length
 hu:u<f.ps.ac.length
 hm:k<m
 hx:f.node k=(x:Int)
 hx2:x<m+1
 hy:f.s.st k=1→f.pc k≠0→f.pc k≠1→∃ y:Nat,f.ahd k=(y:Int)∧y<m+1
theorem did_vw (h:Adr f L L0 o m k u x):f.did L k u=(f.vw o (m+2) m).did L0 k k:=by
 have t:=λi K (hi:i<m+2)=>tell_vw (v:=k) (m:=m) (n:=m+2) (i:=i) h.hu h.hm hi h.hl K
 have t0:=λK=>t 0 K (by omega)
 show (if 0≤(k:Int)∧(k:Int)<f.s.n then _ else _)=(if 0≤(k:Int)∧(k:Int)<f.s.n then _ else _)
 by_cases ht:0≤(k:Int)∧(k:Int)<f.s.n
 ·rw [if_pos ht,if_pos ht,Int.toNat_natCast]
  show (if f.s.st k=1 then _ else _)=(if f.s.st k=1 then _ else _)
  by_cases s1:f.s.st k=1
  ·rw [if_pos s1,if_pos s1]
   unfold FL.acqD
   show (if f.pc k=0 then _ else _)=(if f.pc k=0 then _ else _)
   by_cases p0:f.pc k=0
   ·rw [if_pos p0,if_pos p0]
   rw [if_neg p0,if_neg p0]
   show (if f.pc k=1 then _ else _)=(if f.pc k=1 then _ else _)
   by_cases p1:f.pc k=1
   ·rw [if_pos p1,if_pos p1]
   rw [if_neg p1,if_neg p1]
   obtain ⟨y,hy,hy2⟩:=h.hy s1 p0 p1
   show (if tellS f.ps u 1 (L.a2+f.ahd k)=0 then _ else _)=(if tellS (f.ps.vw o (m+2) m) k 1 (L0.a2+f.ahd k)=0 then _ else _)
   rw [h.h2,h.z2,hy,show (o:Int)+1+y=(o:Int)+((1+y:Nat):Int) by omega,t (1+y) 1 (by omega),show (1:Int)+(y:Int)=((1+y:Nat):Int) by omega]
  ·rw [if_neg s1,if_neg s1]
   show (if f.s.st k=3 then _ else _)=(if f.s.st k=3 then _ else _)
   by_cases s3:f.s.st k=3
   ·rw [if_pos s3,if_pos s3]
   rw [if_neg s3,if_neg s3]
   show (if f.s.st k=4 then _ else _)=(if f.s.st k=4 then _ else _)
   by_cases s4:f.s.st k=4
   ·rw [if_pos s4,if_pos s4]
    unfold FL.askD
    show (if tellS f.ps u 1 L.a1=f.node k then _ else _)=(if tellS (f.ps.vw o (m+2) m) k 1 L0.a1=f.node k then _ else _)
    rw [h.h1,h.z1,t0]
   ·rw [if_neg s4,if_neg s4]
 ·rw [if_neg ht,if_neg ht]
theorem mid_vw (h:Adr f L L0 o m k u x):(f.mid L k u).vw o (m+2) m=((f.vw o (m+2) m).mid L0 k k).nrm m:=by
 have t0:=λK=>tell_vw (v:=k) (m:=m) (n:=m+2) (i:=0) h.hu h.hm (by omega) h.hl K
 have d:=λi K old x (hi:i<m+2)=>do_vw (v:=k) (m:=m) (n:=m+2) (i:=i) h.hu h.hm hi h.hl K old x
 have e2:∀ y:Nat,(o:Int)+1+(y:Int)=(o:Int)+((1+y:Nat):Int):=λy=>by omega
 have e3:∀ y:Nat,(1:Int)+(y:Int)=((1+y:Nat):Int):=λy=>by omega
 have hx2:=h.hx2
 unfold FL.mid
 show FL.vw (if 0≤(k:Int)∧(k:Int)<f.s.n then _ else _) o (m+2) m=FL.nrm (if 0≤(k:Int)∧(k:Int)<f.s.n then _ else _) m
 by_cases ht:0≤(k:Int)∧(k:Int)<f.s.n
 ·rw [if_pos ht,if_pos ht,Int.toNat_natCast]
  show FL.vw (if f.s.st k=1 then _ else _) o (m+2) m=FL.nrm (if f.s.st k=1 then _ else _) m
  by_cases s1:f.s.st k=1
  ·rw [if_pos s1,if_pos s1]
   unfold FL.acq
   show FL.vw (if f.pc k=0 then _ else _) o (m+2) m=FL.nrm (if f.pc k=0 then _ else _) m
   by_cases p0:f.pc k=0
   ·rw [if_pos p0,if_pos p0]
    unfold FL.vw FL.nrm
    dsimp only
    rw [h.h2,h.z2,h.hx,e2,d (1+x) _ _ _ (by omega),e3]
   rw [if_neg p0,if_neg p0]
   show FL.vw (if f.pc k=1 then _ else _) o (m+2) m=FL.nrm (if f.pc k=1 then _ else _) m
   by_cases p1:f.pc k=1
   ·rw [if_pos p1,if_pos p1]
    unfold FL.vw FL.nrm
    dsimp only
    rw [h.h1,h.z1,d 0 _ _ _ (by omega),t0]
   rw [if_neg p1,if_neg p1]
   obtain ⟨y,hy,hy2⟩:=h.hy s1 p0 p1
   unfold FL.vw FL.nrm
   dsimp only
   rw [h.h2,h.z2,hy,e2,d (1+y) _ _ _ (by omega),e3]
  ·rw [if_neg s1,if_neg s1]
   show FL.vw (if f.s.st k=3 then _ else _) o (m+2) m=FL.nrm (if f.s.st k=3 then _ else _) m
   by_cases s3:f.s.st k=3
   ·rw [if_pos s3,if_pos s3]
    unfold FL.rel FL.vw FL.nrm
    dsimp only
    rw [h.h2,h.z2,h.hx,e2,d (1+x) _ _ _ (by omega),e3]
   rw [if_neg s3,if_neg s3]
   show FL.vw (if f.s.st k=4 then _ else _) o (m+2) m=FL.nrm (if f.s.st k=4 then _ else _) m
   by_cases s4:f.s.st k=4
   ·rw [if_pos s4,if_pos s4]
    unfold FL.ask FL.vw FL.nrm
    dsimp only
    rw [h.h1,h.z1,d 0 _ _ _ (by omega)]
   ·rw [if_neg s4,if_neg s4]
    rfl
 ·rw [if_neg ht,if_neg ht]
  rfl
theorem step_vw (h:Adr f L L0 o m k u x):(f.step L k u).vw o (m+2) m=((f.vw o (m+2) m).step L0 k k).nrm m:=by
 have e:=mid_vw h
 have d:=did_vw h
 unfold FL.step
 rw [d]
 have:({f.mid L k u with s:=f.s.fin k ((f.vw o (m+2) m).did L0 k k).ev}:FL).vw o (m+2) m={(f.mid L k u).vw o (m+2) m with s:=f.s.fin k ((f.vw o (m+2) m).did L0 k k).ev}:=rfl
 rw [this,e]
 rfl
theorem step_off (h:Adr f L L0 o m k u x) {o' n':Nat} (ha:o+(m+2)≤o'∨o'+n'≤o):sub (f.step L k u).ps.ws o' n'=sub f.ps.ws o' n':=by
 have key:∀ (i:Nat) K old x,i<m+2→sub (doS f.ps u K ((o:Int)+i) old x).ws o' n'=sub f.ps.ws o' n':=λi K old x hi=>do_off K old x (by omega)
 have e2:∀ y:Nat,(o:Int)+1+(y:Int)=(o:Int)+((1+y:Nat):Int):=λy=>by omega
 have hx2:=h.hx2
 show sub (f.mid L k u).ps.ws o' n'=_
 unfold FL.mid
 split
 ·rw [Int.toNat_natCast]
  split
  ·rename_i s1
   unfold FL.acq
   by_cases p0:f.pc k=0
   ·rw [if_pos p0,h.h2,h.hx,e2];exact key _ _ _ _ (by omega)
   rw [if_neg p0]
   by_cases p1:f.pc k=1
   ·rw [if_pos p1,h.h1];exact key 0 _ _ _ (by omega)
   rw [if_neg p1]
   obtain ⟨y,hy,hy2⟩:=h.hy s1 p0 p1
   rw [h.h2,hy,e2];exact key _ _ _ _ (by omega)
  ·split
   ·unfold FL.rel;rw [h.h2,h.hx,e2];exact key _ _ _ _ (by omega)
   ·split
    ·unfold FL.ask;rw [h.h1];exact key 0 _ _ _ (by omega)
    ·rfl
 ·rfl
theorem step_len (t u:Int):(f.step L t u).ps.ws.length=f.ps.ws.length∧(f.step L t u).ps.ac.length=f.ps.ac.length:=by
 show (f.mid L t u).ps.ws.length=_∧(f.mid L t u).ps.ac.length=_
 unfold FL.mid FL.acq FL.rel FL.ask doS
 repeat' split
 all_goals first|exact ⟨rfl,rfl⟩|(dsimp only [touchS];exact ⟨doL_len _ _ _ _ _,bump_len _ _ _⟩)
theorem step_n (t u:Int):(f.step L t u).s.n=f.s.n:=SS.fin_n _ _ _
end
def In (f:FL) (o:Nat) (g:Option Nat) (W:List Nat):Prop:=o+(f.s.n+2)≤f.ps.ws.length∧∃ e,OrdJ (f.vw o (f.s.n+2) f.s.n) g W e
namespace In
variable {f:FL} {o:Nat} {g:Option Nat} {W:List Nat} {L:Lp}
theorem lock (h:In f o g W) (t d:Int):In (f.lock t d) o g W:=by
 obtain ⟨hl,e0,h⟩:=h
 have en:(f.lock t d).s.n=f.s.n:=SS.lock_n _ _ _
 refine ⟨by rw [en];exact hl,e0,?_⟩
 rw [en]
 exact h.lock t d
theorem turn (h:In f o g W) (t x:Int) (hx:x=3∨x=4):In (f.turn t x) o g W:=by
 obtain ⟨hl,e0,h⟩:=h
 have en:(f.turn t x).s.n=f.s.n:=SS.turn_n _ _ _
 refine ⟨by rw [en];exact hl,e0,?_⟩
 rw [en]
 exact h.turn t x hx
theorem far (h:In f o g W) {ps:PSta} (hl:ps.ws.length=f.ps.ws.length) (hw:sub ps.ws o (f.s.n+2)=sub f.ps.ws o (f.s.n+2)):In {f with ps:=ps} o g W:=by
 obtain ⟨hl0,e0,h⟩:=h
 refine ⟨by show o+(f.s.n+2)≤ps.ws.length;omega,e0,?_⟩
 have e:({f with ps:=ps}:FL).vw o (f.s.n+2) f.s.n=f.vw o (f.s.n+2) f.s.n:=by
  unfold FL.vw PSta.vw
  rw [hw]
 show OrdJ (({f with ps:=ps}:FL).vw o (f.s.n+2) f.s.n) g W e0
 rw [e]
 exact h
theorem adr {e0:Int} (hl:o+(f.s.n+2)≤f.ps.ws.length) (h:OrdJ (f.vw o (f.s.n+2) f.s.n) g W e0) (h1:L.a1=o) (h2:L.a2=(o:Int)+1) {k u:Nat} (hk:k<f.s.n) (hu:u<f.ps.ac.length):∃ x,Adr f L {L with a1:=0,a2:=1} o f.s.n k u x:=by
 obtain ⟨x,hx,hx2⟩:=h.flagN (k:=k) hk
 refine ⟨x,by rw [h1];omega,h2,rfl,rfl,hl,hu,hk,hx,hx2,λs1 p0 p1=> ?_⟩
 have p2:f.pc k=2:=by have:=h.prg k;have e:(f.vw o (f.s.n+2) f.s.n).pc k=f.pc k:=rfl;rw [e] at this;omega
 have hm:=h.waits (k:=k) hk s1 p2
 rcases h.looks hm with ⟨_,_,_,he⟩|⟨j,hj,_,he⟩
 ·obtain ⟨y,hy,hy2⟩:=h.flagE
  exact ⟨y,by have:f.ahd k=e0:=he;rw [this,hy],hy2⟩
 ·obtain ⟨y,hy,hy2⟩:=h.flagN (k:=j) hj
  exact ⟨y,by have:f.ahd k=f.node j:=he;rw [this];exact hy,hy2⟩
theorem step (h:In f o g W) (h1:L.a1=o) (h2:L.a2=(o:Int)+1) {k u:Nat} (hk:k<f.s.n) (hu:u<f.ps.ac.length):
  ∃ g' W',In (f.step L k u) o g' W'∧OrdJ.StepQ W k (f.did L k u) W'∧(∀ o' n',o+(f.s.n+2)≤o'∨o'+n'≤o→sub (f.step L k u).ps.ws o' n'=sub f.ps.ws o' n'):=by
 obtain ⟨hl,e0,h⟩:=h
 obtain ⟨x,hA⟩:=adr hl h h1 h2 hk hu
 have e:=step_vw hA
 have d:=did_vw hA
 obtain ⟨g',W',e',hJ,_,hQ⟩:=h.step (L:={L with a1:=0,a2:=1}) rfl rfl (k:Int)
 refine ⟨g',W',⟨by rw [step_n,(step_len (f:=f) (L:=L) k u).1];exact hl,e',?_⟩,?_,λo' n' ha=>step_off hA ha⟩
 ·rw [step_n,e]
  have hac:=hJ.ac
  exact hJ.psS rfl (by rw [hac];show (List.replicate f.s.n 0).length=_;rw [List.length_replicate,step_n];rfl)
 ·rw [d];exact hQ
theorem company (h:In f o g W) (h1:L.a1=o) (h2:L.a2=(o:Int)+1) {k u:Nat} (hk:k<f.s.n) (hu:u<f.ps.ac.length) (hs:f.s.st k=4) (hW:W=[]):(f.did L k u).ev=4:=by
 obtain ⟨hl,e0,h⟩:=h
 subst hW
 obtain ⟨x,hA⟩:=adr hl h h1 h2 hk hu
 rw [did_vw hA]
 have hg:g=some k:=h.held (k:=k) hk (.inr (.inr hs))
 subst hg
 have ht:0≤(k:Int)∧(k:Int)<(f.vw o (f.s.n+2) f.s.n).s.n:=by have:(f.vw o (f.s.n+2) f.s.n).s.n=f.s.n:=rfl;omega
 have hac:k<(f.vw o (f.s.n+2) f.s.n).ps.ac.length:=by rw [h.ac];exact hk
 obtain ⟨fl,w1,_⟩:=h.ws
 obtain ⟨e1,_⟩:=do_load (a:=0) (i:=0) w1 hac rfl (by simp)
 have st4:(f.vw o (f.s.n+2) f.s.n).s.st k=4:=hs
 unfold FL.did
 rw [if_pos ht,Int.toNat_natCast,if_neg (by omega),if_neg (by omega),if_pos st4]
 unfold FL.askD
 rw [show ({L with a1:=0,a2:=1}:Lp).a1=0 from rfl,e1,if_pos (by rfl)]
end In
end Go.Proofs.YtkmikkjjnbikdaaGreat.Kc
namespace Go.Proofs.YtkmikkjjnbikdaaGreat.Km
set_option linter.unusedVariables false
set_option maxRecDepth 100000
def FL.vw (f:FL) (o n m:Nat):FL:={f with ps:=f.ps.vw o n m}
def FL.nrm (f:FL) (m:Nat):FL:={f with ps:=f.ps.nrm m}
section
variable {f:FL} {L L0:Lp} {o m k u:Nat}
structure Adr (f:FL) (L L0:Lp) (o m k u:Nat):Prop where
 h1:L.a1=(o:Int)+(0:Nat)
 h2:L.a2=(o:Int)+1
 z1:L0.a1=(0:Nat)
 z2:L0.a2=1
 hl:o+(2*m+1)≤f.ps.ws.length
 hu:u<f.ps.ac.length
 hm:k<m
 hy:f.s.st k=1→f.pc k=3→∃ y:Nat,f.oth k=(y:Int)+1∧y<m
 hz:f.s.st k=3→f.pc k≠0→f.pc k≠1→f.pc k≠2→∃ y:Nat,f.oth k=(y:Int)+1∧y<m
theorem nx_o (h:Adr f L L0 o m k u) (y:Nat):L.nx (y:Int)=(o:Int)+((1+2*y:Nat):Int)∧L0.nx (y:Int)=((1+2*y:Nat):Int):=by
 unfold Lp.nx;rw [h.h2,h.z2];omega
theorem lk_o (h:Adr f L L0 o m k u) (y:Nat):L.lk (y:Int)=(o:Int)+((2+2*y:Nat):Int)∧L0.lk (y:Int)=((2+2*y:Nat):Int):=by
 unfold Lp.lk;rw [h.h2,h.z2];omega
theorem cas_o (h:Adr f L L0 o m k u) (old:Int):casT f.ps u L.a1 old=casT (f.ps.vw o (2*m+1) m) k L0.a1 old:=by
 rw [h.h1,h.z1]
 exact cast_vw h.hu h.hm (by omega) h.hl old
theorem did_vw (h:Adr f L L0 o m k u):f.did L k u=(f.vw o (2*m+1) m).did L0 k k:=by
 have t:=λi K (hi:i<2*m+1)=>tell_vw (v:=k) (m:=m) (n:=2*m+1) (i:=i) h.hu h.hm hi h.hl K
 have t0:∀ K,tellS f.ps u K L.a1=tellS (f.ps.vw o (2*m+1) m) k K L0.a1:=λK=>by rw [h.h1,h.z1];exact t 0 K (by omega)
 have hm:=h.hm
 have tn:∀ K,tellS f.ps u K (L.nx (k:Int))=tellS (f.ps.vw o (2*m+1) m) k K (L0.nx (k:Int)):=λK=>by rw [(nx_o h k).1,(nx_o h k).2];exact t _ K (by omega)
 have tk:∀ K,tellS f.ps u K (L.lk (k:Int))=tellS (f.ps.vw o (2*m+1) m) k K (L0.lk (k:Int)):=λK=>by rw [(lk_o h k).1,(lk_o h k).2];exact t _ K (by omega)
 unfold FL.did FL.acqD FL.relD FL.askD
 rw [Int.toNat_natCast,t0,tk,tn,cas_o h]
 rfl
theorem mid_vw (h:Adr f L L0 o m k u):(f.mid L k u).vw o (2*m+1) m=((f.vw o (2*m+1) m).mid L0 k k).nrm m:=by
 have t:=λi K (hi:i<2*m+1)=>tell_vw (v:=k) (m:=m) (n:=2*m+1) (i:=i) h.hu h.hm hi h.hl K
 have hm:=h.hm
 have d:=λi K old x (hi:i<2*m+1)=>do_vw (v:=k) (m:=m) (n:=2*m+1) (i:=i) h.hu h.hm hi h.hl K old x
 have t0:∀ K,tellS f.ps u K L.a1=tellS (f.ps.vw o (2*m+1) m) k K L0.a1:=λK=>by rw [h.h1,h.z1];exact t 0 K (by omega)
 have tn:∀ K,tellS f.ps u K (L.nx (k:Int))=tellS (f.ps.vw o (2*m+1) m) k K (L0.nx (k:Int)):=λK=>by rw [(nx_o h k).1,(nx_o h k).2];exact t _ K (by omega)
 have tk:∀ K,tellS f.ps u K (L.lk (k:Int))=tellS (f.ps.vw o (2*m+1) m) k K (L0.lk (k:Int)):=λK=>by rw [(lk_o h k).1,(lk_o h k).2];exact t _ K (by omega)
 have d0:∀ K old x,(doS f.ps u K L.a1 old x).vw o (2*m+1) m=(doS (f.ps.vw o (2*m+1) m) k K L0.a1 old x).nrm m:=λK old x=>by rw [h.h1,h.z1];exact d 0 K old x (by omega)
 have dn:∀ (y:Nat) K old x,y<m→(doS f.ps u K (L.nx (y:Int)) old x).vw o (2*m+1) m=(doS (f.ps.vw o (2*m+1) m) k K (L0.nx (y:Int)) old x).nrm m:=λy K old x hy=>by rw [(nx_o h y).1,(nx_o h y).2];exact d _ K old x (by omega)
 have dk:∀ (y:Nat) K old x,y<m→(doS f.ps u K (L.lk (y:Int)) old x).vw o (2*m+1) m=(doS (f.ps.vw o (2*m+1) m) k K (L0.lk (y:Int)) old x).nrm m:=λy K old x hy=>by rw [(lk_o h y).1,(lk_o h y).2];exact d _ K old x (by omega)
 have cc:=cas_o h
 unfold FL.mid
 show FL.vw (if 0≤(k:Int)∧(k:Int)<f.s.n then _ else _) o (2*m+1) m=FL.nrm (if 0≤(k:Int)∧(k:Int)<f.s.n then _ else _) m
 by_cases ht:0≤(k:Int)∧(k:Int)<f.s.n
 ·rw [if_pos ht,if_pos ht,Int.toNat_natCast]
  show FL.vw (if f.s.st k=1 then _ else _) o (2*m+1) m=FL.nrm (if f.s.st k=1 then _ else _) m
  by_cases s1:f.s.st k=1
  ·rw [if_pos s1,if_pos s1]
   unfold FL.acq
   show FL.vw (if f.pc k=0 then _ else _) o (2*m+1) m=FL.nrm (if f.pc k=0 then _ else _) m
   by_cases p0:f.pc k=0
   ·rw [if_pos p0,if_pos p0]
    unfold FL.vw FL.nrm
    dsimp only
    rw [dn k _ _ _ hm]
   rw [if_neg p0,if_neg p0]
   show FL.vw (if f.pc k=1 then _ else _) o (2*m+1) m=FL.nrm (if f.pc k=1 then _ else _) m
   by_cases p1:f.pc k=1
   ·rw [if_pos p1,if_pos p1]
    unfold FL.vw FL.nrm
    dsimp only
    rw [d0,t0]
   rw [if_neg p1,if_neg p1]
   show FL.vw (if f.pc k=2 then _ else _) o (2*m+1) m=FL.nrm (if f.pc k=2 then _ else _) m
   by_cases p2:f.pc k=2
   ·rw [if_pos p2,if_pos p2]
    unfold FL.vw FL.nrm
    dsimp only
    rw [dk k _ _ _ hm]
   rw [if_neg p2,if_neg p2]
   show FL.vw (if f.pc k=3 then _ else _) o (2*m+1) m=FL.nrm (if f.pc k=3 then _ else _) m
   by_cases p3:f.pc k=3
   ·rw [if_pos p3,if_pos p3]
    obtain ⟨y,hy,hy2⟩:=h.hy s1 p3
    unfold FL.vw FL.nrm
    dsimp only
    rw [hy,show (y:Int)+1-1=(y:Int) by omega,dn y _ _ _ hy2]
   rw [if_neg p3,if_neg p3]
   unfold FL.vw FL.nrm
   dsimp only
   rw [dk k _ _ _ hm,tk]
  ·rw [if_neg s1,if_neg s1]
   show FL.vw (if f.s.st k=3 then _ else _) o (2*m+1) m=FL.nrm (if f.s.st k=3 then _ else _) m
   by_cases s3:f.s.st k=3
   ·rw [if_pos s3,if_pos s3]
    unfold FL.rel
    show FL.vw (if f.pc k=0 then _ else _) o (2*m+1) m=FL.nrm (if f.pc k=0 then _ else _) m
    by_cases p0:f.pc k=0
    ·rw [if_pos p0,if_pos p0]
     unfold FL.vw FL.nrm
     dsimp only
     rw [dn k _ _ _ hm,tn]
    rw [if_neg p0,if_neg p0]
    show FL.vw (if f.pc k=1 then _ else _) o (2*m+1) m=FL.nrm (if f.pc k=1 then _ else _) m
    by_cases p1:f.pc k=1
    ·rw [if_pos p1,if_pos p1]
     unfold FL.vw FL.nrm
     dsimp only
     rw [d0,cc]
    rw [if_neg p1,if_neg p1]
    show FL.vw (if f.pc k=2 then _ else _) o (2*m+1) m=FL.nrm (if f.pc k=2 then _ else _) m
    by_cases p2:f.pc k=2
    ·rw [if_pos p2,if_pos p2]
     unfold FL.vw FL.nrm
     dsimp only
     rw [dn k _ _ _ hm,tn]
    rw [if_neg p2,if_neg p2]
    obtain ⟨y,hy,hy2⟩:=h.hz s3 p0 p1 p2
    unfold FL.vw FL.nrm
    dsimp only
    rw [hy,show (y:Int)+1-1=(y:Int) by omega,dk y _ _ _ hy2]
   ·rw [if_neg s3,if_neg s3]
    show FL.vw (if f.s.st k=4 then _ else _) o (2*m+1) m=FL.nrm (if f.s.st k=4 then _ else _) m
    by_cases s4:f.s.st k=4
    ·rw [if_pos s4,if_pos s4]
     unfold FL.ask FL.vw FL.nrm
     dsimp only
     rw [dn k _ _ _ hm]
    ·rw [if_neg s4,if_neg s4]
     rfl
 ·rw [if_neg ht,if_neg ht]
  rfl
theorem step_vw (h:Adr f L L0 o m k u):(f.step L k u).vw o (2*m+1) m=((f.vw o (2*m+1) m).step L0 k k).nrm m:=by
 have e:=mid_vw h
 have d:=did_vw h
 unfold FL.step
 rw [d]
 have:({f.mid L k u with s:=f.s.fin k ((f.vw o (2*m+1) m).did L0 k k).ev}:FL).vw o (2*m+1) m={(f.mid L k u).vw o (2*m+1) m with s:=f.s.fin k ((f.vw o (2*m+1) m).did L0 k k).ev}:=rfl
 rw [this,e]
 rfl
theorem step_off (h:Adr f L L0 o m k u) {o' n':Nat} (ha:o+(2*m+1)≤o'∨o'+n'≤o):sub (f.step L k u).ps.ws o' n'=sub f.ps.ws o' n':=by
 have hm:=h.hm
 have key:∀ (i:Nat) K old x,i<2*m+1→sub (doS f.ps u K ((o:Int)+i) old x).ws o' n'=sub f.ps.ws o' n':=λi K old x hi=>do_off K old x (by omega)
 have k0:∀ K old x,sub (doS f.ps u K L.a1 old x).ws o' n'=sub f.ps.ws o' n':=λK old x=>by rw [h.h1];exact key 0 K old x (by omega)
 have kn:∀ (y:Nat) K old x,y<m→sub (doS f.ps u K (L.nx (y:Int)) old x).ws o' n'=sub f.ps.ws o' n':=λy K old x hy=>by rw [(nx_o h y).1];exact key _ K old x (by omega)
 have kk:∀ (y:Nat) K old x,y<m→sub (doS f.ps u K (L.lk (y:Int)) old x).ws o' n'=sub f.ps.ws o' n':=λy K old x hy=>by rw [(lk_o h y).1];exact key _ K old x (by omega)
 show sub (f.mid L k u).ps.ws o' n'=_
 unfold FL.mid
 split
 ·rw [Int.toNat_natCast]
  split
  ·rename_i s1
   unfold FL.acq
   by_cases p0:f.pc k=0
   ·rw [if_pos p0];exact kn k _ _ _ hm
   rw [if_neg p0]
   by_cases p1:f.pc k=1
   ·rw [if_pos p1];exact k0 _ _ _
   rw [if_neg p1]
   by_cases p2:f.pc k=2
   ·rw [if_pos p2];exact kk k _ _ _ hm
   rw [if_neg p2]
   by_cases p3:f.pc k=3
   ·rw [if_pos p3]
    obtain ⟨y,hy,hy2⟩:=h.hy s1 p3
    rw [hy,show (y:Int)+1-1=(y:Int) by omega]
    exact kn y _ _ _ hy2
   rw [if_neg p3]
   exact kk k _ _ _ hm
  ·split
   ·rename_i s3
    unfold FL.rel
    by_cases p0:f.pc k=0
    ·rw [if_pos p0];exact kn k _ _ _ hm
    rw [if_neg p0]
    by_cases p1:f.pc k=1
    ·rw [if_pos p1];exact k0 _ _ _
    rw [if_neg p1]
    by_cases p2:f.pc k=2
    ·rw [if_pos p2];exact kn k _ _ _ hm
    rw [if_neg p2]
    obtain ⟨y,hy,hy2⟩:=h.hz s3 p0 p1 p2
    rw [hy,show (y:Int)+1-1=(y:Int) by omega]
    exact kk y _ _ _ hy2
   ·split
    ·unfold FL.ask;exact kn k _ _ _ hm
    ·rfl
 ·rfl
theorem step_len (t u:Int):(f.step L t u).ps.ws.length=f.ps.ws.length∧(f.step L t u).ps.ac.length=f.ps.ac.length:=by
 show (f.mid L t u).ps.ws.length=_∧(f.mid L t u).ps.ac.length=_
 unfold FL.mid FL.acq FL.rel FL.ask
 repeat' split
 all_goals first|exact ⟨rfl,rfl⟩|exact do_len' _ _ _ _ _ _
theorem step_n (t u:Int):(f.step L t u).s.n=f.s.n:=SS.fin_n _ _ _
end
def In (f:FL) (o:Nat) (g:Option Nat) (W:List Nat):Prop:=o+(2*f.s.n+1)≤f.ps.ws.length∧OrdJ (f.vw o (2*f.s.n+1) f.s.n) g W
namespace In
variable {f:FL} {o:Nat} {g:Option Nat} {W:List Nat} {L:Lp}
theorem lock (h:In f o g W) (t d:Int):In (f.lock t d) o g W:=by
 obtain ⟨hl,h⟩:=h
 have en:(f.lock t d).s.n=f.s.n:=SS.lock_n _ _ _
 refine ⟨by rw [en];exact hl,?_⟩
 rw [en]
 exact h.lock t d
theorem turn (h:In f o g W) (t x:Int) (hx:x=3∨x=4):In (f.turn t x) o g W:=by
 obtain ⟨hl,h⟩:=h
 have en:(f.turn t x).s.n=f.s.n:=SS.turn_n _ _ _
 refine ⟨by rw [en];exact hl,?_⟩
 rw [en]
 exact h.turn t x hx
theorem far (h:In f o g W) {ps:PSta} (hl:ps.ws.length=f.ps.ws.length) (hw:sub ps.ws o (2*f.s.n+1)=sub f.ps.ws o (2*f.s.n+1)):In {f with ps:=ps} o g W:=by
 obtain ⟨hl0,h⟩:=h
 refine ⟨by show o+(2*f.s.n+1)≤ps.ws.length;omega,?_⟩
 have e:({f with ps:=ps}:FL).vw o (2*f.s.n+1) f.s.n=f.vw o (2*f.s.n+1) f.s.n:=by
  unfold FL.vw PSta.vw
  rw [hw]
 show OrdJ (({f with ps:=ps}:FL).vw o (2*f.s.n+1) f.s.n) g W
 rw [e]
 exact h
theorem adr (hl:o+(2*f.s.n+1)≤f.ps.ws.length) (h:OrdJ (f.vw o (2*f.s.n+1) f.s.n) g W) (h1:L.a1=o) (h2:L.a2=(o:Int)+1) {k u:Nat} (hk:k<f.s.n) (hu:u<f.ps.ac.length):Adr f L {L with a1:=0,a2:=1} o f.s.n k u:=by
 refine ⟨by rw [h1];omega,h2,rfl,rfl,hl,hu,hk,λs1 p3=> ?_,λs3 p0 p1 p2=> ?_⟩
 ·obtain ⟨i,hi,ho⟩:=h.cor.ahead (k:=k) hk s1 (.inr p3)
  exact ⟨i,ho,hi⟩
 ·have hg:=h.cor.held (k:=k) hk (.inr (.inl s3))
  have hp:f.pc k≤3:=h.cor.pc3 k hk s3
  have hr:0≤f.pc k:=(h.cor.prg k).1
  obtain ⟨j,r,hW,ho,_⟩:=h.cor.un3 k hg s3 (by show f.pc k=3;omega)
  exact ⟨j,ho,h.cor.lt j (by rw [hW];simp)⟩
theorem step (h:In f o g W) (h1:L.a1=o) (h2:L.a2=(o:Int)+1) {k u:Nat} (hk:k<f.s.n) (hu:u<f.ps.ac.length):
  ∃ g' W',In (f.step L k u) o g' W'∧OrdJ.StepQ W k (f.did L k u) W'∧(∀ o' n',o+(2*f.s.n+1)≤o'∨o'+n'≤o→sub (f.step L k u).ps.ws o' n'=sub f.ps.ws o' n'):=by
 obtain ⟨hl,h⟩:=h
 have hA:=adr hl h h1 h2 hk hu
 have e:=step_vw hA
 have d:=did_vw hA
 obtain ⟨g',W',x,p,hS⟩:=h.stp (L:={L with a1:=0,a2:=1}) rfl rfl (k:=k) hk
 have hJ:=hS.ord
 refine ⟨g',W',⟨by rw [step_n,(step_len (f:=f) (L:=L) k u).1];exact hl,?_⟩,?_,λo' n' ha=>step_off hA ha⟩
 ·rw [step_n,e]
  exact ⟨hJ.n8,hJ.len,by show (List.replicate f.s.n 0).length=_;rw [List.length_replicate];exact (step_n (f:=f.vw o (2*f.s.n+1) f.s.n) (k:Int) (k:Int)).symm,hJ.cor⟩
 ·rw [d];exact hS.q
theorem company (h:In f o g W) (h1:L.a1=o) (h2:L.a2=(o:Int)+1) {k u:Nat} (hk:k<f.s.n) (hu:u<f.ps.ac.length) (hs:f.s.st k=4) (hW:W=[]):(f.did L k u).ev=4:=by
 obtain ⟨hl,h⟩:=h
 subst hW
 have hA:=adr hl h h1 h2 hk hu
 rw [did_vw hA]
 have hg:g=some k:=h.cor.held (k:=k) hk (.inr (.inr hs))
 subst hg
 have hac:k<(f.vw o (2*f.s.n+1) f.s.n).ps.ac.length:=by rw [h.ac];exact hk
 have hlen:=h.len
 have hk2:k<(f.vw o (2*f.s.n+1) f.s.n).s.n:=hk
 obtain ⟨e1,_⟩:=do_load hac (OrdJ.nxA (L:={L with a1:=0,a2:=1}) rfl k) (show 1+2*k<(f.vw o (2*f.s.n+1) f.s.n).ps.ws.length by omega)
 have hn:wN (f.vw o (2*f.s.n+1) f.s.n).ps k=0:=h.cor.ch
 rw [(OrdJ.at_four (L:={L with a1:=0,a2:=1}) (f:=f.vw o (2*f.s.n+1) f.s.n) hk hs).1]
 unfold FL.askD
 rw [e1]
 unfold wN at hn
 rw [hn,if_pos rfl]
end In
end Go.Proofs.YtkmikkjjnbikdaaGreat.Km
namespace Go.Proofs.YtkmikkjjnbikdaaGreat
set_option linter.unusedVariables false
set_option maxRecDepth 100000
namespace Kf
theorem did_at {f:FL} {L:Lp} {k u:Nat} (hk:k<f.s.n):
  (f.s.st k=1→((f.did L k u).ev=0∨(f.did L k u).ev=1)∧(f.did L k u).arr=false∧(f.did L k u).lead=false)∧
  (f.s.st k=3→((f.did L k u).ev=0∨(f.did L k u).ev=3)∧(f.did L k u).enq=false)∧
  (f.s.st k=4→((f.did L k u).ev=4∨(f.did L k u).ev=5)∧(f.did L k u).enq=false)∧
  (f.s.st k≠1→f.s.st k≠3→f.s.st k≠4→f.did L k u=Dd.no):=by
 have ht:(0:Int)≤(k:Int)∧(k:Int)<f.s.n:=by omega
 unfold FL.did
 rw [if_pos ht,Int.toNat_natCast]
 refine ⟨λe=> ?_,λe=> ?_,λe=> ?_,λe1 e3 e4=> ?_⟩
 ·rw [if_pos e]
  unfold FL.acqD Dd.no
  repeat' split
  all_goals simp
 ·rw [if_neg (by omega),if_pos e]
  skip
  repeat' split
  all_goals simp
 ·rw [if_neg (by omega),if_neg (by omega),if_pos e]
  unfold FL.askD
  repeat' split
  all_goals simp
 ·rw [if_neg e1,if_neg e3,if_neg e4]
theorem step_s (f:FL) (L:Lp) (t u:Int):(f.step L t u).s=f.s.fin t (f.did L t u).ev:=rfl
def lp (a:Int):Lp:={lb:=0,p:=0,b:=0,tb:=0,a1:=a,a2:=a+1,q:=⟨0,0,0,0,0,0,0,0,0,0,0,0,.slice none 0 0⟩,hs:=[]}
theorem step_lp {L:Lp} (h:L.a2=L.a1+1) (f:FL) (t u:Int):f.step L t u=f.step (lp L.a1) t u∧f.did L t u=f.did (lp L.a1) t u:=by
 have e1:(lp L.a1).a1=L.a1:=rfl
 have e2:(lp L.a1).a2=L.a2:=h.symm
 have d:f.did L t u=f.did (lp L.a1) t u:=by
  unfold FL.did FL.acqD FL.askD
  rw [e1,e2]
 refine ⟨?_,d⟩
 unfold FL.step
 rw [d]
 have m:f.mid L t u=f.mid (lp L.a1) t u:=by
  unfold FL.mid FL.acq FL.rel FL.ask
  rw [e1,e2]
 rw [m]
end Kf
namespace Kc
theorem did_at {f:FL} {L:Lp} {k u:Nat} (hk:k<f.s.n):
  (f.s.st k=1→((f.did L k u).ev=0∨(f.did L k u).ev=1)∧(f.did L k u).arr=false∧(f.did L k u).lead=false)∧
  (f.s.st k=3→((f.did L k u).ev=0∨(f.did L k u).ev=3)∧(f.did L k u).enq=false)∧
  (f.s.st k=4→((f.did L k u).ev=4∨(f.did L k u).ev=5)∧(f.did L k u).enq=false)∧
  (f.s.st k≠1→f.s.st k≠3→f.s.st k≠4→f.did L k u=Dd.no):=by
 have ht:(0:Int)≤(k:Int)∧(k:Int)<f.s.n:=by omega
 unfold FL.did
 rw [if_pos ht,Int.toNat_natCast]
 refine ⟨λe=> ?_,λe=> ?_,λe=> ?_,λe1 e3 e4=> ?_⟩
 ·rw [if_pos e]
  unfold FL.acqD Dd.no
  repeat' split
  all_goals simp
 ·rw [if_neg (by omega),if_pos e]
  skip
  repeat' split
  all_goals simp
 ·rw [if_neg (by omega),if_neg (by omega),if_pos e]
  unfold FL.askD
  repeat' split
  all_goals simp
 ·rw [if_neg e1,if_neg e3,if_neg e4]
theorem step_s (f:FL) (L:Lp) (t u:Int):(f.step L t u).s=f.s.fin t (f.did L t u).ev:=rfl
def lp (a:Int):Lp:={lb:=0,p:=0,b:=0,tb:=0,a1:=a,a2:=a+1,q:=⟨0,0,0,0,0,0,0,0,0,0,0,0,.slice none 0 0⟩,hs:=[]}
theorem step_lp {L:Lp} (h:L.a2=L.a1+1) (f:FL) (t u:Int):f.step L t u=f.step (lp L.a1) t u∧f.did L t u=f.did (lp L.a1) t u:=by
 have e1:(lp L.a1).a1=L.a1:=rfl
 have e2:(lp L.a1).a2=L.a2:=h.symm
 have d:f.did L t u=f.did (lp L.a1) t u:=by
  unfold FL.did FL.acqD FL.askD
  rw [e1,e2]
 refine ⟨?_,d⟩
 unfold FL.step
 rw [d]
 have m:f.mid L t u=f.mid (lp L.a1) t u:=by
  unfold FL.mid FL.acq FL.rel FL.ask
  rw [e1,e2]
 rw [m]
end Kc
namespace Km
theorem did_at {f:FL} {L:Lp} {k u:Nat} (hk:k<f.s.n):
  (f.s.st k=1→((f.did L k u).ev=0∨(f.did L k u).ev=1)∧(f.did L k u).arr=false∧(f.did L k u).lead=false)∧
  (f.s.st k=3→((f.did L k u).ev=0∨(f.did L k u).ev=3)∧(f.did L k u).enq=false)∧
  (f.s.st k=4→((f.did L k u).ev=4∨(f.did L k u).ev=5)∧(f.did L k u).enq=false)∧
  (f.s.st k≠1→f.s.st k≠3→f.s.st k≠4→f.did L k u=Dd.no):=by
 have ht:(0:Int)≤(k:Int)∧(k:Int)<f.s.n:=by omega
 unfold FL.did
 rw [if_pos ht,Int.toNat_natCast]
 refine ⟨λe=> ?_,λe=> ?_,λe=> ?_,λe1 e3 e4=> ?_⟩
 ·rw [if_pos e]
  unfold FL.acqD Dd.no
  repeat' split
  all_goals simp
 ·rw [if_neg (by omega),if_pos e]
  unfold FL.relD Dd.no
  repeat' split
  all_goals simp
 ·rw [if_neg (by omega),if_neg (by omega),if_pos e]
  unfold FL.askD
  repeat' split
  all_goals simp
 ·rw [if_neg e1,if_neg e3,if_neg e4]
theorem step_s (f:FL) (L:Lp) (t u:Int):(f.step L t u).s=f.s.fin t (f.did L t u).ev:=rfl
def lp (a:Int):Lp:={lb:=0,p:=0,b:=0,tb:=0,a1:=a,a2:=a+1,q:=⟨0,0,0,0,0,0,0,0,0,0,0,0,.slice none 0 0⟩,hs:=[]}
theorem step_lp {L:Lp} (h:L.a2=L.a1+1) (f:FL) (t u:Int):f.step L t u=f.step (lp L.a1) t u∧f.did L t u=f.did (lp L.a1) t u:=by
 have e1:(lp L.a1).a1=L.a1:=rfl
 have e2:(lp L.a1).a2=L.a2:=h.symm
 have d:f.did L t u=f.did (lp L.a1) t u:=by
  unfold FL.did FL.acqD FL.relD FL.askD Lp.nx Lp.lk
  rw [e1,e2]
 refine ⟨?_,d⟩
 unfold FL.step
 rw [d]
 have m:f.mid L t u=f.mid (lp L.a1) t u:=by
  unfold FL.mid FL.acq FL.rel FL.ask Lp.nx Lp.lk
  rw [e1,e2]
 rw [m]
end Km
structure Qf (s:SS) (g:Option Nat) (W:List Nat):Prop where
 n8:s.n≤8
 nodup:(g.toList++W).Nodup
 lt:∀ k∈g.toList++W,k<s.n
 stg:∀ k,g=some k→s.st k=2∨s.st k=3∨s.st k=4
 stw:∀ k∈W,s.st k=1
 sto:∀ k,k<s.n→k∉g.toList++W→s.st k=0∨s.st k=1
inductive StI (W:List Nat) (k:Nat) (d:Dd) (W':List Nat):Prop where
 |same (h0:d.enq=false) (h1:d.ev≠1) (e:W'=W):StI W k d W'
 |enq (hd:d=⟨0,true,false,false⟩) (e:W'=W++[k]):StI W k d W'
 |grant (hd:d=⟨1,false,false,false⟩) (e:W=k::W'):StI W k d W'
 |both (hd:d=⟨1,true,false,false⟩) (e:W=[]) (e':W'=[]):StI W k d W'
theorem Kf.In.qf {f:Kf.FL} {o:Nat} {g:Option Nat} {W:List Nat} (h:Kf.In f o g W):Qf f.s g W:=by
 obtain ⟨_,nx,ow,h⟩:=h
 exact ⟨h.n8,h.nodup,h.lt,h.stg,h.stw,h.sto⟩
theorem Kc.In.qf {f:Kc.FL} {o:Nat} {g:Option Nat} {W:List Nat} (h:Kc.In f o g W):Qf f.s g W:=by
 obtain ⟨_,e,h⟩:=h
 exact ⟨h.n8,h.nodup,h.lt,h.stg,h.stw,h.sto⟩
theorem Km.In.qf {f:Km.FL} {o:Nat} {g:Option Nat} {W:List Nat} (h:Km.In f o g W):Qf f.s g W:=by
 obtain ⟨_,h⟩:=h
 exact ⟨h.n8,h.cor.nodup,h.cor.lt,h.cor.stg,h.cor.stw,h.cor.sto⟩
theorem Kf.sti {W W':List Nat} {k:Nat} {d:Dd} (h:Kf.OrdJ.StepQ W k d W'):StI W k d W':=by
 cases h with
 |same h0 h1 h2 e=>exact .same h0 h1 e
 |enq hd j ht e=>obtain rfl:k=j:=by omega
                 exact .enq hd e
 |grant hd j ht e hn=>obtain rfl:k=j:=by omega
                      exact .grant hd e
theorem Kc.sti {W W':List Nat} {k:Nat} {d:Dd} (h:Kc.OrdJ.StepQ W k d W'):StI W k d W':=by
 cases h with
 |same h0 h1 h2 e=>exact .same h0 h1 e
 |enq hd j ht e=>obtain rfl:k=j:=by omega
                 exact .enq hd e
 |grant hd j ht e hn=>obtain rfl:k=j:=by omega
                      exact .grant hd e
theorem Km.sti {W W':List Nat} {k:Nat} {d:Dd} (h:Km.OrdJ.StepQ W k d W'):StI W k d W':=by
 cases h with
 |same h0 h1 h2 e=>exact .same h0 h1 e
 |enq hd j ht e=>obtain rfl:k=j:=by omega
                 exact .enq hd e
 |grant hd j ht e hn=>obtain rfl:k=j:=by omega
                      exact .grant hd e
 |both hd j ht e e'=>exact .both hd e e'
structure Ip where
 lb:Nat
 p:Nat
 b:Nat
 tb:Nat
 a:Nat
 ty:Nat
 lo:Nat
 hi:Nat
inductive Inn where
 |tk (f:Kf.FL)
 |cl (f:Kc.FL)
 |mc (f:Km.FL)
namespace Inn
def s:Inn→SS
 |tk f=>f.s
 |cl f=>f.s
 |mc f=>f.s
def ps:Inn→PSta
 |tk f=>f.ps
 |cl f=>f.ps
 |mc f=>f.ps
def on (q:PSta):Inn→Inn
 |tk f=>tk {f with ps:=q}
 |cl f=>cl {f with ps:=q}
 |mc f=>mc {f with ps:=q}
def size:Inn→Nat
 |tk f=>2
 |cl f=>f.s.n+2
 |mc f=>2*f.s.n+1
def lock (t d:Int):Inn→Inn
 |tk f=>tk (f.lock t d)
 |cl f=>cl (f.lock t d)
 |mc f=>mc (f.lock t d)
def turn (t x:Int):Inn→Inn
 |tk f=>tk (f.turn t x)
 |cl f=>cl (f.turn t x)
 |mc f=>mc (f.turn t x)
def step (a t u:Int):Inn→Inn
 |tk f=>tk (f.step (Kf.lp a) t u)
 |cl f=>cl (f.step (Kc.lp a) t u)
 |mc f=>mc (f.step (Km.lp a) t u)
def did (a t u:Int):Inn→Dd
 |tk f=>f.did (Kf.lp a) t u
 |cl f=>f.did (Kc.lp a) t u
 |mc f=>f.did (Km.lp a) t u
def At:Inn→Nat→Option Nat→List Nat→Prop
 |tk f,o,g,W=>Kf.In f o g W
 |cl f,o,g,W=>Kc.In f o g W
 |mc f,o,g,W=>Km.In f o g W
section
variable {x:Inn} {o:Nat} {g:Option Nat} {W:List Nat}
theorem on_s (q:PSta):(x.on q).s=x.s:=by cases x<;>rfl
theorem on_ps (q:PSta):(x.on q).ps=q:=by cases x<;>rfl
theorem on_size (q:PSta):(x.on q).size=x.size:=by cases x<;>rfl
theorem on_self:x.on x.ps=x:=by cases x<;>rfl
theorem on_on (q r:PSta):(x.on q).on r=x.on r:=by cases x<;>rfl
theorem lock_s (t d:Int):(x.lock t d).s=x.s.lock t d:=by cases x<;>rfl
theorem lock_ps (t d:Int):(x.lock t d).ps=x.ps:=by cases x<;>rfl
theorem lock_on (t d:Int) (q:PSta):(x.lock t d).on q=(x.on q).lock t d:=by cases x<;>rfl
theorem turn_s (t y:Int):(x.turn t y).s=x.s.turn t y:=by cases x<;>rfl
theorem turn_on (t y:Int) (q:PSta):(x.turn t y).on q=(x.on q).turn t y:=by cases x<;>rfl
theorem step_s (a t u:Int):(x.step a t u).s=x.s.fin t (x.did a t u).ev:=by cases x<;>rfl
theorem step_len (a t u:Int):(x.step a t u).ps.ws.length=x.ps.ws.length∧(x.step a t u).ps.ac.length=x.ps.ac.length:=by
 cases x
 ·exact Kf.step_len _ _
 ·exact Kc.step_len _ _
 ·exact Km.step_len _ _
theorem At.qf (h:x.At o g W):Qf x.s g W:=by
 cases x
 ·exact Kf.In.qf h
 ·exact Kc.In.qf h
 ·exact Km.In.qf h
theorem At.fits (h:x.At o g W):o+x.size≤x.ps.ws.length:=by
 cases x
 ·exact h.1
 ·exact h.1
 ·exact h.1
theorem At.lock (h:x.At o g W) (t d:Int):(x.lock t d).At o g W:=by
 cases x
 ·exact Kf.In.lock h t d
 ·exact Kc.In.lock h t d
 ·exact Km.In.lock h t d
theorem At.turn (h:x.At o g W) (t y:Int) (hy:y=3∨y=4):(x.turn t y).At o g W:=by
 cases x
 ·exact Kf.In.turn h t y hy
 ·exact Kc.In.turn h t y hy
 ·exact Km.In.turn h t y hy
theorem At.far (h:x.At o g W) {q:PSta} (hl:q.ws.length=x.ps.ws.length) (hw:sub q.ws o x.size=sub x.ps.ws o x.size):(x.on q).At o g W:=by
 cases x
 ·exact Kf.In.far h hl hw
 ·exact Kc.In.far h hl hw
 ·exact Km.In.far h hl hw
theorem At.step (h:x.At o g W) {k u:Nat} (hk:k<x.s.n) (hu:u<x.ps.ac.length):
  ∃ g' W',(x.step o k u).At o g' W'∧StI W k (x.did o k u) W'∧(∀ o' n',o+x.size≤o'∨o'+n'≤o→sub (x.step o k u).ps.ws o' n'=sub x.ps.ws o' n'):=by
 cases x
 ·obtain ⟨g',W',a,b,c⟩:=Kf.In.step (L:=Kf.lp o) h rfl rfl hk hu
  exact ⟨g',W',a,Kf.sti b,c⟩
 ·obtain ⟨g',W',a,b,c⟩:=Kc.In.step (L:=Kc.lp o) h rfl rfl hk hu
  exact ⟨g',W',a,Kc.sti b,c⟩
 ·obtain ⟨g',W',a,b,c⟩:=Km.In.step (L:=Km.lp o) h rfl rfl hk hu
  exact ⟨g',W',a,Km.sti b,c⟩
theorem At.company (h:x.At o g W) {k u:Nat} (hk:k<x.s.n) (hu:u<x.ps.ac.length) (hs:x.s.st k=4) (h5:(x.did o k u).ev=5):W≠[]:=by
 intro hW
 cases x
 ·rcases Kf.In.company (L:=Kf.lp o) h rfl rfl hk hu hs with ⟨a,_⟩|⟨_,b⟩
  ·have h5:(Kf.FL.did _ (Kf.lp o) k u).ev=5:=h5
   omega
  ·exact b hW
 ·have:=Kc.In.company (L:=Kc.lp o) h rfl rfl hk hu hs hW
  have h5:(Kc.FL.did _ (Kc.lp o) k u).ev=5:=h5
  omega
 ·have:=Km.In.company (L:=Km.lp o) h rfl rfl hk hu hs hW
  have h5:(Km.FL.did _ (Km.lp o) k u).ev=5:=h5
  omega
theorem did_at {k u:Nat} (a:Int) (hk:k<x.s.n):
  (x.s.st k=1→((x.did a k u).ev=0∨(x.did a k u).ev=1)∧(x.did a k u).arr=false∧(x.did a k u).lead=false)∧
  (x.s.st k=3→((x.did a k u).ev=0∨(x.did a k u).ev=3)∧(x.did a k u).enq=false)∧
  (x.s.st k=4→((x.did a k u).ev=4∨(x.did a k u).ev=5)∧(x.did a k u).enq=false)∧
  (x.s.st k≠1→x.s.st k≠3→x.s.st k≠4→x.did a k u=Dd.no):=by
 cases x
 ·exact Kf.did_at hk
 ·exact Kc.did_at hk
 ·exact Km.did_at hk
end
end Inn
open Go.RowKit
structure FL where
 s:SS
 bud:Int
 nd:Nat→Nat
 own:Nat→Nat
 ph:Nat→Int
 got:Nat→Int
 ga:Nat
 la:Nat→Nat
 G:Inn
 Lc:Nat→Inn
 ps:PSta
structure Lp where
 lb:Nat
 p:Nat
 b:Nat
 tb:Nat
 a1:Int
 a2:Int
 q:Place
 hs:List Int
 lo:Nat
 gi:Ip
 li:Nat→Ip
 has:Nat→Bool
def Lp.pA (L:Lp) (c:Nat):Int:=L.a1+c
def FL.lk (f:FL) (c:Nat):Inn:=(f.Lc c).on f.ps
def FL.gl (f:FL):Inn:=f.G.on f.ps
def FL.ask (f:FL) (t:Nat):Inn:=if (f.Lc (f.nd t)).s.st (f.own t)=0 then (f.lk (f.nd t)).lock (f.own t:Nat) (-1) else f.lk (f.nd t)
def FL.acq (f:FL) (L:Lp) (t:Nat) (u:Int):FL:=
 if f.ph t=0 then {f with Lc:=upd f.Lc (f.nd t) ((f.ask t).step (f.la (f.nd t):Nat) (f.own t:Nat) u),ph:=upd f.ph t ((f.ask t).did (f.la (f.nd t):Nat) (f.own t:Nat) u).ev,ps:=((f.ask t).step (f.la (f.nd t):Nat) (f.own t:Nat) u).ps}
 else if f.ph t=1 then (if tellS f.ps u 1 (L.pA (f.nd t))=0 then {f with ph:=upd f.ph t 2,G:=f.G.lock (f.nd t:Nat) (-1),ps:=doS f.ps u 1 (L.pA (f.nd t)) 0 0} else {f with ps:=doS f.ps u 1 (L.pA (f.nd t)) 0 0})
 else if f.ph t=2 then {f with G:=f.gl.step (f.ga:Nat) (f.nd t:Nat) u,ph:=upd f.ph t (2+(f.gl.did (f.ga:Nat) (f.nd t:Nat) u).ev),ps:=(f.gl.step (f.ga:Nat) (f.nd t:Nat) u).ps}
 else {f with ps:=doS f.ps u 2 (L.pA (f.nd t)) 0 1}
def FL.acqD (f:FL) (L:Lp) (t:Nat) (u:Int):Dd:=
 if f.ph t=0 then ⟨0,((f.ask t).did (f.la (f.nd t):Nat) (f.own t:Nat) u).enq,false,false⟩
 else if f.ph t=1 then (if tellS f.ps u 1 (L.pA (f.nd t))=0 then Dd.no else ⟨1,false,false,false⟩)
 else if f.ph t=2 then ⟨0,false,(f.gl.did (f.ga:Nat) (f.nd t:Nat) u).enq,false⟩
 else ⟨1,false,false,true⟩
def FL.rel (f:FL) (L:Lp) (t:Nat) (u:Int):FL:=
 if f.ph t=0 then (if tellS f.ps u 1 (L.pA (f.nd t))<f.bud then {f with got:=upd f.got t (tellS f.ps u 1 (L.pA (f.nd t))),ph:=upd f.ph t 1,Lc:=upd f.Lc (f.nd t) ((f.Lc (f.nd t)).turn (f.own t:Nat) 4),ps:=doS f.ps u 1 (L.pA (f.nd t)) 0 0}
  else {f with got:=upd f.got t (tellS f.ps u 1 (L.pA (f.nd t))),ph:=upd f.ph t 3,ps:=doS f.ps u 1 (L.pA (f.nd t)) 0 0})
 else if f.ph t=1 then {f with Lc:=upd f.Lc (f.nd t) ((f.lk (f.nd t)).step (f.la (f.nd t):Nat) (f.own t:Nat) u),ph:=upd f.ph t (if ((f.lk (f.nd t)).did (f.la (f.nd t):Nat) (f.own t:Nat) u).ev=5 then 2 else 3),ps:=((f.lk (f.nd t)).step (f.la (f.nd t):Nat) (f.own t:Nat) u).ps}
 else if f.ph t=2 then {f with Lc:=upd f.Lc (f.nd t) ((f.Lc (f.nd t)).turn (f.own t:Nat) 3),ph:=upd f.ph t 5,ps:=doS f.ps u 2 (L.pA (f.nd t)) 0 (f.got t+1)}
 else if f.ph t=3 then {f with G:=f.G.turn (f.nd t:Nat) 3,ph:=upd f.ph t 4,ps:=doS f.ps u 2 (L.pA (f.nd t)) 0 0}
 else if f.ph t=4 then (if (f.gl.did (f.ga:Nat) (f.nd t:Nat) u).ev=3 then {f with G:=f.gl.step (f.ga:Nat) (f.nd t:Nat) u,ph:=upd f.ph t 5,Lc:=upd f.Lc (f.nd t) ((f.Lc (f.nd t)).turn (f.own t:Nat) 3),ps:=(f.gl.step (f.ga:Nat) (f.nd t:Nat) u).ps}
  else {f with G:=f.gl.step (f.ga:Nat) (f.nd t:Nat) u,ps:=(f.gl.step (f.ga:Nat) (f.nd t:Nat) u).ps})
 else {f with Lc:=upd f.Lc (f.nd t) ((f.lk (f.nd t)).step (f.la (f.nd t):Nat) (f.own t:Nat) u),ps:=((f.lk (f.nd t)).step (f.la (f.nd t):Nat) (f.own t:Nat) u).ps}
def FL.relD (f:FL) (L:Lp) (t:Nat) (u:Int):Dd:=
 if f.ph t=0 then Dd.no else if f.ph t=1 then Dd.no else if f.ph t=2 then Dd.no else if f.ph t=3 then Dd.no else if f.ph t=4 then Dd.no
 else ⟨((f.lk (f.nd t)).did (f.la (f.nd t):Nat) (f.own t:Nat) u).ev,false,false,false⟩
def FL.mid (f:FL) (L:Lp) (t u:Int):FL:=if 0≤t∧t<f.s.n then (if f.s.st t.toNat=1 then f.acq L t.toNat u else if f.s.st t.toNat=3 then f.rel L t.toNat u else f) else f
def FL.did (f:FL) (L:Lp) (t u:Int):Dd:=if 0≤t∧t<f.s.n then (if f.s.st t.toNat=1 then f.acqD L t.toNat u else if f.s.st t.toNat=3 then f.relD L t.toNat u else Dd.no) else Dd.no
def FL.step (f:FL) (L:Lp) (t u:Int):FL:={f.mid L t u with s:=f.s.fin t (f.did L t u).ev,ph:=if endB f.s t (f.did L t u).ev=true then upd (f.mid L t u).ph t.toNat 0 else (f.mid L t u).ph}
def FL.lock (f:FL) (t d:Int):FL:={f with s:=f.s.lock t d}
def FL.turn (f:FL) (t x:Int):FL:={f with s:=f.s.turn t x}
def FL.probe (f:FL) (t:Int):FL:={f with s:=f.s.probe t}
theorem FL.acq_s (f:FL) (L:Lp) (t:Nat) (u:Int):(f.acq L t u).s=f.s∧(f.acq L t u).nd=f.nd∧(f.acq L t u).own=f.own∧(f.acq L t u).bud=f.bud:=by unfold FL.acq;repeat' split<;>try exact ⟨rfl,rfl,rfl,rfl⟩
theorem FL.rel_s (f:FL) (L:Lp) (t:Nat) (u:Int):(f.rel L t u).s=f.s∧(f.rel L t u).nd=f.nd∧(f.rel L t u).own=f.own∧(f.rel L t u).bud=f.bud:=by unfold FL.rel;repeat' split<;>try exact ⟨rfl,rfl,rfl,rfl⟩
theorem FL.mid_s (f:FL) (L:Lp) (t u:Int):(f.mid L t u).s=f.s∧(f.mid L t u).nd=f.nd∧(f.mid L t u).own=f.own∧(f.mid L t u).bud=f.bud:=by
 unfold FL.mid
 repeat' split
 ·exact f.acq_s L _ u
 ·exact f.rel_s L _ u
 all_goals exact ⟨rfl,rfl,rfl,rfl⟩
theorem FL.ask_ps (f:FL) (t:Nat):(f.ask t).ps=f.ps:=by
 unfold FL.ask FL.lk
 split
 ·rw [Inn.lock_ps,Inn.on_ps]
 ·rw [Inn.on_ps]
theorem FL.step_len (f:FL) (L:Lp) (t u:Int):(f.step L t u).ps.ws.length=f.ps.ws.length∧(f.step L t u).ps.ac.length=f.ps.ac.length:=by
 have kd:=λa K old x=>do_len' f.ps u a K old x
 have kl:=λc a j=>by have:=(f.lk c).step_len a j u;unfold FL.lk at this;rw [Inn.on_ps] at this;exact this
 have kg:=λa j=>by have:=f.gl.step_len a j u;unfold FL.gl at this;rw [Inn.on_ps] at this;exact this
 have ka:=λt a j=>by have:=(f.ask t).step_len a j u;rw [f.ask_ps] at this;exact this
 show (f.mid L t u).ps.ws.length=_∧(f.mid L t u).ps.ac.length=_
 unfold FL.mid FL.acq FL.rel
 repeat' split
 all_goals first|exact ⟨rfl,rfl⟩|exact kd _ _ _ _|exact ka _ _ _|exact kl _ _ _|exact kg _ _
inductive Cx (B x p g l q e:Int) (v:List Nat):Prop where
 |idle (hx:x=0) (hp:p=0) (hl:l=0)
 |loc (hx:x=1) (hp:p=0) (hl:l=0∨l=1)
 |pass (hx:x=1) (hp:p=1) (hl:l=2) (h:(q=0∧e=0)∨(1≤q∧q≤B∧e=2))
 |glo (hx:x=1) (hp:p=2) (hl:l=2) (hq:q=0) (he:e=1)
 |fst (hx:x=1) (hp:p=3) (hl:l=2) (hq:q=0) (he:e=2)
 |has (hx:x=2) (hp:p=0) (hl:l=2) (he:e=2) (q1:1≤q) (q2:q≤B)
 |u0 (hx:x=3) (hp:p=0) (hl:l=2) (he:e=2) (q1:1≤q) (q2:q≤B)
 |u1 (hx:x=3) (hp:p=1) (hl:l=4) (he:e=2) (q1:1≤q) (q2:q<B) (hg:g=q)
 |u2 (hx:x=3) (hp:p=2) (hl:l=2) (he:e=2) (q1:1≤q) (q2:q<B) (hg:g=q) (hv:v≠[])
 |u3 (hx:x=3) (hp:p=3) (hl:l=2) (he:e=2) (q1:1≤q) (q2:q≤B)
 |u4 (hx:x=3) (hp:p=4) (hl:l=2) (he:e=3) (hq:q=0)
 |u5 (hx:x=3) (hp:p=5) (hl:l=3) (h:(q=0∧e=0)∨(e=2∧1≤q∧q≤B∧v≠[]))
theorem Cx.far {B x p g l q e q' e':Int} {v v':List Nat} (h:Cx B x p g l q e v) (hz:l=0∨l=1):Cx B x p g l q' e' v':=by
 cases h with
 |idle hx hp hl=>exact .idle hx hp hl
 |loc hx hp hl=>exact .loc hx hp hl
 |pass hx hp hl=>omega
 |glo hx hp hl=>omega
 |fst hx hp hl=>omega
 |has hx hp hl=>omega
 |u0 hx hp hl=>omega
 |u1 hx hp hl=>omega
 |u2 hx hp hl=>omega
 |u3 hx hp hl=>omega
 |u4 hx hp hl=>omega
 |u5 hx hp hl=>omega
theorem Cx.more {B x p g l q e:Int} {v v':List Nat} (h:Cx B x p g l q e v) (hv:v≠[]→v'≠[]):Cx B x p g l q e v':=by
 cases h with
 |idle hx hp hl=>exact .idle hx hp hl
 |loc hx hp hl=>exact .loc hx hp hl
 |pass hx hp hl h=>exact .pass hx hp hl h
 |glo hx hp hl hq he=>exact .glo hx hp hl hq he
 |fst hx hp hl hq he=>exact .fst hx hp hl hq he
 |has hx hp hl he q1 q2=>exact .has hx hp hl he q1 q2
 |u0 hx hp hl he q1 q2=>exact .u0 hx hp hl he q1 q2
 |u1 hx hp hl he q1 q2 hg=>exact .u1 hx hp hl he q1 q2 hg
 |u2 hx hp hl he q1 q2 hg hw=>exact .u2 hx hp hl he q1 q2 hg (hv hw)
 |u3 hx hp hl he q1 q2=>exact .u3 hx hp hl he q1 q2
 |u4 hx hp hl he hq=>exact .u4 hx hp hl he hq
 |u5 hx hp hl h=>exact .u5 hx hp hl (h.imp id λq=>⟨q.1,q.2.1,q.2.2.1,hv q.2.2.2⟩)
theorem Cx.lrng {B x p g l q e:Int} {v:List Nat} (h:Cx B x p g l q e v):0≤l∧l≤4:=by cases h<;>omega
structure Cor (n:Nat) (B:Int) (st ph got:Nat→Int) (nd own:Nat→Nat) (ls:Nat→Nat→Int) (H:Nat→Option Nat) (V:Nat→List Nat) (gs P:Nat→Int):Prop where
 ndl:∀ t,t<n→nd t<8
 inj:∀ t u,t<n→u<n→nd t=nd u→own t=own u→t=u
 cx:∀ t,t<n→Cx B (st t) (ph t) (got t) (ls (nd t) (own t)) (P (nd t)) (gs (nd t)) (V (nd t))
 hold:∀ t,t<n→2≤ls (nd t) (own t)→H (nd t)=some (own t)
 held:∀ c j,H c=some j→2≤ls c j∧∃ t,t<n∧nd t=c∧own t=j
 nob:∀ c,c<8→H c=none→(P c=0∧gs c=0)∨(1≤P c∧P c≤B∧gs c=2∧V c≠[])
namespace Cor
variable {n:Nat} {B:Int} {st ph got:Nat→Int} {nd own:Nat→Nat} {ls:Nat→Nat→Int} {H:Nat→Option Nat} {V:Nat→List Nat} {gs P:Nat→Int}
theorem put (h:Cor n B st ph got nd own ls H V gs P) {t:Nat} (ht:t<n) {st' ph' got':Nat→Int} {ls':Nat→Nat→Int} {H':Nat→Option Nat} {V':Nat→List Nat} {gs' P':Nat→Int}
  (e1:∀ u,u≠t→st' u=st u) (e2:∀ u,u≠t→ph' u=ph u) (e3:∀ u,u≠t→got' u=got u)
  (e4:∀ c j,(c≠nd t∨j≠own t)→ls' c j=ls c j) (e5:∀ c,c≠nd t→H' c=H c∧V' c=V c∧gs' c=gs c∧P' c=P c)
  (hoth:(P' (nd t)=P (nd t)∧gs' (nd t)=gs (nd t)∧(∀ j,H (nd t)=some j→V (nd t)≠[]→V' (nd t)≠[]))∨H (nd t)=some (own t))
  (hcx:Cx B (st' t) (ph' t) (got' t) (ls' (nd t) (own t)) (P' (nd t)) (gs' (nd t)) (V' (nd t)))
  (hH:(2≤ls' (nd t) (own t)∧H' (nd t)=some (own t)∧(H (nd t)=none∨H (nd t)=some (own t)))∨(ls' (nd t) (own t)<2∧H' (nd t)=none∧H (nd t)=some (own t))∨(ls' (nd t) (own t)<2∧H' (nd t)=H (nd t)∧H (nd t)≠some (own t)))
  (hnob:H' (nd t)=none→(P' (nd t)=0∧gs' (nd t)=0)∨(1≤P' (nd t)∧P' (nd t)≤B∧gs' (nd t)=2∧V' (nd t)≠[])):Cor n B st' ph' got' nd own ls' H' V' gs' P':=by
 refine ⟨h.ndl,h.inj,λu hu=> ?_,λu hu hl=> ?_,λc j hc=> ?_,λc hc hn=> ?_⟩
 ·by_cases q:u=t
  ·subst q;exact hcx
  rw [e1 u q,e2 u q,e3 u q]
  by_cases qc:nd u=nd t
  ·have qo:own u≠own t:=λe=>q (h.inj u t hu ht qc e)
   rw [e4 _ _ (.inr qo)]
   have hx:=h.cx u hu
   have hr:=hx.lrng
   by_cases hl:2≤ls (nd u) (own u)
   ·have hh:=h.hold u hu hl
    rcases hoth with ⟨a,b,c⟩|a
    ·rw [qc] at hx hh ⊢
     rw [a,b]
     exact hx.more (c _ hh)
    ·rw [qc,a] at hh
     exact absurd (Option.some.inj hh) λe=>qo e.symm
   ·exact hx.far (by omega)
  ·obtain ⟨a,b,c,d⟩:=e5 _ qc
   rw [e4 _ _ (.inl qc),b,c,d]
   exact h.cx u hu
 ·by_cases q:u=t
  ·subst q
   rcases hH with ⟨_,a,_⟩|⟨a,_⟩|⟨a,_⟩
   ·exact a
   ·omega
   ·omega
  by_cases qc:nd u=nd t
  ·have qo:own u≠own t:=λe=>q (h.inj u t hu ht qc e)
   rw [e4 _ _ (.inr qo)] at hl
   have hh:=h.hold u hu hl
   rw [qc] at hh ⊢
   rcases hH with ⟨_,_,a|a⟩|⟨_,_,a⟩|⟨_,a,_⟩
   ·rw [hh] at a;cases a
   ·rw [hh] at a;exact absurd (Option.some.inj a) qo
   ·rw [hh] at a;exact absurd (Option.some.inj a) qo
   ·rw [a];exact hh
  ·rw [(e5 _ qc).1]
   rw [e4 _ _ (.inl qc)] at hl
   exact h.hold u hu hl
 ·by_cases qc:c=nd t
  ·subst qc
   rcases hH with ⟨a,b,_⟩|⟨_,b,_⟩|⟨_,b,d⟩
   ·rw [b] at hc
    obtain rfl:=Option.some.inj hc
    exact ⟨a,t,ht,rfl,rfl⟩
   ·rw [b] at hc;cases hc
   ·rw [b] at hc
    have hj:j≠own t:=λe=>d (by rw [hc,e])
    rw [e4 _ _ (.inr hj)]
    exact h.held _ _ hc
  ·rw [(e5 _ qc).1] at hc
   rw [e4 _ _ (.inl qc)]
   exact h.held _ _ hc
 ·by_cases qc:c=nd t
  ·subst qc;exact hnob hn
  ·obtain ⟨a,b,d,e⟩:=e5 _ qc
   rw [a] at hn
   rw [b,d,e]
   exact h.nob c hc hn
section
variable {t:Nat}
theorem own1 (h:Cor n B st ph got nd own ls H V gs P) (ht:t<n) {y p g:Int} (hcx:Cx B y p g (ls (nd t) (own t)) (P (nd t)) (gs (nd t)) (V (nd t))):
  Cor n B (upd st t y) (upd ph t p) (upd got t g) nd own ls H V gs P:=by
 refine h.put ht (λu q=>upd_other _ _ q) (λu q=>upd_other _ _ q) (λu q=>upd_other _ _ q) (λ_ _ _=>rfl) (λ_ _=>⟨rfl,rfl,rfl,rfl⟩) (.inl ⟨rfl,rfl,λ_ _ q=>q⟩) (by rw [upd_same,upd_same,upd_same];exact hcx) ?_ (λq=>h.nob _ (h.ndl t ht) q)
 by_cases hl:2≤ls (nd t) (own t)
 ·exact .inl ⟨hl,h.hold t ht hl,.inr (h.hold t ht hl)⟩
 ·refine .inr (.inr ⟨by omega,rfl,λq=> ?_⟩)
  have:=(h.held _ _ q).1
  omega
theorem own2 (h:Cor n B st ph got nd own ls H V gs P) (ht:t<n) (hl:2≤ls (nd t) (own t)) {y p g z w e:Int} (hz:2≤z) (hcx:Cx B y p g z w e (V (nd t))):
  Cor n B (upd st t y) (upd ph t p) (upd got t g) nd own (upd ls (nd t) (upd (ls (nd t)) (own t) z)) H V (upd gs (nd t) e) (upd P (nd t) w):=by
 have hh:=h.hold t ht hl
 refine h.put ht (λu q=>upd_other _ _ q) (λu q=>upd_other _ _ q) (λu q=>upd_other _ _ q) (λc j q=> ?_) (λc q=>⟨rfl,rfl,upd_other _ _ q,upd_other _ _ q⟩) (.inr hh) (by rw [upd_same,upd_same,upd_same,upd_same,upd_same,upd_same,upd_same];exact hcx) (.inl ⟨by rw [upd_same,upd_same];exact hz,hh,.inr hh⟩) (λq=>by rw [hh] at q;cases q)
 by_cases qc:c=nd t
 ·subst qc
  rw [upd_same,upd_other _ _ (q.resolve_left λf=>f rfl)]
 ·rw [upd_other _ _ qc]
theorem ask (h:Cor n B st ph got nd own ls H V gs P) (ht:t<n) (s1:st t=1) (p0:ph t=0) {v:List Nat} (hv:V (nd t)≠[]→v≠[]):
  Cor n B st ph got nd own (upd ls (nd t) (upd (ls (nd t)) (own t) 1)) H (upd V (nd t) v) gs P:=by
 have hl:¬ 2≤ls (nd t) (own t):=by have:=h.cx t ht;cases this<;>omega
 have hne:H (nd t)≠some (own t):=λq=>hl (h.held _ _ q).1
 refine h.put ht (λu q=>rfl) (λu q=>rfl) (λu q=>rfl) (λc j q=> ?_) (λc q=>⟨rfl,upd_other _ _ q,rfl,rfl⟩) (.inl ⟨rfl,rfl,λ_ _ q=>by rw [upd_same];exact hv q⟩) (by rw [upd_same,upd_same];exact .loc s1 p0 (.inr rfl)) (.inr (.inr ⟨by rw [upd_same,upd_same];decide,rfl,hne⟩)) (λq=> ?_)
 ·by_cases qc:c=nd t
  ·subst qc
   rw [upd_same,upd_other _ _ (q.resolve_left λf=>f rfl)]
  ·rw [upd_other _ _ qc]
 ·rw [upd_same]
  rcases h.nob _ (h.ndl t ht) q with a|⟨a,b,c,d⟩
  ·exact .inl a
  ·exact .inr ⟨a,b,c,hv d⟩
theorem got1 (h:Cor n B st ph got nd own ls H V gs P) (ht:t<n) (s1:st t=1) (hH:H (nd t)=none) (v:List Nat):
  Cor n B st (upd ph t 1) got nd own (upd ls (nd t) (upd (ls (nd t)) (own t) 2)) (upd H (nd t) (some (own t))) (upd V (nd t) v) gs P:=by
 refine h.put ht (λu q=>rfl) (λu q=>upd_other _ _ q) (λu q=>rfl) (λc j q=> ?_) (λc q=>⟨upd_other _ _ q,upd_other _ _ q,rfl,rfl⟩) (.inl ⟨rfl,rfl,λj q=>by rw [hH] at q;cases q⟩) ?_ (.inl ⟨by rw [upd_same,upd_same];decide,by rw [upd_same],.inl hH⟩) (λq=>by rw [upd_same] at q;cases q)
 ·by_cases qc:c=nd t
  ·subst qc
   rw [upd_same,upd_other _ _ (q.resolve_left λf=>f rfl)]
  ·rw [upd_other _ _ qc]
 ·rw [upd_same,upd_same,upd_same,upd_same]
  refine .pass s1 rfl rfl ?_
  rcases h.nob _ (h.ndl t ht) hH with a|⟨a,b,c,_⟩
  ·exact .inl a
  ·exact .inr ⟨a,b,c⟩
theorem gone (h:Cor n B st ph got nd own ls H V gs P) (ht:t<n) (s3:st t=3) (p5:ph t=5):
  Cor n B (upd st t 0) (upd ph t 0) got nd own (upd ls (nd t) (upd (ls (nd t)) (own t) 0)) (upd H (nd t) none) V gs P:=by
 have hc:=h.cx t ht
 have hl:ls (nd t) (own t)=3∧((P (nd t)=0∧gs (nd t)=0)∨(gs (nd t)=2∧1≤P (nd t)∧P (nd t)≤B∧V (nd t)≠[])):=by
  cases hc with
  |u5 hx hp hl h=>exact ⟨hl,h⟩
  |_=>omega
 have hh:=h.hold t ht (by omega)
 refine h.put ht (λu q=>upd_other _ _ q) (λu q=>upd_other _ _ q) (λu q=>rfl) (λc j q=> ?_) (λc q=>⟨upd_other _ _ q,rfl,rfl,rfl⟩) (.inr hh) (by rw [upd_same,upd_same,upd_same,upd_same];exact .idle rfl rfl rfl) (.inr (.inl ⟨by rw [upd_same,upd_same];decide,by rw [upd_same],hh⟩)) (λ_=> ?_)
 ·by_cases qc:c=nd t
  ·subst qc
   rw [upd_same,upd_other _ _ (q.resolve_left λf=>f rfl)]
  ·rw [upd_other _ _ qc]
 ·rcases hl.2 with a|⟨a,b,c,d⟩
  ·exact .inl a
  ·exact .inr ⟨b,c,a,d⟩
end
theorem start {nd own:Nat→Nat} (n:Nat) (B:Int) (hn:∀ t,t<n→nd t<8) (hi:∀ t u,t<n→u<n→nd t=nd u→own t=own u→t=u):Cor n B (λ_=>0) (λ_=>0) (λ_=>0) nd own (λ_ _=>0) (λ_=>none) (λ_=>[]) (λ_=>0) (λ_=>0):=
 ⟨hn,hi,λt ht=> .idle rfl rfl rfl,λt ht hl=>by simp at hl,λc j hc=>(by cases hc),λc hc _=> .inl ⟨rfl,rfl⟩⟩
end Cor
def wP (ps:PSta) (c:Nat):Int:=if c<8 then ps.ws.getD c 0 else 0
theorem wP_sub {ps q:PSta} (h:sub q.ws 0 8=sub ps.ws 0 8):wP q=wP ps:=by
 funext c
 unfold wP
 split
 ·rename_i hc
  have e:=congrArg (λl=>l.getD c 0) h
  try dsimp only at e
  rw [sub_at hc,sub_at hc,Nat.zero_add] at e
  exact e
 ·rfl
theorem wP_store {ps:PSta} {u c:Nat} {w:Int} (hu:u<ps.ac.length) (hc:c<8) (hl:8≤ps.ws.length):wP (doS ps u 2 ((0:Int)+c) 0 w)=upd (wP ps) c w:=by
 have e:=do_vw (ps:=ps) (o:=0) (n:=8) (m:=1) (v:=0) (i:=c) hu (by decide) hc (by omega) 2 0 w
 have e2:sub (doS ps u 2 ((0:Int)+c) 0 w).ws 0 8=(sub ps.ws 0 8).set c w:=by
  have ho:=(ok_vw (ps:=ps) (o:=0) (n:=8) (m:=1) (v:=0) (i:=c) hu (by decide) hc (by omega)).1
  unfold doS okS
  rw [show (0:Int)+(c:Int)=((0:Nat):Int)+(c:Int) by omega,ho]
  rw [if_pos (by decide)]
  dsimp only
  unfold doL
  rw [if_pos (.inl rfl)]
  exact store_sub w |>.trans (by unfold storeL;rw [if_pos (by omega),Int.toNat_natCast])
 funext d
 unfold wP
 by_cases hd:d<8
 ·rw [if_pos hd]
  have e3:=congrArg (λl=>l.getD d 0) e2
  try dsimp only at e3
  rw [sub_at hd,Nat.zero_add] at e3
  rw [e3]
  by_cases q:d=c
  ·subst q
   rw [upd_same,List.getD_eq_getElem?_getD,List.getElem?_set,if_pos rfl,if_pos (by rw [sub_len (by omega)];exact hd)]
   rfl
  ·rw [upd_other _ _ q,List.getD_eq_getElem?_getD,List.getElem?_set,if_neg (λf=>q f.symm),←List.getD_eq_getElem?_getD,sub_at hd,Nat.zero_add,if_pos hd]
 ·rw [if_neg hd,upd_other _ _ (by omega),if_neg hd]
structure OrdJ (f:FL) (ga:Nat) (la:Nat→Nat) (H:Nat→Option Nat) (V:Nat→List Nat) (gg:Option Nat) (Wg:List Nat):Prop where
 n8:f.s.n≤8
 np:f.s.probed=false
 bud:1≤f.bud∧f.bud≤1000
 adr:f.ga=ga∧f.la=la
 ac:f.ps.ac.length=f.s.n
 own:∀ t,t<f.s.n→f.own t<(f.Lc (f.nd t)).s.n
 loc:∀ t,t<f.s.n→(f.lk (f.nd t)).At (la (f.nd t)) (H (f.nd t)) (V (f.nd t))
 glo:f.gl.At ga gg Wg
 gn:f.G.s.n=8
 g8:8≤ga
 gl:∀ t,t<f.s.n→ga+f.G.size≤la (f.nd t)
 ll:∀ t u,t<f.s.n→u<f.s.n→f.nd t≠f.nd u→la (f.nd t)+(f.Lc (f.nd t)).size≤la (f.nd u)∨la (f.nd u)+(f.Lc (f.nd u)).size≤la (f.nd t)
 cor:Cor f.s.n f.bud f.s.st f.ph f.got f.nd f.own (λc=>(f.Lc c).s.st) H V f.G.s.st (wP f.ps)
namespace OrdJ
variable {f:FL} {ga:Nat} {la:Nat→Nat} {H:Nat→Option Nat} {V:Nat→List Nat} {gg:Option Nat} {Wg:List Nat}
theorem wl (h:OrdJ f ga la H V gg Wg):8≤f.ps.ws.length:=by
 have:=h.glo.fits
 unfold FL.gl at this
 rw [Inn.on_ps] at this
 have:=h.g8
 omega
theorem far0 (h:OrdJ f ga la H V gg Wg) {q:PSta} (hl:q.ws.length=f.ps.ws.length) (hs:∀ o' n',8≤o'→sub q.ws o' n'=sub f.ps.ws o' n'):
  (∀ t,t<f.s.n→((f.Lc (f.nd t)).on q).At (la (f.nd t)) (H (f.nd t)) (V (f.nd t)))∧(f.G.on q).At ga gg Wg:=by
 have g8:=h.g8
 constructor
 ·intro t ht
  have:=h.gl t ht
  have hf:=(h.loc t ht).far (q:=q) (by unfold FL.lk;rw [Inn.on_ps];exact hl) (by unfold FL.lk;rw [Inn.on_ps];exact hs _ _ (by omega))
  unfold FL.lk at hf
  rwa [Inn.on_on] at hf
 ·have hf:=h.glo.far (q:=q) (by unfold FL.gl;rw [Inn.on_ps];exact hl) (by unfold FL.gl;rw [Inn.on_ps];exact hs _ _ (by omega))
  unfold FL.gl at hf
  rwa [Inn.on_on] at hf
theorem far1 (h:OrdJ f ga la H V gg Wg) {t:Nat} (ht:t<f.s.n) {q:PSta} (hl:q.ws.length=f.ps.ws.length) (hs:∀ o' n',la (f.nd t)+(f.Lc (f.nd t)).size≤o'∨o'+n'≤la (f.nd t)→sub q.ws o' n'=sub f.ps.ws o' n'):
  (∀ u,u<f.s.n→f.nd u≠f.nd t→((f.Lc (f.nd u)).on q).At (la (f.nd u)) (H (f.nd u)) (V (f.nd u)))∧(f.G.on q).At ga gg Wg∧wP q=wP f.ps:=by
 have g8:=h.g8
 have g1:=h.gl t ht
 refine ⟨λu hu hne=> ?_,?_,wP_sub (hs 0 8 (by omega))⟩
 ·have hll:=h.ll u t hu ht hne
  have hf:=(h.loc u hu).far (q:=q) (by unfold FL.lk;rw [Inn.on_ps];exact hl) (by unfold FL.lk;rw [Inn.on_ps,Inn.on_size];exact hs _ _ (by omega))
  unfold FL.lk at hf
  rwa [Inn.on_on] at hf
 ·have hf:=h.glo.far (q:=q) (by unfold FL.gl;rw [Inn.on_ps];exact hl) (by unfold FL.gl;rw [Inn.on_ps,Inn.on_size];exact hs _ _ (by omega))
  unfold FL.gl at hf
  rwa [Inn.on_on] at hf
theorem far2 (h:OrdJ f ga la H V gg Wg) {q:PSta} (hl:q.ws.length=f.ps.ws.length) (hs:∀ o' n',ga+f.G.size≤o'∨o'+n'≤ga→sub q.ws o' n'=sub f.ps.ws o' n'):
  (∀ u,u<f.s.n→((f.Lc (f.nd u)).on q).At (la (f.nd u)) (H (f.nd u)) (V (f.nd u)))∧wP q=wP f.ps:=by
 have g8:=h.g8
 refine ⟨λu hu=> ?_,wP_sub (hs 0 8 (by omega))⟩
 have g1:=h.gl u hu
 have hf:=(h.loc u hu).far (q:=q) (by unfold FL.lk;rw [Inn.on_ps];exact hl) (by unfold FL.lk;rw [Inn.on_ps];exact hs _ _ (by omega))
 unfold FL.lk at hf
 rwa [Inn.on_on] at hf
end OrdJ
namespace Inn
variable {x:Inn}
theorem lock_n (t d:Int):(x.lock t d).s.n=x.s.n:=by rw [lock_s];exact SS.lock_n _ _ _
theorem turn_n (t y:Int):(x.turn t y).s.n=x.s.n:=by rw [turn_s];exact SS.turn_n _ _ _
theorem step_n (a t u:Int):(x.step a t u).s.n=x.s.n:=by rw [step_s];exact SS.fin_n _ _ _
theorem lock_size (t d:Int):(x.lock t d).size=x.size:=by
 have h:=x.lock_n t d
 cases x
 ·rfl
 ·exact congrArg (·+2) h
 ·exact congrArg (2*·+1) h
theorem turn_size (t y:Int):(x.turn t y).size=x.size:=by
 have h:=x.turn_n t y
 cases x
 ·rfl
 ·exact congrArg (·+2) h
 ·exact congrArg (2*·+1) h
theorem step_size (a t u:Int):(x.step a t u).size=x.size:=by
 have h:=x.step_n a t u
 cases x
 ·rfl
 ·exact congrArg (·+2) h
 ·exact congrArg (2*·+1) h
end Inn
theorem upd_idx {α:Type} (g:Nat→α) (k:Nat) {y:α} (h:g k=y):upd g k y=g:=by
 funext j
 by_cases e:j=k
 ·subst e;rw [upd_same,h]
 ·rw [upd_other _ _ e]
theorem fin_none' {s:SS} {k:Nat} {ev:Int} (h:behindI (s.st k) ev=none):s.fin k ev=s∧endB s k ev=false:=by
 have e:endO s k ev=none:=by
  unfold endO
  split
  ·rw [Int.toNat_natCast];exact h
  ·rfl
 unfold SS.fin endB
 rw [e]
 exact ⟨rfl,rfl⟩
theorem fin_some' {s:SS} {k:Nat} {ev y:Int} (hk:k<s.n) (h:behindI (s.st k) ev=some y):s.fin k ev=s.set k y 0∧endB s k ev=true:=by
 have e:endO s k ev=some y:=by unfold endO;rw [if_pos (by omega),Int.toNat_natCast,h]
 unfold SS.fin endB
 rw [e,Int.toNat_natCast]
 exact ⟨rfl,rfl⟩
theorem lock_st {s:SS} {k:Nat} (hk:k<s.n) (h0:s.st k=0):(s.lock (k:Nat) (-1)).st=upd s.st k 1:=by
 have e:lockE s (k:Nat) (-1)=0:=by
  unfold lockE
  rw [if_pos ⟨by omega,.inl rfl⟩,Int.toNat_natCast,if_pos h0]
 unfold SS.lock
 rw [if_pos e,Int.toNat_natCast]
 rfl
theorem turn_st {s:SS} {k:Nat} (hk:k<s.n) (h2:s.st k=2) (x:Int):(s.turn (k:Nat) x).st=upd s.st k x:=by
 have e:turnE s (k:Nat)=0:=by
  unfold turnE
  rw [if_pos (by omega),Int.toNat_natCast,if_neg (by omega),if_pos h2]
 unfold SS.turn
 rw [if_pos e,Int.toNat_natCast]
 rfl
theorem Qf.iff {s:SS} {g:Option Nat} {W:List Nat} (h:Qf s g W) (i:Nat):g=some i↔i<s.n∧2≤s.st i:=by
 constructor
 ·intro e
  have:=h.stg i e
  exact ⟨h.lt i (by rw [e];simp),by omega⟩
 ·rintro ⟨a,b⟩
  by_cases hm:i∈g.toList++W
  ·rcases List.mem_append.1 hm with hm|hm
   ·simpa using hm
   ·have:=h.stw i hm;omega
  ·have:=h.sto i a hm;omega
theorem Qf.same {s s':SS} {g g':Option Nat} {W W':List Nat} (h:Qf s g W) (h':Qf s' g' W') (hn:s'.n=s.n) (hs:∀ i,i<s.n→(2≤s'.st i↔2≤s.st i)):g'=g:=by
 cases e:g with
 |none=>
  cases e':g' with
  |none=>rfl
  |some i=>
   obtain ⟨a,b⟩:=(h'.iff i).1 e'
   have:=(h.iff i).2 ⟨by omega,(hs i (by omega)).1 b⟩
   rw [e] at this;cases this
 |some i=>
  obtain ⟨a,b⟩:=(h.iff i).1 e
  exact (h'.iff i).2 ⟨by omega,(hs i a).2 b⟩
theorem upd_map {g:Nat→Inn} {c:Nat} {x:Inn}:(λd=>((upd g c x) d).s.st)=upd (λd=>(g d).s.st) c x.s.st:=by
 funext d
 by_cases e:d=c
 ·subst e;rw [upd_same,upd_same]
 ·rw [upd_other _ _ e,upd_other _ _ e]
namespace OrdJ
variable {f:FL} {L:Lp} {ga:Nat} {la:Nat→Nat} {H:Nat→Option Nat} {V:Nat→List Nat} {gg:Option Nat} {Wg:List Nat}
theorem at_one {k:Nat} {u:Int} (hk:k<f.s.n) (s1:f.s.st k=1):f.did L k u=f.acqD L k u∧f.mid L k u=f.acq L k u:=by
 have ht:(0:Int)≤(k:Int)∧(k:Int)<f.s.n:=by omega
 unfold FL.did FL.mid
 rw [if_pos ht,if_pos ht,Int.toNat_natCast,if_pos s1,if_pos s1]
 exact ⟨rfl,rfl⟩
theorem at_three {k:Nat} {u:Int} (hk:k<f.s.n) (s3:f.s.st k=3):f.did L k u=f.relD L k u∧f.mid L k u=f.rel L k u:=by
 have ht:(0:Int)≤(k:Int)∧(k:Int)<f.s.n:=by omega
 unfold FL.did FL.mid
 have n1:¬ f.s.st k=1:=by omega
 rw [if_pos ht,if_pos ht,Int.toNat_natCast,if_neg n1,if_pos s3,if_neg n1,if_pos s3]
 exact ⟨rfl,rfl⟩
theorem on_step {k:Nat} {u:Int} {ev:Int} {m:FL} (ed:(f.did L k u).ev=ev) (em:f.mid L k u=m) (hb:behindI (f.s.st k) ev=none):f.step L k u={m with s:=f.s}:=by
 obtain ⟨a,b⟩:=fin_none' hb
 unfold FL.step
 rw [ed,em,a,b]
 rfl
theorem end_step {k:Nat} {u:Int} {ev y:Int} {m:FL} (hk:k<f.s.n) (ed:(f.did L k u).ev=ev) (em:f.mid L k u=m) (hb:behindI (f.s.st k) ev=some y):f.step L k u={m with s:=f.s.set k y 0,ph:=upd m.ph k 0}:=by
 obtain ⟨a,b⟩:=fin_some' hk hb
 unfold FL.step
 rw [ed,em,a,b,Int.toNat_natCast]
 rfl
theorem keep (h:OrdJ f ga la H V gg Wg) {f':FL} {H':Nat→Option Nat} {V':Nat→List Nat} {gg':Option Nat} {Wg':List Nat} (hn:f'.s.n=f.s.n) (hp:f'.s.probed=f.s.probed) (hb:f'.bud=f.bud) (hnd0:f'.nd=f.nd∧f'.ga=f.ga∧f'.la=f.la) (how:f'.own=f.own) (hac:f'.ps.ac.length=f.ps.ac.length)
  (hL:∀ c,(f'.Lc c).s.n=(f.Lc c).s.n∧(f'.Lc c).size=(f.Lc c).size) (hG:f'.G.s.n=f.G.s.n∧f'.G.size=f.G.size) (hloc:∀ t,t<f.s.n→((f'.Lc (f.nd t)).on f'.ps).At (la (f.nd t)) (H' (f.nd t)) (V' (f.nd t))) (hglo:(f'.G.on f'.ps).At ga gg' Wg')
  (hcor:Cor f.s.n f.bud f'.s.st f'.ph f'.got f.nd f.own (λc=>(f'.Lc c).s.st) H' V' f'.G.s.st (wP f'.ps)):OrdJ f' ga la H' V' gg' Wg':=by
 have hnd:=hnd0.1
 refine ⟨by rw [hn];exact h.n8,by rw [hp];exact h.np,by rw [hb];exact h.bud,by rw [hnd0.2.1,hnd0.2.2];exact h.adr,by rw [hac,hn];exact h.ac,λt ht=> ?_,λt ht=> ?_,hglo,by rw [hG.1];exact h.gn,h.g8,λt ht=> ?_,λt u ht hu=> ?_,?_⟩
 ·rw [how,hnd,(hL _).1];exact h.own t (by omega)
 ·unfold FL.lk;rw [hnd];exact hloc t (by omega)
 ·rw [hG.2,hnd];exact h.gl t (by omega)
 ·rw [hnd,(hL _).2,(hL _).2];exact h.ll t u (by omega) (by omega)
 ·rw [hn,hb,hnd,how];exact hcor
theorem tell_pass (h:OrdJ f ga la H V gg Wg) (h1:L.a1=0) {c u:Nat} (hc:c<8) (hu:u<f.ps.ac.length):tellS f.ps u 1 (L.pA c)=wP f.ps c:=by
 have hw:=h.wl
 have e:=tell_vw (ps:=f.ps) (o:=0) (n:=8) (m:=1) (v:=0) (i:=c) hu (by decide) hc (by omega) 1
 have ho:=(ok_vw (ps:=f.ps) (o:=0) (n:=8) (m:=1) (v:=0) (i:=c) hu (by decide) hc (by omega)).1
 unfold Lp.pA
 rw [h1,show (0:Int)+(c:Int)=((0:Nat):Int)+(c:Int) by omega]
 unfold tellS okS
 rw [ho,if_pos (by decide)]
 unfold tellI wP
 rw [if_pos (.inl rfl),if_pos hc,show ((0:Nat):Int)+(c:Int)=(c:Int) by omega,load_at]
theorem pass_off (h1:L.a1=0) {c:Nat} (hc:c<8) (u:Nat) (K old x:Int):∀ o' n',8≤o'→sub (doS f.ps u K (L.pA c) old x).ws o' n'=sub f.ps.ws o' n':=λo' n' ho=>by
 unfold Lp.pA
 rw [h1,show (0:Int)+(c:Int)=((0:Nat):Int)+(c:Int) by omega]
 exact do_off K old x (by omega)
theorem pass_load (h1:L.a1=0) {c:Nat} (u:Nat):wP (doS f.ps u 1 (L.pA c) 0 0)=wP f.ps:=by
 unfold wP doS
 split
 ·rfl
 ·rfl
theorem stpL1a (h:OrdJ f ga la H V gg Wg) (h1:L.a1=0) {k u:Nat} (hk:k<f.s.n) (hu:u<f.ps.ac.length) (s1:f.s.st k=1) (p1:f.ph k=1) (hw:wP f.ps (f.nd k)≠0):
  f.did L k u=⟨1,false,false,false⟩∧OrdJ (f.step L k u) ga la H V gg Wg∧(f.step L k u).s=f.s.set k 2 0∧(f.step L k u).ph=upd f.ph k 0:=by
 have hc:=h.cor.ndl k hk
 have et:=h.tell_pass h1 hc hu
 obtain ⟨ed,em⟩:=at_one (L:=L) (u:=u) hk s1
 have ed2:f.did L k u=⟨1,false,false,false⟩:=by rw [ed];unfold FL.acqD;rw [if_neg (by omega),if_pos p1,if_neg (by rw [et];exact hw)]
 have em2:f.mid L k u={f with ps:=doS f.ps u 1 (L.pA (f.nd k)) 0 0}:=by rw [em];unfold FL.acq;rw [if_neg (by omega),if_pos p1,if_neg (by rw [et];exact hw)]
 have es:=end_step (L:=L) (u:=(u:Int)) hk (by rw [ed2]) em2 (by rw [s1];rfl:behindI (f.s.st k) 1=some 2)
 refine ⟨ed2,?_,by rw [es],by rw [es]⟩
 rw [es]
 obtain ⟨fl,fg⟩:=h.far0 (q:=doS f.ps u 1 (L.pA (f.nd k)) 0 0) (do_len' _ _ _ _ _ _).1 (pass_off h1 hc u 1 0 0)
 refine h.keep rfl rfl rfl ⟨rfl,rfl,rfl⟩ rfl (do_len' _ _ _ _ _ _).2 (λ_=>⟨rfl,rfl⟩) ⟨rfl,rfl⟩ fl fg ?_
 show Cor f.s.n f.bud (upd f.s.st k 2) (upd f.ph k 0) f.got f.nd f.own _ H V f.G.s.st (wP (doS f.ps u 1 (L.pA (f.nd k)) 0 0))
 rw [pass_load h1]
 have hx:=h.cor.cx k hk
 have:=h.cor.own1 (t:=k) hk (y:=2) (p:=0) (g:=f.got k) (by
  cases hx with
  |pass hx hp hl q=>
   rcases q with ⟨q,_⟩|⟨q1,q2,q3⟩
   ·exact absurd q hw
   ·exact .has rfl rfl hl q3 q1 q2
  |_=>omega)
 rw [upd_idx f.got k rfl] at this
 exact this
theorem stpL1b (h:OrdJ f ga la H V gg Wg) (h1:L.a1=0) {k u:Nat} (hk:k<f.s.n) (hu:u<f.ps.ac.length) (s1:f.s.st k=1) (p1:f.ph k=1) (hw:wP f.ps (f.nd k)=0):
  f.did L k u=Dd.no∧OrdJ (f.step L k u) ga la H V gg Wg∧(f.step L k u).s=f.s∧(f.step L k u).ph=upd f.ph k 2:=by
 have hc:=h.cor.ndl k hk
 have et:=h.tell_pass h1 hc hu
 obtain ⟨ed,em⟩:=at_one (L:=L) (u:=u) hk s1
 have ed2:f.did L k u=Dd.no:=by rw [ed];unfold FL.acqD;rw [if_neg (by omega),if_pos p1,if_pos (by rw [et];exact hw)]
 have em2:f.mid L k u={f with ph:=upd f.ph k 2,G:=f.G.lock (f.nd k:Nat) (-1),ps:=doS f.ps u 1 (L.pA (f.nd k)) 0 0}:=by rw [em];unfold FL.acq;rw [if_neg (by omega),if_pos p1,if_pos (by rw [et];exact hw)]
 have es:=on_step (L:=L) (u:=(u:Int)) (k:=k) (by rw [ed2];rfl:(f.did L k u).ev=0) em2 (by rw [s1];rfl)
 have hx:=h.cor.cx k hk
 obtain ⟨hl,hq⟩:(f.Lc (f.nd k)).s.st (f.own k)=2∧f.G.s.st (f.nd k)=0:=by
  cases hx with
  |pass hx hp hl q=>exact ⟨hl,by omega⟩
  |_=>omega
 refine ⟨ed2,?_,by rw [es],by rw [es]⟩
 rw [es]
 obtain ⟨fl,fg⟩:=h.far0 (q:=doS f.ps u 1 (L.pA (f.nd k)) 0 0) (do_len' _ _ _ _ _ _).1 (pass_off h1 hc u 1 0 0)
 refine h.keep rfl rfl rfl ⟨rfl,rfl,rfl⟩ rfl (do_len' _ _ _ _ _ _).2 (λ_=>⟨rfl,rfl⟩) ⟨Inn.lock_n _ _,Inn.lock_size _ _⟩ fl (by show ((f.G.lock _ _).on _).At _ _ _;rw [Inn.lock_on];exact fg.lock _ _) ?_
 show Cor f.s.n f.bud f.s.st (upd f.ph k 2) f.got f.nd f.own _ H V (f.G.lock (f.nd k:Nat) (-1)).s.st (wP (doS f.ps u 1 (L.pA (f.nd k)) 0 0))
 rw [pass_load h1,Inn.lock_s,lock_st (by rw [h.gn];exact hc) hq]
 have:=h.cor.own2 (t:=k) hk (by show 2≤(f.Lc (f.nd k)).s.st (f.own k);omega) (y:=f.s.st k) (p:=2) (g:=f.got k) (z:=(f.Lc (f.nd k)).s.st (f.own k)) (w:=wP f.ps (f.nd k)) (e:=1) (by omega) (.glo s1 rfl hl hw rfl)
 rw [upd_idx f.got k rfl,upd_idx f.s.st k rfl,upd_idx (wP f.ps) _ rfl,upd_idx ((f.Lc (f.nd k)).s.st) _ rfl,upd_idx (λc=>(f.Lc c).s.st) _ rfl] at this
 exact this
theorem stpL3 (h:OrdJ f ga la H V gg Wg) (h1:L.a1=0) {k u:Nat} (hk:k<f.s.n) (hu:u<f.ps.ac.length) (s1:f.s.st k=1) (p3:f.ph k=3):
  f.did L k u=⟨1,false,false,true⟩∧OrdJ (f.step L k u) ga la H V gg Wg∧(f.step L k u).s=f.s.set k 2 0∧(f.step L k u).ph=upd f.ph k 0:=by
 have hc:=h.cor.ndl k hk
 obtain ⟨ed,em⟩:=at_one (L:=L) (u:=u) hk s1
 have ed2:f.did L k u=⟨1,false,false,true⟩:=by rw [ed];unfold FL.acqD;rw [if_neg (by omega),if_neg (by omega),if_neg (by omega)]
 have em2:f.mid L k u={f with ps:=doS f.ps u 2 (L.pA (f.nd k)) 0 1}:=by rw [em];unfold FL.acq;rw [if_neg (by omega),if_neg (by omega),if_neg (by omega)]
 have es:=end_step (L:=L) (u:=(u:Int)) hk (by rw [ed2]) em2 (by rw [s1];rfl:behindI (f.s.st k) 1=some 2)
 have hx:=h.cor.cx k hk
 have hB:=h.bud
 obtain ⟨hl,hq⟩:(f.Lc (f.nd k)).s.st (f.own k)=2∧f.G.s.st (f.nd k)=2:=by
  cases hx with
  |fst hx hp hl q e=>exact ⟨hl,e⟩
  |_=>omega
 refine ⟨ed2,?_,by rw [es],by rw [es]⟩
 rw [es]
 obtain ⟨fl,fg⟩:=h.far0 (q:=doS f.ps u 2 (L.pA (f.nd k)) 0 1) (do_len' _ _ _ _ _ _).1 (pass_off h1 hc u 2 0 1)
 refine h.keep rfl rfl rfl ⟨rfl,rfl,rfl⟩ rfl (do_len' _ _ _ _ _ _).2 (λ_=>⟨rfl,rfl⟩) ⟨rfl,rfl⟩ fl fg ?_
 show Cor f.s.n f.bud (upd f.s.st k 2) (upd f.ph k 0) f.got f.nd f.own _ H V f.G.s.st (wP (doS f.ps u 2 (L.pA (f.nd k)) 0 1))
 have ew:wP (doS f.ps u 2 (L.pA (f.nd k)) 0 1)=upd (wP f.ps) (f.nd k) 1:=by unfold Lp.pA;rw [h1];exact wP_store hu hc h.wl
 rw [ew]
 have:=h.cor.own2 (t:=k) hk (by show 2≤(f.Lc (f.nd k)).s.st (f.own k);omega) (y:=2) (p:=0) (g:=f.got k) (z:=(f.Lc (f.nd k)).s.st (f.own k)) (w:=1) (e:=f.G.s.st (f.nd k)) (by omega) (.has rfl rfl hl hq (by decide) (by omega))
 rw [upd_idx f.got k rfl,upd_idx f.G.s.st _ rfl,upd_idx ((f.Lc (f.nd k)).s.st) _ rfl,upd_idx (λc=>(f.Lc c).s.st) _ rfl] at this
 exact this
theorem loc_upd {q:PSta} {k:Nat} {x:Inn} {h':Option Nat} {v':List Nat} (hx:(x.on q).At (la (f.nd k)) h' v') (hf:∀ u,u<f.s.n→f.nd u≠f.nd k→((f.Lc (f.nd u)).on q).At (la (f.nd u)) (H (f.nd u)) (V (f.nd u))):
  ∀ t,t<f.s.n→((upd f.Lc (f.nd k) x (f.nd t)).on q).At (la (f.nd t)) (upd H (f.nd k) h' (f.nd t)) (upd V (f.nd k) v' (f.nd t)):=by
 intro t ht
 by_cases e:f.nd t=f.nd k
 ·rw [e,upd_same,upd_same,upd_same];exact hx
 ·rw [upd_other _ _ e,upd_other _ _ e,upd_other _ _ e];exact hf t ht e
theorem pass_turn (h:OrdJ f ga la H V gg Wg) (h1:L.a1=0) {k u:Nat} (hk:k<f.s.n) (K old w x:Int) (hx:x=3∨x=4):
  (∀ t,t<f.s.n→((upd f.Lc (f.nd k) ((f.Lc (f.nd k)).turn (f.own k:Nat) x) (f.nd t)).on (doS f.ps u K (L.pA (f.nd k)) old w)).At (la (f.nd t)) (H (f.nd t)) (V (f.nd t)))∧(f.G.on (doS f.ps u K (L.pA (f.nd k)) old w)).At ga gg Wg:=by
 have hc:=h.cor.ndl k hk
 obtain ⟨fl,fg⟩:=h.far0 (q:=doS f.ps u K (L.pA (f.nd k)) old w) (do_len' _ _ _ _ _ _).1 (pass_off h1 hc u K old w)
 refine ⟨?_,fg⟩
 have:=loc_upd (f:=f) (k:=k) (H:=H) (V:=V) (la:=la) (q:=doS f.ps u K (L.pA (f.nd k)) old w) (x:=(f.Lc (f.nd k)).turn (f.own k:Nat) x) (h':=H (f.nd k)) (v':=V (f.nd k)) (by rw [Inn.turn_on];exact (fl k hk).turn _ _ hx) (λu hu _=>fl u hu)
 rw [upd_idx H _ rfl,upd_idx V _ rfl] at this
 exact this
theorem turn_nz (c:Nat) (j:Nat) (x:Int):∀ d,(upd f.Lc c ((f.Lc c).turn (j:Nat) x) d).s.n=(f.Lc d).s.n∧(upd f.Lc c ((f.Lc c).turn (j:Nat) x) d).size=(f.Lc d).size:=λd=>by
 by_cases e:d=c
 ·subst e;rw [upd_same];exact ⟨Inn.turn_n _ _,Inn.turn_size _ _⟩
 ·rw [upd_other _ _ e];exact ⟨rfl,rfl⟩
theorem stpU0a (h:OrdJ f ga la H V gg Wg) (h1:L.a1=0) {k u:Nat} (hk:k<f.s.n) (hu:u<f.ps.ac.length) (s3:f.s.st k=3) (p0:f.ph k=0) (hw:wP f.ps (f.nd k)<f.bud):
  f.did L k u=Dd.no∧OrdJ (f.step L k u) ga la H V gg Wg∧(f.step L k u).s=f.s∧(f.step L k u).ph=upd f.ph k 1:=by
 have hc:=h.cor.ndl k hk
 have et:=h.tell_pass h1 hc hu
 obtain ⟨ed,em⟩:=at_three (L:=L) (u:=u) hk s3
 have ed2:f.did L k u=Dd.no:=by rw [ed];unfold FL.relD;rw [if_pos p0]
 have em2:f.mid L k u={f with got:=upd f.got k (wP f.ps (f.nd k)),ph:=upd f.ph k 1,Lc:=upd f.Lc (f.nd k) ((f.Lc (f.nd k)).turn (f.own k:Nat) 4),ps:=doS f.ps u 1 (L.pA (f.nd k)) 0 0}:=by rw [em];unfold FL.rel;rw [if_pos p0,et,if_pos hw]
 have es:=on_step (L:=L) (u:=(u:Int)) (k:=k) (by rw [ed2];rfl:(f.did L k u).ev=0) em2 (by rw [s3];rfl)
 have hx:=h.cor.cx k hk
 obtain ⟨hl,hq,q1⟩:(f.Lc (f.nd k)).s.st (f.own k)=2∧f.G.s.st (f.nd k)=2∧1≤wP f.ps (f.nd k):=by
  cases hx with
  |u0 hx hp hl e q1 q2=>exact ⟨hl,e,q1⟩
  |_=>omega
 refine ⟨ed2,?_,by rw [es],by rw [es]⟩
 rw [es]
 obtain ⟨fl,fg⟩:=h.pass_turn (u:=u) h1 hk 1 0 0 4 (.inr rfl)
 refine h.keep rfl rfl rfl ⟨rfl,rfl,rfl⟩ rfl (do_len' _ _ _ _ _ _).2 (turn_nz _ _ _) ⟨rfl,rfl⟩ fl fg ?_
 show Cor f.s.n f.bud f.s.st (upd f.ph k 1) (upd f.got k (wP f.ps (f.nd k))) f.nd f.own (λc=>(upd f.Lc (f.nd k) _ c).s.st) H V f.G.s.st (wP (doS f.ps u 1 (L.pA (f.nd k)) 0 0))
 rw [pass_load h1,upd_map,Inn.turn_s,turn_st (h.own k hk) hl]
 have:=h.cor.own2 (t:=k) hk (by show 2≤(f.Lc (f.nd k)).s.st (f.own k);omega) (y:=f.s.st k) (p:=1) (g:=wP f.ps (f.nd k)) (z:=4) (w:=wP f.ps (f.nd k)) (e:=f.G.s.st (f.nd k)) (by decide) (.u1 s3 rfl rfl hq q1 hw rfl)
 rw [upd_idx f.s.st k rfl,upd_idx (wP f.ps) _ rfl,upd_idx f.G.s.st _ rfl] at this
 exact this
theorem stpU0b (h:OrdJ f ga la H V gg Wg) (h1:L.a1=0) {k u:Nat} (hk:k<f.s.n) (hu:u<f.ps.ac.length) (s3:f.s.st k=3) (p0:f.ph k=0) (hw:¬ wP f.ps (f.nd k)<f.bud):
  f.did L k u=Dd.no∧OrdJ (f.step L k u) ga la H V gg Wg∧(f.step L k u).s=f.s∧(f.step L k u).ph=upd f.ph k 3:=by
 have hc:=h.cor.ndl k hk
 have et:=h.tell_pass h1 hc hu
 obtain ⟨ed,em⟩:=at_three (L:=L) (u:=u) hk s3
 have ed2:f.did L k u=Dd.no:=by rw [ed];unfold FL.relD;rw [if_pos p0]
 have em2:f.mid L k u={f with got:=upd f.got k (wP f.ps (f.nd k)),ph:=upd f.ph k 3,ps:=doS f.ps u 1 (L.pA (f.nd k)) 0 0}:=by rw [em];unfold FL.rel;rw [if_pos p0,et,if_neg hw]
 have es:=on_step (L:=L) (u:=(u:Int)) (k:=k) (by rw [ed2];rfl:(f.did L k u).ev=0) em2 (by rw [s3];rfl)
 have hx:=h.cor.cx k hk
 refine ⟨ed2,?_,by rw [es],by rw [es]⟩
 rw [es]
 obtain ⟨fl,fg⟩:=h.far0 (q:=doS f.ps u 1 (L.pA (f.nd k)) 0 0) (do_len' _ _ _ _ _ _).1 (pass_off h1 hc u 1 0 0)
 refine h.keep rfl rfl rfl ⟨rfl,rfl,rfl⟩ rfl (do_len' _ _ _ _ _ _).2 (λ_=>⟨rfl,rfl⟩) ⟨rfl,rfl⟩ fl fg ?_
 show Cor f.s.n f.bud f.s.st (upd f.ph k 3) (upd f.got k (wP f.ps (f.nd k))) f.nd f.own _ H V f.G.s.st (wP (doS f.ps u 1 (L.pA (f.nd k)) 0 0))
 rw [pass_load h1]
 have:=h.cor.own1 (t:=k) hk (y:=f.s.st k) (p:=3) (g:=wP f.ps (f.nd k)) (by
  cases hx with
  |u0 hx hp hl e q1 q2=>exact .u3 s3 rfl hl e q1 q2
  |_=>omega)
 rw [upd_idx f.s.st k rfl] at this
 exact this
theorem stpU2 (h:OrdJ f ga la H V gg Wg) (h1:L.a1=0) {k u:Nat} (hk:k<f.s.n) (hu:u<f.ps.ac.length) (s3:f.s.st k=3) (p2:f.ph k=2):
  f.did L k u=Dd.no∧OrdJ (f.step L k u) ga la H V gg Wg∧(f.step L k u).s=f.s∧(f.step L k u).ph=upd f.ph k 5:=by
 have hc:=h.cor.ndl k hk
 obtain ⟨ed,em⟩:=at_three (L:=L) (u:=u) hk s3
 have ed2:f.did L k u=Dd.no:=by rw [ed];unfold FL.relD;rw [if_neg (by omega),if_neg (by omega),if_pos p2]
 have em2:f.mid L k u={f with Lc:=upd f.Lc (f.nd k) ((f.Lc (f.nd k)).turn (f.own k:Nat) 3),ph:=upd f.ph k 5,ps:=doS f.ps u 2 (L.pA (f.nd k)) 0 (f.got k+1)}:=by rw [em];unfold FL.rel;rw [if_neg (by omega),if_neg (by omega),if_pos p2]
 have es:=on_step (L:=L) (u:=(u:Int)) (k:=k) (by rw [ed2];rfl:(f.did L k u).ev=0) em2 (by rw [s3];rfl)
 have hx:=h.cor.cx k hk
 obtain ⟨hl,hq,q1,q2,hv⟩:(f.Lc (f.nd k)).s.st (f.own k)=2∧f.G.s.st (f.nd k)=2∧1≤f.got k∧f.got k<f.bud∧V (f.nd k)≠[]:=by
  cases hx with
  |u2 hx hp hl e q1 q2 hg hv=>exact ⟨hl,e,by omega,by omega,hv⟩
  |_=>omega
 refine ⟨ed2,?_,by rw [es],by rw [es]⟩
 rw [es]
 obtain ⟨fl,fg⟩:=h.pass_turn (u:=u) h1 hk 2 0 (f.got k+1) 3 (.inl rfl)
 refine h.keep rfl rfl rfl ⟨rfl,rfl,rfl⟩ rfl (do_len' _ _ _ _ _ _).2 (turn_nz _ _ _) ⟨rfl,rfl⟩ fl fg ?_
 show Cor f.s.n f.bud f.s.st (upd f.ph k 5) f.got f.nd f.own (λc=>(upd f.Lc (f.nd k) _ c).s.st) H V f.G.s.st (wP (doS f.ps u 2 (L.pA (f.nd k)) 0 (f.got k+1)))
 have ew:wP (doS f.ps u 2 (L.pA (f.nd k)) 0 (f.got k+1))=upd (wP f.ps) (f.nd k) (f.got k+1):=by unfold Lp.pA;rw [h1];exact wP_store hu hc h.wl
 rw [ew,upd_map,Inn.turn_s,turn_st (h.own k hk) hl]
 have:=h.cor.own2 (t:=k) hk (by show 2≤(f.Lc (f.nd k)).s.st (f.own k);omega) (y:=f.s.st k) (p:=5) (g:=f.got k) (z:=3) (w:=f.got k+1) (e:=f.G.s.st (f.nd k)) (by decide) (.u5 s3 rfl rfl (.inr ⟨hq,by omega,by omega,hv⟩))
 rw [upd_idx f.s.st k rfl,upd_idx f.got k rfl,upd_idx f.G.s.st _ rfl] at this
 exact this
theorem stpU3 (h:OrdJ f ga la H V gg Wg) (h1:L.a1=0) {k u:Nat} (hk:k<f.s.n) (hu:u<f.ps.ac.length) (s3:f.s.st k=3) (p3:f.ph k=3):
  f.did L k u=Dd.no∧OrdJ (f.step L k u) ga la H V gg Wg∧(f.step L k u).s=f.s∧(f.step L k u).ph=upd f.ph k 4:=by
 have hc:=h.cor.ndl k hk
 obtain ⟨ed,em⟩:=at_three (L:=L) (u:=u) hk s3
 have ed2:f.did L k u=Dd.no:=by rw [ed];unfold FL.relD;rw [if_neg (by omega),if_neg (by omega),if_neg (by omega),if_pos p3]
 have em2:f.mid L k u={f with G:=f.G.turn (f.nd k:Nat) 3,ph:=upd f.ph k 4,ps:=doS f.ps u 2 (L.pA (f.nd k)) 0 0}:=by rw [em];unfold FL.rel;rw [if_neg (by omega),if_neg (by omega),if_neg (by omega),if_pos p3]
 have es:=on_step (L:=L) (u:=(u:Int)) (k:=k) (by rw [ed2];rfl:(f.did L k u).ev=0) em2 (by rw [s3];rfl)
 have hx:=h.cor.cx k hk
 obtain ⟨hl,hq⟩:(f.Lc (f.nd k)).s.st (f.own k)=2∧f.G.s.st (f.nd k)=2:=by
  cases hx with
  |u3 hx hp hl e q1 q2=>exact ⟨hl,e⟩
  |_=>omega
 refine ⟨ed2,?_,by rw [es],by rw [es]⟩
 rw [es]
 obtain ⟨fl,fg⟩:=h.far0 (q:=doS f.ps u 2 (L.pA (f.nd k)) 0 0) (do_len' _ _ _ _ _ _).1 (pass_off h1 hc u 2 0 0)
 refine h.keep rfl rfl rfl ⟨rfl,rfl,rfl⟩ rfl (do_len' _ _ _ _ _ _).2 (λ_=>⟨rfl,rfl⟩) ⟨Inn.turn_n _ _,Inn.turn_size _ _⟩ fl (by show ((f.G.turn _ _).on _).At _ _ _;rw [Inn.turn_on];exact fg.turn _ _ (.inl rfl)) ?_
 show Cor f.s.n f.bud f.s.st (upd f.ph k 4) f.got f.nd f.own _ H V (f.G.turn (f.nd k:Nat) 3).s.st (wP (doS f.ps u 2 (L.pA (f.nd k)) 0 0))
 have ew:wP (doS f.ps u 2 (L.pA (f.nd k)) 0 0)=upd (wP f.ps) (f.nd k) 0:=by unfold Lp.pA;rw [h1];exact wP_store hu hc h.wl
 rw [ew,Inn.turn_s,turn_st (by rw [h.gn];exact hc) hq]
 have:=h.cor.own2 (t:=k) hk (by show 2≤(f.Lc (f.nd k)).s.st (f.own k);omega) (y:=f.s.st k) (p:=4) (g:=f.got k) (z:=(f.Lc (f.nd k)).s.st (f.own k)) (w:=0) (e:=3) (by omega) (.u4 s3 rfl hl rfl rfl)
 rw [upd_idx f.s.st k rfl,upd_idx f.got k rfl,upd_idx ((f.Lc (f.nd k)).s.st) _ rfl,upd_idx (λc=>(f.Lc c).s.st) _ rfl] at this
 exact this
end OrdJ
namespace OrdJ
variable {f:FL} {L:Lp} {ga:Nat} {la:Nat→Nat} {H:Nat→Option Nat} {V:Nat→List Nat} {gg:Option Nat} {Wg:List Nat}
theorem glo_step (h:OrdJ f ga la H V gg Wg) {c u:Nat} (hc:c<8) (hu:u<f.ps.ac.length):
  ∃ g' W',((f.gl.step ga c u).on (f.gl.step ga c u).ps).At ga g' W'∧StI Wg c (f.gl.did ga c u) W'∧(∀ t,t<f.s.n→((f.Lc (f.nd t)).on (f.gl.step ga c u).ps).At (la (f.nd t)) (H (f.nd t)) (V (f.nd t)))∧wP (f.gl.step ga c u).ps=wP f.ps∧(f.gl.step ga c u).ps.ac.length=f.ps.ac.length∧
   ((f.gl.step ga c u).s.n=f.G.s.n∧(f.gl.step ga c u).size=f.G.size)∧(f.gl.step ga c u).s=f.G.s.fin c (f.gl.did ga c u).ev:=by
 have es:f.gl.s=f.G.s:=Inn.on_s _
 have ep:f.gl.ps=f.ps:=Inn.on_ps _
 have ez:f.gl.size=f.G.size:=Inn.on_size _
 obtain ⟨g',W',a,b,d⟩:=h.glo.step (k:=c) (u:=u) (by rw [es,h.gn];exact hc) (by rw [ep];exact hu)
 have hl:=Inn.step_len (x:=f.gl) (ga:Int) (c:Int) (u:Int)
 rw [ep] at hl d
 rw [ez] at d
 obtain ⟨q1,q2⟩:=h.far2 hl.1 d
 exact ⟨g',W',by rw [Inn.on_self];exact a,b,q1,q2,hl.2,⟨by rw [Inn.step_n,es],by rw [Inn.step_size,ez]⟩,by rw [Inn.step_s,es]⟩
theorem stpL2 (h:OrdJ f ga la H V gg Wg) {k u:Nat} (hk:k<f.s.n) (hu:u<f.ps.ac.length) (s1:f.s.st k=1) (p2:f.ph k=2):
  ∃ gg' Wg',f.did L k u=⟨0,false,(f.gl.did ga (f.nd k:Nat) u).enq,false⟩∧OrdJ (f.step L k u) ga la H V gg' Wg'∧StI Wg (f.nd k) (f.gl.did ga (f.nd k:Nat) u) Wg'∧(f.step L k u).s=f.s∧(f.step L k u).ph=upd f.ph k (2+(f.gl.did ga (f.nd k:Nat) u).ev)∧((f.gl.did ga (f.nd k:Nat) u).ev=0∨(f.gl.did ga (f.nd k:Nat) u).ev=1):=by
 have hc:=h.cor.ndl k hk
 obtain ⟨g',W',a,b,fl,ew,el,en,ex⟩:=h.glo_step (c:=f.nd k) (u:=u) hc hu
 have hx:=h.cor.cx k hk
 obtain ⟨hl,hq,hw⟩:(f.Lc (f.nd k)).s.st (f.own k)=2∧f.G.s.st (f.nd k)=1∧wP f.ps (f.nd k)=0:=by
  cases hx with
  |glo hx hp hl q e=>exact ⟨hl,e,q⟩
  |_=>omega
 have es0:f.gl.s=f.G.s:=Inn.on_s _
 have hd:=(Inn.did_at (x:=f.gl) (k:=f.nd k) (u:=u) (ga:Int) (by rw [es0,h.gn];exact hc)).1 (by rw [es0];exact hq)
 obtain ⟨ed,em⟩:=at_one (L:=L) (u:=u) hk s1
 have ed2:f.did L k u=⟨0,false,(f.gl.did ga (f.nd k:Nat) u).enq,false⟩:=by rw [ed];unfold FL.acqD;rw [if_neg (by omega),if_neg (by omega),if_pos p2,h.adr.1]
 have em2:f.mid L k u={f with G:=f.gl.step ga (f.nd k:Nat) u,ph:=upd f.ph k (2+(f.gl.did ga (f.nd k:Nat) u).ev),ps:=(f.gl.step ga (f.nd k:Nat) u).ps}:=by rw [em];unfold FL.acq;rw [if_neg (by omega),if_neg (by omega),if_pos p2,h.adr.1]
 have es:=on_step (L:=L) (u:=(u:Int)) (k:=k) (by rw [ed2]:(f.did L k u).ev=0) em2 (by rw [s1];rfl)
 refine ⟨g',W',ed2,?_,b,by rw [es],by rw [es],hd.1⟩
 rw [es]
 refine h.keep rfl rfl rfl ⟨rfl,rfl,rfl⟩ rfl el (λ_=>⟨rfl,rfl⟩) en fl a ?_
 show Cor f.s.n f.bud f.s.st (upd f.ph k (2+(f.gl.did ga (f.nd k:Nat) u).ev)) f.got f.nd f.own _ H V (f.gl.step ga (f.nd k:Nat) u).s.st (wP (f.gl.step ga (f.nd k:Nat) u).ps)
 rw [ew,ex]
 rcases hd.1 with e0|e1
 ·rw [e0,(fin_none' (by rw [hq];rfl:behindI (f.G.s.st (f.nd k)) 0=none)).1]
  have:=h.cor.own1 (t:=k) hk (y:=f.s.st k) (p:=2+0) (g:=f.got k) (.glo s1 rfl hl hw hq)
  rw [upd_idx f.got k rfl,upd_idx f.s.st k rfl] at this
  exact this
 ·rw [e1,(fin_some' (by rw [h.gn];exact hc) (by rw [hq];rfl:behindI (f.G.s.st (f.nd k)) 1=some 2)).1]
  have:=h.cor.own2 (t:=k) hk (by show 2≤(f.Lc (f.nd k)).s.st (f.own k);omega) (y:=f.s.st k) (p:=2+1) (g:=f.got k) (z:=(f.Lc (f.nd k)).s.st (f.own k)) (w:=wP f.ps (f.nd k)) (e:=2) (by omega) (.fst s1 rfl hl hw rfl)
  rw [upd_idx f.got k rfl,upd_idx f.s.st k rfl,upd_idx (wP f.ps) _ rfl,upd_idx ((f.Lc (f.nd k)).s.st) _ rfl,upd_idx (λc=>(f.Lc c).s.st) _ rfl] at this
  exact this
theorem stpU4 (h:OrdJ f ga la H V gg Wg) {k u:Nat} (hk:k<f.s.n) (hu:u<f.ps.ac.length) (s3:f.s.st k=3) (p4:f.ph k=4):
  ∃ gg',f.did L k u=Dd.no∧OrdJ (f.step L k u) ga la H V gg' Wg∧(f.step L k u).s=f.s∧((f.gl.did ga (f.nd k:Nat) u).ev=0∧(f.step L k u).ph=f.ph∨(f.gl.did ga (f.nd k:Nat) u).ev=3∧(f.step L k u).ph=upd f.ph k 5):=by
 have hc:=h.cor.ndl k hk
 obtain ⟨g',W',a,b,fl,ew,el,en,ex⟩:=h.glo_step (c:=f.nd k) (u:=u) hc hu
 have hx:=h.cor.cx k hk
 obtain ⟨hl,hq,hw⟩:(f.Lc (f.nd k)).s.st (f.own k)=2∧f.G.s.st (f.nd k)=3∧wP f.ps (f.nd k)=0:=by
  cases hx with
  |u4 hx hp hl q e=>exact ⟨hl,q,e⟩
  |_=>omega
 have es0:f.gl.s=f.G.s:=Inn.on_s _
 have hd:=(Inn.did_at (x:=f.gl) (k:=f.nd k) (u:=u) (ga:Int) (by rw [es0,h.gn];exact hc)).2.1 (by rw [es0];exact hq)
 have eW:W'=Wg:=by
  cases b with
  |same h0 h1 e=>exact e
  |enq hh e=>rw [hh] at hd;simp at hd
  |grant hh e=>rw [hh] at hd;simp at hd
  |both hh e e'=>rw [hh] at hd;simp at hd
 subst eW
 obtain ⟨ed,em⟩:=at_three (L:=L) (u:=u) hk s3
 have ed2:f.did L k u=Dd.no:=by rw [ed];unfold FL.relD;rw [if_neg (by omega),if_neg (by omega),if_neg (by omega),if_neg (by omega),if_pos p4]
 rcases hd.1 with e0|e3
 ·have em2:f.mid L k u={f with G:=f.gl.step ga (f.nd k:Nat) u,ps:=(f.gl.step ga (f.nd k:Nat) u).ps}:=by rw [em];unfold FL.rel;rw [if_neg (by omega),if_neg (by omega),if_neg (by omega),if_neg (by omega),if_pos p4,h.adr.1,if_neg (by omega)]
  have es:=on_step (L:=L) (u:=(u:Int)) (k:=k) (by rw [ed2];rfl:(f.did L k u).ev=0) em2 (by rw [s3];rfl)
  refine ⟨g',ed2,?_,by rw [es],.inl ⟨e0,by rw [es]⟩⟩
  rw [es]
  refine h.keep rfl rfl rfl ⟨rfl,rfl,rfl⟩ rfl el (λ_=>⟨rfl,rfl⟩) en fl a ?_
  show Cor f.s.n f.bud f.s.st f.ph f.got f.nd f.own _ H V (f.gl.step ga (f.nd k:Nat) u).s.st (wP (f.gl.step ga (f.nd k:Nat) u).ps)
  rw [ew,ex,e0,(fin_none' (by rw [hq];rfl:behindI (f.G.s.st (f.nd k)) 0=none)).1]
  exact h.cor
 ·have em2:f.mid L k u={f with G:=f.gl.step ga (f.nd k:Nat) u,ph:=upd f.ph k 5,Lc:=upd f.Lc (f.nd k) ((f.Lc (f.nd k)).turn (f.own k:Nat) 3),ps:=(f.gl.step ga (f.nd k:Nat) u).ps}:=by rw [em];unfold FL.rel;rw [if_neg (by omega),if_neg (by omega),if_neg (by omega),if_neg (by omega),if_pos p4,h.adr.1,if_pos e3]
  have es:=on_step (L:=L) (u:=(u:Int)) (k:=k) (by rw [ed2];rfl:(f.did L k u).ev=0) em2 (by rw [s3];rfl)
  refine ⟨g',ed2,?_,by rw [es],.inr ⟨e3,by rw [es]⟩⟩
  rw [es]
  have fl2:=loc_upd (f:=f) (k:=k) (H:=H) (V:=V) (la:=la) (q:=(f.gl.step ga (f.nd k:Nat) u).ps) (x:=(f.Lc (f.nd k)).turn (f.own k:Nat) 3) (h':=H (f.nd k)) (v':=V (f.nd k)) (by rw [Inn.turn_on];exact (fl k hk).turn _ _ (.inl rfl)) (λu hu _=>fl u hu)
  rw [upd_idx H _ rfl,upd_idx V _ rfl] at fl2
  refine h.keep rfl rfl rfl ⟨rfl,rfl,rfl⟩ rfl el (turn_nz _ _ _) en fl2 a ?_
  show Cor f.s.n f.bud f.s.st (upd f.ph k 5) f.got f.nd f.own (λc=>(upd f.Lc (f.nd k) _ c).s.st) H V (f.gl.step ga (f.nd k:Nat) u).s.st (wP (f.gl.step ga (f.nd k:Nat) u).ps)
  rw [ew,ex,e3,(fin_some' (by rw [h.gn];exact hc) (by rw [hq];rfl:behindI (f.G.s.st (f.nd k)) 3=some 0)).1,upd_map,Inn.turn_s,turn_st (h.own k hk) hl]
  have:=h.cor.own2 (t:=k) hk (by show 2≤(f.Lc (f.nd k)).s.st (f.own k);omega) (y:=f.s.st k) (p:=5) (g:=f.got k) (z:=3) (w:=wP f.ps (f.nd k)) (e:=0) (by decide) (.u5 s3 rfl rfl (.inl ⟨hw,rfl⟩))
  rw [upd_idx f.s.st k rfl,upd_idx f.got k rfl,upd_idx (wP f.ps) _ rfl] at this
  exact this
theorem loc_step (h:OrdJ f ga la H V gg Wg) {k u:Nat} (hk:k<f.s.n) (hu:u<f.ps.ac.length) {y:Inn} (hy:y.At (la (f.nd k)) (H (f.nd k)) (V (f.nd k))) (yp:y.ps=f.ps) (yn:y.s.n=(f.Lc (f.nd k)).s.n) (yz:y.size=(f.Lc (f.nd k)).size):
  ∃ g' W',(y.step (la (f.nd k)) (f.own k:Nat) u).At (la (f.nd k)) g' W'∧StI (V (f.nd k)) (f.own k) (y.did (la (f.nd k)) (f.own k:Nat) u) W'∧
   (∀ t,t<f.s.n→((upd f.Lc (f.nd k) (y.step (la (f.nd k)) (f.own k:Nat) u) (f.nd t)).on (y.step (la (f.nd k)) (f.own k:Nat) u).ps).At (la (f.nd t)) (upd H (f.nd k) g' (f.nd t)) (upd V (f.nd k) W' (f.nd t)))∧
   (f.G.on (y.step (la (f.nd k)) (f.own k:Nat) u).ps).At ga gg Wg∧wP (y.step (la (f.nd k)) (f.own k:Nat) u).ps=wP f.ps∧(y.step (la (f.nd k)) (f.own k:Nat) u).ps.ac.length=f.ps.ac.length∧
   (∀ c,(upd f.Lc (f.nd k) (y.step (la (f.nd k)) (f.own k:Nat) u) c).s.n=(f.Lc c).s.n∧(upd f.Lc (f.nd k) (y.step (la (f.nd k)) (f.own k:Nat) u) c).size=(f.Lc c).size):=by
 have ho:=h.own k hk
 obtain ⟨g',W',a,b,d⟩:=hy.step (k:=f.own k) (u:=u) (by rw [yn];exact ho) (by rw [yp];exact hu)
 have hl:=Inn.step_len (x:=y) (la (f.nd k):Int) (f.own k:Int) (u:Int)
 rw [yp] at hl d
 rw [yz] at d
 obtain ⟨q1,q2,q3⟩:=h.far1 hk hl.1 d
 refine ⟨g',W',a,b,loc_upd (by rw [Inn.on_self];exact a) q1,q2,q3,hl.2,λc=> ?_⟩
 by_cases e:c=f.nd k
 ·subst e;rw [upd_same];exact ⟨by rw [Inn.step_n,yn],by rw [Inn.step_size,yz]⟩
 ·rw [upd_other _ _ e];exact ⟨rfl,rfl⟩
theorem stpU1 (h:OrdJ f ga la H V gg Wg) {k u:Nat} (hk:k<f.s.n) (hu:u<f.ps.ac.length) (s3:f.s.st k=3) (p1:f.ph k=1):
  ∃ p,(p=2∨p=3)∧f.did L k u=Dd.no∧OrdJ (f.step L k u) ga la H V gg Wg∧(f.step L k u).s=f.s∧(f.step L k u).ph=upd f.ph k p:=by
 have hc:=h.cor.ndl k hk
 have es0:(f.lk (f.nd k)).s=(f.Lc (f.nd k)).s:=Inn.on_s _
 obtain ⟨g',W',a,b,fl,fg,ew,el,en⟩:=h.loc_step hk hu (h.loc k hk) (Inn.on_ps _) (by rw [es0]) (Inn.on_size _)
 have hx:=h.cor.cx k hk
 obtain ⟨hl,he,q1,q2,hg⟩:(f.Lc (f.nd k)).s.st (f.own k)=4∧f.G.s.st (f.nd k)=2∧1≤wP f.ps (f.nd k)∧wP f.ps (f.nd k)<f.bud∧f.got k=wP f.ps (f.nd k):=by
  cases hx with
  |u1 hx hp hl e q1 q2 hg=>exact ⟨hl,e,q1,q2,hg⟩
  |_=>omega
 have ho:=h.own k hk
 have ho2:f.own k<(f.lk (f.nd k)).s.n:=by rw [es0];exact ho
 have hd:=(Inn.did_at (x:=f.lk (f.nd k)) (k:=f.own k) (u:=u) (la (f.nd k):Int) ho2).2.2.1 (by rw [es0];exact hl)
 have eW:W'=V (f.nd k):=by
  cases b with
  |same h0 h1 e=>exact e
  |enq hh e=>rw [hh] at hd;simp at hd
  |grant hh e=>rw [hh] at hd;simp at hd
  |both hh e e'=>rw [hh] at hd;simp at hd
 have exs:((f.lk (f.nd k)).step (la (f.nd k)) (f.own k:Nat) u).s=(f.Lc (f.nd k)).s.set (f.own k) 2 0:=by
  rw [Inn.step_s,es0]
  exact (fin_some' ho (by rw [hl];rcases hd.1 with e|e<;>rw [e]<;>rfl)).1
 have eg:g'=H (f.nd k):=by
  refine (h.loc k hk).qf.same a.qf (by rw [exs,es0];rfl) λi hi=> ?_
  rw [exs,es0]
  show 2≤upd _ _ _ i↔_
  by_cases e:i=f.own k
  ·subst e;rw [upd_same,hl];decide
  ·rw [upd_other _ _ e]
 subst eW eg
 rw [upd_idx H _ rfl,upd_idx V _ rfl] at fl
 obtain ⟨ed,em⟩:=at_three (L:=L) (u:=u) hk s3
 have ed2:f.did L k u=Dd.no:=by rw [ed];unfold FL.relD;rw [if_neg (by omega),if_pos p1]
 obtain ⟨p,hp,hp2⟩:∃ p:Int,p=(if ((f.lk (f.nd k)).did (la (f.nd k)) (f.own k:Nat) u).ev=5 then 2 else 3)∧((p=2∧V (f.nd k)≠[])∨p=3):=by
  by_cases e5:((f.lk (f.nd k)).did (la (f.nd k)) (f.own k:Nat) u).ev=5
  ·exact ⟨2,by rw [if_pos e5],.inl ⟨rfl,(h.loc k hk).company ho2 (by rw [show (f.lk (f.nd k)).ps=f.ps from Inn.on_ps _];exact hu) (by rw [es0];exact hl) e5⟩⟩
  ·exact ⟨3,by rw [if_neg e5],.inr rfl⟩
 have em2:f.mid L k u={f with Lc:=upd f.Lc (f.nd k) ((f.lk (f.nd k)).step (la (f.nd k)) (f.own k:Nat) u),ph:=upd f.ph k p,ps:=((f.lk (f.nd k)).step (la (f.nd k)) (f.own k:Nat) u).ps}:=by rw [em];unfold FL.rel;rw [if_neg (by omega),if_pos p1,h.adr.2,←hp]
 have es:=on_step (L:=L) (u:=(u:Int)) (k:=k) (by rw [ed2];rfl:(f.did L k u).ev=0) em2 (by rw [s3];rfl)
 refine ⟨p,hp2.imp (λq=>q.1) id,ed2,?_,by rw [es],by rw [es]⟩
 rw [es]
 refine h.keep rfl rfl rfl ⟨rfl,rfl,rfl⟩ rfl el en ⟨rfl,rfl⟩ fl fg ?_
 show Cor f.s.n f.bud f.s.st (upd f.ph k p) f.got f.nd f.own (λc=>(upd f.Lc (f.nd k) _ c).s.st) H V f.G.s.st (wP ((f.lk (f.nd k)).step (la (f.nd k)) (f.own k:Nat) u).ps)
 rw [ew,upd_map,exs]
 have:=h.cor.own2 (t:=k) hk (by show 2≤(f.Lc (f.nd k)).s.st (f.own k);omega) (y:=f.s.st k) (p:=p) (g:=f.got k) (z:=2) (w:=wP f.ps (f.nd k)) (e:=f.G.s.st (f.nd k)) (by decide) (by
  rcases hp2 with ⟨e,hv⟩|e
  ·exact .u2 s3 e rfl he q1 q2 hg hv
  ·exact .u3 s3 e rfl he q1 (by omega))
 rw [upd_idx f.s.st k rfl,upd_idx f.got k rfl,upd_idx (wP f.ps) _ rfl,upd_idx f.G.s.st _ rfl] at this
 exact this
theorem stpU5 (h:OrdJ f ga la H V gg Wg) {k u:Nat} (hk:k<f.s.n) (hu:u<f.ps.ac.length) (s3:f.s.st k=3) (p5:f.ph k=5):
  (f.did L k u=Dd.no∧OrdJ (f.step L k u) ga la H V gg Wg∧(f.step L k u).s=f.s∧(f.step L k u).ph=f.ph)∨
  (f.did L k u=⟨3,false,false,false⟩∧OrdJ (f.step L k u) ga la (upd H (f.nd k) none) V gg Wg∧(f.step L k u).s=f.s.set k 0 0∧(f.step L k u).ph=upd f.ph k 0):=by
 have hc:=h.cor.ndl k hk
 have es0:(f.lk (f.nd k)).s=(f.Lc (f.nd k)).s:=Inn.on_s _
 obtain ⟨g',W',a,b,fl,fg,ew,el,en⟩:=h.loc_step hk hu (h.loc k hk) (Inn.on_ps _) (by rw [es0]) (Inn.on_size _)
 have hx:=h.cor.cx k hk
 have hl:(f.Lc (f.nd k)).s.st (f.own k)=3:=by
  cases hx with
  |u5 hx hp hl q=>exact hl
  |_=>omega
 have ho:=h.own k hk
 have ho2:f.own k<(f.lk (f.nd k)).s.n:=by rw [es0];exact ho
 have hH:H (f.nd k)=some (f.own k):=h.cor.hold k hk (by show 2≤(f.Lc (f.nd k)).s.st (f.own k);omega)
 have hd:=(Inn.did_at (x:=f.lk (f.nd k)) (k:=f.own k) (u:=u) (la (f.nd k):Int) ho2).2.1 (by rw [es0];exact hl)
 have eW:W'=V (f.nd k):=by
  cases b with
  |same h0 h1 e=>exact e
  |enq hh e=>rw [hh] at hd;simp at hd
  |grant hh e=>rw [hh] at hd;simp at hd
  |both hh e e'=>rw [hh] at hd;simp at hd
 subst eW
 rw [upd_idx V _ rfl] at fl
 obtain ⟨ed,em⟩:=at_three (L:=L) (u:=u) hk s3
 have em2:f.mid L k u={f with Lc:=upd f.Lc (f.nd k) ((f.lk (f.nd k)).step (la (f.nd k)) (f.own k:Nat) u),ps:=((f.lk (f.nd k)).step (la (f.nd k)) (f.own k:Nat) u).ps}:=by rw [em];unfold FL.rel;rw [if_neg (by omega),if_neg (by omega),if_neg (by omega),if_neg (by omega),if_neg (by omega),h.adr.2]
 have ed2:f.did L k u=⟨((f.lk (f.nd k)).did (la (f.nd k)) (f.own k:Nat) u).ev,false,false,false⟩:=by rw [ed];unfold FL.relD;rw [if_neg (by omega),if_neg (by omega),if_neg (by omega),if_neg (by omega),if_neg (by omega),h.adr.2]
 rcases hd.1 with e0|e3
 ·rw [e0] at ed2
  have exs:((f.lk (f.nd k)).step (la (f.nd k)) (f.own k:Nat) u).s=(f.Lc (f.nd k)).s:=by
   rw [Inn.step_s,es0,e0]
   exact (fin_none' (by rw [hl];rfl)).1
  have eg:g'=H (f.nd k):=(h.loc k hk).qf.same a.qf (by rw [exs,es0]) λi hi=>by rw [exs,es0]
  subst eg
  rw [upd_idx H _ rfl] at fl
  have es:=on_step (L:=L) (u:=(u:Int)) (k:=k) (by rw [ed2]:(f.did L k u).ev=0) em2 (by rw [s3];rfl)
  refine .inl ⟨ed2,?_,by rw [es],by rw [es]⟩
  rw [es]
  refine h.keep rfl rfl rfl ⟨rfl,rfl,rfl⟩ rfl el en ⟨rfl,rfl⟩ fl fg ?_
  show Cor f.s.n f.bud f.s.st f.ph f.got f.nd f.own (λc=>(upd f.Lc (f.nd k) _ c).s.st) H V f.G.s.st (wP ((f.lk (f.nd k)).step (la (f.nd k)) (f.own k:Nat) u).ps)
  rw [ew,upd_map,exs,upd_idx (λd=>(f.Lc d).s.st) _ rfl]
  exact h.cor
 ·rw [e3] at ed2
  have exs:((f.lk (f.nd k)).step (la (f.nd k)) (f.own k:Nat) u).s=(f.Lc (f.nd k)).s.set (f.own k) 0 0:=by
   rw [Inn.step_s,es0,e3]
   exact (fin_some' ho (by rw [hl];rfl)).1
  have eg:g'=none:=by
   cases e:g' with
   |none=>rfl
   |some i=>
    obtain ⟨i1,i2⟩:=(a.qf.iff i).1 e
    rw [exs] at i1 i2
    have i2:2≤upd (f.Lc (f.nd k)).s.st (f.own k) 0 i:=i2
    by_cases q:i=f.own k
    ·subst q;rw [upd_same] at i2;omega
    ·rw [upd_other _ _ q] at i2
     have:=((h.loc k hk).qf.iff i).2 (by rw [es0];exact ⟨i1,i2⟩)
     rw [hH] at this
     exact absurd (Option.some.inj this).symm q
  subst eg
  have es:=end_step (L:=L) (u:=(u:Int)) hk (by rw [ed2]) em2 (by rw [s3];rfl:behindI (f.s.st k) 3=some 0)
  refine .inr ⟨ed2,?_,by rw [es],by rw [es]⟩
  rw [es]
  refine h.keep rfl rfl rfl ⟨rfl,rfl,rfl⟩ rfl el en ⟨rfl,rfl⟩ fl fg ?_
  show Cor f.s.n f.bud (upd f.s.st k 0) (upd f.ph k 0) f.got f.nd f.own (λc=>(upd f.Lc (f.nd k) _ c).s.st) (upd H (f.nd k) none) V f.G.s.st (wP ((f.lk (f.nd k)).step (la (f.nd k)) (f.own k:Nat) u).ps)
  rw [ew,upd_map,exs]
  exact h.cor.gone hk s3 p5
end OrdJ
namespace OrdJ
variable {f:FL} {L:Lp} {ga:Nat} {la:Nat→Nat} {H:Nat→Option Nat} {V:Nat→List Nat} {gg:Option Nat} {Wg:List Nat}
theorem stpL0 (h:OrdJ f ga la H V gg Wg) {k u:Nat} (hk:k<f.s.n) (hu:u<f.ps.ac.length) (s1:f.s.st k=1) (p0:f.ph k=0):
  ∃ W',StI (V (f.nd k)) (f.own k) ((f.ask k).did (la (f.nd k)) (f.own k:Nat) u) W'∧f.did L k u=⟨0,((f.ask k).did (la (f.nd k)) (f.own k:Nat) u).enq,false,false⟩∧(f.step L k u).s=f.s∧
   ((((f.ask k).did (la (f.nd k)) (f.own k:Nat) u).ev=0∧OrdJ (f.step L k u) ga la H (upd V (f.nd k) W') gg Wg∧(f.step L k u).ph=f.ph)∨
    (((f.ask k).did (la (f.nd k)) (f.own k:Nat) u).ev=1∧H (f.nd k)=none∧OrdJ (f.step L k u) ga la (upd H (f.nd k) (some (f.own k))) (upd V (f.nd k) W') gg Wg∧(f.step L k u).ph=upd f.ph k 1)):=by
 have hc:=h.cor.ndl k hk
 have ho:=h.own k hk
 have es0:(f.lk (f.nd k)).s=(f.Lc (f.nd k)).s:=Inn.on_s _
 have hx:=h.cor.cx k hk
 have hl:(f.Lc (f.nd k)).s.st (f.own k)=0∨(f.Lc (f.nd k)).s.st (f.own k)=1:=by
  cases hx with
  |loc hx hp hl=>exact hl
  |_=>omega
 obtain ⟨y,hy⟩:∃ y,y=f.ask k:=⟨_,rfl⟩
 have yA:y.At (la (f.nd k)) (H (f.nd k)) (V (f.nd k)):=by
  rw [hy];unfold FL.ask
  split
  ·exact (h.loc k hk).lock _ _
  ·exact h.loc k hk
 have yS:y.s.st=upd (f.Lc (f.nd k)).s.st (f.own k) 1∧y.s.n=(f.Lc (f.nd k)).s.n:=by
  rw [hy];unfold FL.ask
  rcases hl with e|e
  ·rw [if_pos e,Inn.lock_s,es0]
   exact ⟨lock_st ho e,SS.lock_n _ _ _⟩
  ·rw [if_neg (by omega),es0]
   exact ⟨(upd_idx _ _ e).symm,rfl⟩
 have yz:y.size=(f.Lc (f.nd k)).size:=by
  rw [hy];unfold FL.ask
  split
  ·rw [Inn.lock_size];exact Inn.on_size _
  ·exact Inn.on_size _
 have yp:y.ps=f.ps:=by rw [hy];exact f.ask_ps k
 obtain ⟨g',W',a,b,fl,fg,ew,el,en⟩:=h.loc_step hk hu yA yp yS.2 yz
 have yk:y.s.st (f.own k)=1:=by rw [yS.1,upd_same]
 have hd:=(Inn.did_at (x:=y) (k:=f.own k) (u:=u) (la (f.nd k):Int) (by rw [yS.2];exact ho)).1 yk
 obtain ⟨ed,em⟩:=at_one (L:=L) (u:=u) hk s1
 have ed2:f.did L k u=⟨0,(y.did (la (f.nd k)) (f.own k:Nat) u).enq,false,false⟩:=by rw [ed];unfold FL.acqD;rw [if_pos p0,h.adr.2,hy]
 have em2:f.mid L k u={f with Lc:=upd f.Lc (f.nd k) (y.step (la (f.nd k)) (f.own k:Nat) u),ph:=upd f.ph k (y.did (la (f.nd k)) (f.own k:Nat) u).ev,ps:=(y.step (la (f.nd k)) (f.own k:Nat) u).ps}:=by rw [em];unfold FL.acq;rw [if_pos p0,h.adr.2,hy]
 have es:=on_step (L:=L) (u:=(u:Int)) (k:=k) (by rw [ed2]:(f.did L k u).ev=0) em2 (by rw [s1];rfl)
 rw [←hy]
 refine ⟨W',b,ed2,by rw [es],?_⟩
 rcases hd.1 with e0|e1
 ·left
  have exs:(y.step (la (f.nd k)) (f.own k:Nat) u).s=y.s:=by
   rw [Inn.step_s,e0]
   exact (fin_none' (by rw [yk];rfl)).1
  have eg:g'=H (f.nd k):=yA.qf.same a.qf (by rw [exs]) λi hi=>by rw [exs]
  subst eg
  rw [upd_idx H _ rfl] at fl
  have hv:V (f.nd k)≠[]→W'≠[]:=by
   cases b with
   |same q0 q1 e=>rw [e];exact id
   |enq hh e=>rw [e];intro _;simp
   |grant hh e=>rw [hh] at e0;cases e0
   |both hh e e'=>rw [hh] at e0;cases e0
  refine ⟨e0,?_,by rw [es];show upd f.ph k _=f.ph;rw [e0];exact upd_idx _ _ p0⟩
  rw [es]
  refine h.keep rfl rfl rfl ⟨rfl,rfl,rfl⟩ rfl el en ⟨rfl,rfl⟩ fl fg ?_
  show Cor f.s.n f.bud f.s.st (upd f.ph k _) f.got f.nd f.own (λc=>(upd f.Lc (f.nd k) _ c).s.st) H (upd V (f.nd k) W') f.G.s.st (wP (y.step (la (f.nd k)) (f.own k:Nat) u).ps)
  rw [ew,upd_map,exs,yS.1,e0,upd_idx f.ph k p0]
  exact h.cor.ask hk s1 p0 hv
 ·right
  have exs:(y.step (la (f.nd k)) (f.own k:Nat) u).s=y.s.set (f.own k) 2 0:=by
   rw [Inn.step_s,e1]
   exact (fin_some' (by rw [yS.2];exact ho) (by rw [yk];rfl)).1
  have ex2:(y.step (la (f.nd k)) (f.own k:Nat) u).s.st=upd (f.Lc (f.nd k)).s.st (f.own k) 2:=by
   rw [exs]
   show upd y.s.st (f.own k) 2=_
   rw [yS.1]
   funext i
   by_cases e:i=f.own k
   ·subst e;rw [upd_same,upd_same]
   ·rw [upd_other _ _ e,upd_other _ _ e,upd_other _ _ e]
  have exn:(y.step (la (f.nd k)) (f.own k:Nat) u).s.n=(f.Lc (f.nd k)).s.n:=by rw [Inn.step_n,yS.2]
  have eg:g'=some (f.own k):=(a.qf.iff _).2 ⟨by rw [exn];exact ho,by rw [ex2,upd_same];decide⟩
  have eH:H (f.nd k)=none:=by
   cases e:H (f.nd k) with
   |none=>rfl
   |some i=>
    obtain ⟨i1,i2⟩:=(yA.qf.iff i).1 e
    rw [yS.1] at i2
    by_cases q:i=f.own k
    ·subst q;rw [upd_same] at i2;omega
    ·rw [upd_other _ _ q] at i2
     have:=(a.qf.iff i).2 ⟨by rw [exn,←yS.2];exact i1,by rw [ex2,upd_other _ _ q];exact i2⟩
     rw [eg] at this
     exact absurd (Option.some.inj this).symm q
  subst eg
  refine ⟨e1,eH,?_,by rw [es];show upd f.ph k _=_;rw [e1]⟩
  rw [es]
  refine h.keep rfl rfl rfl ⟨rfl,rfl,rfl⟩ rfl el en ⟨rfl,rfl⟩ fl fg ?_
  show Cor f.s.n f.bud f.s.st (upd f.ph k _) f.got f.nd f.own (λc=>(upd f.Lc (f.nd k) _ c).s.st) (upd H (f.nd k) (some (f.own k))) (upd V (f.nd k) W') f.G.s.st (wP (y.step (la (f.nd k)) (f.own k:Nat) u).ps)
  rw [ew,upd_map,ex2,e1]
  exact h.cor.got1 hk s1 eH W'
theorem seatS (h:OrdJ f ga la H V gg Wg) {k:Nat} (hk:k<f.s.n) {s':SS} {y:Int} (hn:s'.n=f.s.n) (hp:s'.probed=f.s.probed) (hs:s'.st=upd f.s.st k y) (hy:(f.s.st k=0∧y=1)∨(f.s.st k=2∧y=3)):OrdJ {f with s:=s'} ga la H V gg Wg:=by
 refine h.keep hn hp rfl ⟨rfl,rfl,rfl⟩ rfl rfl (λ_=>⟨rfl,rfl⟩) ⟨rfl,rfl⟩ (λt ht=>h.loc t ht) h.glo ?_
 show Cor f.s.n f.bud s'.st f.ph f.got f.nd f.own _ H V f.G.s.st (wP f.ps)
 rw [hs]
 have hx:=h.cor.cx k hk
 have:=h.cor.own1 (t:=k) hk (y:=y) (p:=f.ph k) (g:=f.got k) (by
  rcases hy with ⟨a,b⟩|⟨a,b⟩
  ·cases hx with
   |idle hx hp hl=>exact .loc b hp (.inl hl)
   |_=>omega
  ·cases hx with
   |has hx hp hl he q1 q2=>exact .u0 b hp hl he q1 q2
   |_=>omega)
 rw [upd_idx f.got k rfl,upd_idx f.ph k rfl] at this
 exact this
theorem lock (h:OrdJ f ga la H V gg Wg) (t d:Int):OrdJ (f.lock t d) ga la H V gg Wg:=by
 unfold FL.lock SS.lock
 by_cases e:lockE f.s t d=0
 ·rw [if_pos e]
  unfold lockE at e
  by_cases c:(0≤t∧t<f.s.n)∧(d= -1∨(0≤d∧f.s.timed=true))
  ·rw [if_pos c] at e
   by_cases z:f.s.st t.toNat=0
   ·exact h.seatS (k:=t.toNat) (by omega) rfl rfl rfl (.inl ⟨z,rfl⟩)
   ·rw [if_neg z] at e;omega
  ·rw [if_neg c] at e;omega
 ·rw [if_neg e];exact h
theorem unlock (h:OrdJ f ga la H V gg Wg) (t:Int):OrdJ (f.turn t 3) ga la H V gg Wg:=by
 unfold FL.turn SS.turn
 by_cases e:turnE f.s t=0
 ·rw [if_pos e]
  unfold turnE at e
  by_cases c:0≤t∧t<f.s.n
  ·rw [if_pos c] at e
   by_cases z:f.s.st t.toNat=0
   ·rw [if_pos z] at e;omega
   ·rw [if_neg z] at e
    by_cases z2:f.s.st t.toNat=2
    ·exact h.seatS (k:=t.toNat) (by omega) rfl rfl rfl (.inr ⟨z2,rfl⟩)
    ·rw [if_neg z2] at e;omega
  ·rw [if_neg c] at e;omega
 ·rw [if_neg e];exact h
theorem probe (h:OrdJ f ga la H V gg Wg) (t:Int):OrdJ (f.probe t) ga la H V gg Wg:=by
 unfold FL.probe SS.probe
 rw [if_neg (by rw [h.np];decide)]
 exact h
theorem at_idle {k:Nat} {u:Int} (hk:k<f.s.n) (s1:f.s.st k≠1) (s3:f.s.st k≠3) (s4:f.s.st k≠4):f.did L k u=Dd.no∧f.step L k u=f:=by
 have ht:(0:Int)≤(k:Int)∧(k:Int)<f.s.n:=by omega
 have ed:f.did L k u=Dd.no:=by unfold FL.did;rw [if_pos ht,Int.toNat_natCast,if_neg s1,if_neg s3]
 have em:f.mid L k u=f:=by unfold FL.mid;rw [if_pos ht,Int.toNat_natCast,if_neg s1,if_neg s3]
 refine ⟨ed,?_⟩
 rw [on_step (L:=L) (u:=u) (by rw [ed];rfl:(f.did L k u).ev=0) em (by unfold behindI;rw [if_neg (by omega),if_neg (by omega),if_neg (by omega),if_neg (by omega)])]
theorem at_none {t u:Int} (ht:¬ (0≤t∧t<f.s.n)):f.did L t u=Dd.no∧f.step L t u=f:=by
 have ed:f.did L t u=Dd.no:=by unfold FL.did;rw [if_neg ht]
 have em:f.mid L t u=f:=by unfold FL.mid;rw [if_neg ht]
 have e0:endO f.s t Dd.no.ev=none:=by unfold endO;rw [if_neg ht]
 refine ⟨ed,?_⟩
 unfold FL.step SS.fin endB
 rw [ed,em,e0]
 rfl
theorem step (h:OrdJ f ga la H V gg Wg) (h1:L.a1=0) (t:Int):∃ H' V' gg' Wg',OrdJ (f.step L t t) ga la H' V' gg' Wg':=by
 by_cases ht:0≤t∧t<f.s.n
 ·obtain ⟨k,rfl⟩:=Int.eq_ofNat_of_zero_le ht.1
  have hk:k<f.s.n:=by omega
  have hu:k<f.ps.ac.length:=by rw [h.ac];exact hk
  have hx:=h.cor.cx k hk
  by_cases s1:f.s.st k=1
  ·have hp:f.ph k=0∨f.ph k=1∨f.ph k=2∨f.ph k=3:=by cases hx<;>omega
   rcases hp with p|p|p|p
   ·obtain ⟨W',_,_,_,⟨_,a,_⟩|⟨_,_,a,_⟩⟩:=h.stpL0 hk hu s1 p
    ·exact ⟨_,_,_,_,a⟩
    ·exact ⟨_,_,_,_,a⟩
   ·by_cases hw:wP f.ps (f.nd k)=0
    ·exact ⟨_,_,_,_,(h.stpL1b h1 hk hu s1 p hw).2.1⟩
    ·exact ⟨_,_,_,_,(h.stpL1a h1 hk hu s1 p hw).2.1⟩
   ·obtain ⟨_,_,_,a,_⟩:=h.stpL2 hk hu s1 p
    exact ⟨_,_,_,_,a⟩
   ·exact ⟨_,_,_,_,(h.stpL3 h1 hk hu s1 p).2.1⟩
  by_cases s3:f.s.st k=3
  ·have hp:f.ph k=0∨f.ph k=1∨f.ph k=2∨f.ph k=3∨f.ph k=4∨f.ph k=5:=by cases hx<;>omega
   rcases hp with p|p|p|p|p|p
   ·by_cases hw:wP f.ps (f.nd k)<f.bud
    ·exact ⟨_,_,_,_,(h.stpU0a h1 hk hu s3 p hw).2.1⟩
    ·exact ⟨_,_,_,_,(h.stpU0b h1 hk hu s3 p hw).2.1⟩
   ·obtain ⟨_,_,_,a,_⟩:=h.stpU1 hk hu s3 p
    exact ⟨_,_,_,_,a⟩
   ·exact ⟨_,_,_,_,(h.stpU2 h1 hk hu s3 p).2.1⟩
   ·exact ⟨_,_,_,_,(h.stpU3 h1 hk hu s3 p).2.1⟩
   ·obtain ⟨_,_,a,_⟩:=h.stpU4 hk hu s3 p
    exact ⟨_,_,_,_,a⟩
   ·rcases h.stpU5 hk hu s3 p with ⟨_,a,_⟩|⟨_,a,_⟩
    ·exact ⟨_,_,_,_,a⟩
    ·exact ⟨_,_,_,_,a⟩
  have s4:f.s.st k≠4:=by cases hx<;>omega
  rw [(at_idle (L:=L) (u:=(k:Int)) hk s1 s3 s4).2]
  exact ⟨_,_,_,_,h⟩
 ·rw [(at_none (L:=L) (u:=t) ht).2]
  exact ⟨_,_,_,_,h⟩
end OrdJ
theorem sub_zero {l:List Int} {o n:Nat} (hl:o+n≤l.length) (hz:∀ x∈l,x=0):sub l o n=List.replicate n 0:=by
 apply List.ext_getElem?
 intro i
 rw [List.getElem?_replicate]
 by_cases hi:i<n
 ·rw [if_pos hi]
  have hlen:=sub_len hl
  rw [List.getElem?_eq_getElem (by omega)]
  congr 1
  have hm:(sub l o n)[i]'(by omega)∈sub l o n:=List.getElem_mem _
  exact hz _ (List.mem_of_mem_drop (List.mem_of_mem_take hm))
 ·rw [if_neg hi]
  exact List.getElem?_eq_none (by rw [sub_len hl];omega)
def newTk (n:Nat) (ps:PSta):Inn:= .tk ⟨newSeat n false true,λ_=>0,λ_=>false,ps⟩
def newCl (n:Nat) (ps:PSta):Inn:= .cl ⟨newSeat n false true,λ_=>0,λj=>if j<n then (j:Int)+1 else 0,λ_=>0,ps⟩
def newMc (n:Nat) (ps:PSta):Inn:= .mc ⟨newSeat n false true,λ_=>0,λ_=>0,ps⟩
section
variable {ps:PSta} {o n:Nat}
theorem newTk_at (hn:n≤8) (hl:o+2≤ps.ws.length) (hz:∀ x∈ps.ws,x=0):(newTk n ps).At o none []:=by
 refine ⟨hl,0,0,hn,sub_zero hl hz,List.length_replicate,by decide,by simp,by simp,by simp,by simp,λk hk=>by simp [Kf.FL.vw],λk hk=>by simp at hk,by simp,λk hk _=> .inl rfl⟩
theorem newCl_at (hn:n≤8) (hl:o+(n+2)≤ps.ws.length) (hz:∀ x∈ps.ws,x=0):(newCl n ps).At o none []:=by
 have hs:=sub_zero hl hz
 have hk:∀ j,j<n→(if j<n then (j:Int)+1 else 0)=(j:Int)+1:=λj hj=>if_pos hj
 refine ⟨hl,0,hn,λj hj=> ?_,⟨Int.le_refl _,by show (0:Int)≤(n:Int);omega⟩,λj k hj hk2 e=> ?_,λj hj=> ?_,⟨List.replicate (n+1) 0,hs.trans rfl,by rw [List.length_replicate];rfl,λj hj=> ?_,by simp⟩,List.length_replicate,by simp,by simp,λj hj=>by simp [Kc.FL.vw],λj=> .inl rfl,λj hj hp=>by simp [Kc.FL.vw] at hp,trivial,λk hk=>(by cases hk),by simp,λk hk _=> .inl rfl⟩
 ·show 0≤(if j<n then (j:Int)+1 else 0)∧(if j<n then (j:Int)+1 else 0)≤(n:Int)
  have hj:j<n:=hj
  rw [hk j hj];omega
 ·have hj:j<n:=hj
  have hk2:k<n:=hk2
  have e:(if j<n then (j:Int)+1 else 0)=(if k<n then (k:Int)+1 else 0):=e
  rw [hk j hj,hk k hk2] at e;omega
 ·show (if j<n then (j:Int)+1 else 0)≠0
  have hj:j<n:=hj
  rw [hk j hj];omega
 ·show (List.replicate (n+1) (0:Int)).getD _ 0=if (0:Int)=0 then 0 else 1
  rw [if_pos rfl,List.getD_eq_getElem?_getD,List.getElem?_replicate]
  split<;>rfl
theorem newMc_at (hn:n≤8) (hl:o+(2*n+1)≤ps.ws.length) (hz:∀ x∈ps.ws,x=0):(newMc n ps).At o none []:=by
 have hs:=sub_zero hl hz
 have h0:∀ i,(sub ps.ws o (2*n+1)).getD i 0=0:=λi=>by
  rw [hs,List.getD_eq_getElem?_getD,List.getElem?_replicate]
  split<;>rfl
 refine ⟨hl,hn,sub_len hl,List.length_replicate,⟨by simp,by simp,h0 0,λj=>⟨Int.le_refl _,by show (0:Int)≤4;decide⟩,λj hj hs=>by simp [Km.FL.vw,newSeat] at hs,λj hj _ _=>rfl,λj hj _=>by show (0:Int)≤3;decide,λk hk=>(by cases hk),by simp,λk hk _=> .inl rfl,trivial,λj hj _ hp=>by simp [Km.FL.vw] at hp,λ_ k r e=>by simp at e,λk hk=>(by cases hk),λk hk=>(by cases hk)⟩⟩
end
theorem OrdJ.start {n ga:Nat} {B:Int} {nd own:Nat→Nat} {la:Nat→Nat} {G:Inn} {Lc:Nat→Inn} {ps:PSta} (hn:n≤8) (hB:1≤B∧B≤1000) (hac:ps.ac.length=n) (hz:∀ x∈ps.ws,x=0)
  (hnd:∀ t,t<n→nd t<8) (how:∀ t,t<n→own t<(Lc (nd t)).s.n) (hi:∀ t u,t<n→u<n→nd t=nd u→own t=own u→t=u)
  (hL:∀ t,t<n→((Lc (nd t)).on ps).At (la (nd t)) none []) (hs:∀ c j,(Lc c).s.st j=0) (hG:(G.on ps).At ga none []) (hG8:G.s.n=8) (hGs:∀ c,G.s.st c=0) (g8:8≤ga) (hgl:∀ t,t<n→ga+G.size≤la (nd t))
  (hll:∀ t u,t<n→u<n→nd t≠nd u→la (nd t)+(Lc (nd t)).size≤la (nd u)∨la (nd u)+(Lc (nd u)).size≤la (nd t)):
  OrdJ ⟨newSeat n false false,B,nd,own,λ_=>0,λ_=>0,ga,la,G,Lc,ps⟩ ga la (λ_=>none) (λ_=>[]) none []:=by
 refine ⟨hn,rfl,hB,⟨rfl,rfl⟩,hac,how,hL,hG,hG8,g8,hgl,hll,?_⟩
 have e1:(λc=>(Lc c).s.st)=λ_ _=>(0:Int):=funext λc=>funext λj=>hs c j
 have e2:G.s.st=λ_=>(0:Int):=funext hGs
 have e3:wP ps=λ_=>(0:Int):=by
  funext c
  unfold wP
  split
  ·rw [List.getD_eq_getElem?_getD]
   cases e:ps.ws[c]? with
   |none=>rfl
   |some x=>exact hz x (List.mem_of_getElem? e)
  ·rfl
 show Cor n B (λ_=>0) (λ_=>0) (λ_=>0) nd own (λc=>(Lc c).s.st) (λ_=>none) (λ_=>[]) G.s.st (wP ps)
 rw [e1,e2,e3]
 exact Cor.start n B hnd hi
def OneS (ps q:PSta) (u:Int):Prop:=q=ps∨∃ K a o v,q=doS ps u K a o v
theorem Kf.step_one (f:Kf.FL) (L:Kf.Lp) (t u:Int):OneS f.ps (f.step L t u).ps u:=by
 show OneS f.ps (f.mid L t u).ps u
 unfold Kf.FL.mid Kf.FL.acq Kf.FL.rel Kf.FL.ask
 repeat' split
 all_goals first|exact .inl rfl|exact .inr ⟨_,_,_,_,rfl⟩
theorem Kc.step_one (f:Kc.FL) (L:Kc.Lp) (t u:Int):OneS f.ps (f.step L t u).ps u:=by
 show OneS f.ps (f.mid L t u).ps u
 unfold Kc.FL.mid Kc.FL.acq Kc.FL.rel Kc.FL.ask
 repeat' split
 all_goals first|exact .inl rfl|exact .inr ⟨_,_,_,_,rfl⟩
theorem Km.step_one (f:Km.FL) (L:Km.Lp) (t u:Int):OneS f.ps (f.step L t u).ps u:=by
 show OneS f.ps (f.mid L t u).ps u
 unfold Km.FL.mid Km.FL.acq Km.FL.rel Km.FL.ask
 repeat' split
 all_goals first|exact .inl rfl|exact .inr ⟨_,_,_,_,rfl⟩
theorem Inn.step_one (x:Inn) (a t u:Int):OneS x.ps (x.step a t u).ps u:=by
 cases x
 ·exact Kf.step_one _ _ _ _
 ·exact Kc.step_one _ _ _ _
 ·exact Km.step_one _ _ _ _
theorem FL.step_one (f:FL) (L:Lp) (t u:Int):OneS f.ps (f.step L t u).ps u:=by
 have kl:=λc a j=>by have:=(f.lk c).step_one a j u;unfold FL.lk at this;rw [Inn.on_ps] at this;exact this
 have kg:=λa j=>by have:=f.gl.step_one a j u;unfold FL.gl at this;rw [Inn.on_ps] at this;exact this
 have ka:=λt a j=>by have:=(f.ask t).step_one a j u;rw [f.ask_ps] at this;exact this
 show OneS f.ps (f.mid L t u).ps u
 unfold FL.mid FL.acq FL.rel
 repeat' split
 all_goals first|exact .inl rfl|exact .inr ⟨_,_,_,_,rfl⟩|exact ka _ _ _|exact kl _ _ _|exact kg _ _
theorem OneS.D {ps q:PSta} {u:Int} (h:OneS ps q u):q.D.length≤ps.D.length+1:=by
 rcases h with rfl|⟨K,a,o,v,rfl⟩
 ·omega
 ·unfold doS
  split
  ·simp [touchS]
  ·omega
def OrdI (f:FL) (R:List Nat):Prop:=f.ps.ws.length≤4096∧∃ ga la H V gg Wg,OrdJ f ga la H V gg Wg
def OrdJ.StepQ (W:List Nat) (t:Int) (d:Dd) (W':List Nat):Prop:=W'=W
namespace OrdI
variable {f:FL} {W:List Nat} {L:Lp}
theorem lock (h:OrdI f W) (t d:Int):OrdI (f.lock t d) W:=by obtain ⟨hw,ga,la,H,V,gg,Wg,h⟩:=h;exact ⟨hw,ga,la,H,V,gg,Wg,h.lock t d⟩
theorem unlock (h:OrdI f W) (t:Int):OrdI (f.turn t 3) W:=by obtain ⟨hw,ga,la,H,V,gg,Wg,h⟩:=h;exact ⟨hw,ga,la,H,V,gg,Wg,h.unlock t⟩
theorem probe (h:OrdI f W) (t:Int):OrdI (f.probe t) W:=by obtain ⟨hw,ga,la,H,V,gg,Wg,h⟩:=h;exact ⟨by unfold FL.probe;exact hw,ga,la,H,V,gg,Wg,h.probe t⟩
theorem step (h:OrdI f W) (h1:L.a1=0) (h2:L.a2=1) (t:Int):∃ W',OrdI (f.step L t t) W'∧(f.step L t t).ps.D.length≤f.ps.D.length+1∧OrdJ.StepQ W t (f.did L t t) W':=by
 obtain ⟨hw,ga,la,H,V,gg,Wg,h⟩:=h
 obtain ⟨H',V',gg',Wg',h'⟩:=h.step h1 t
 exact ⟨W,⟨by rw [(f.step_len L t t).1];exact hw,ga,la,H',V',gg',Wg',h'⟩,(f.step_one L t t).D,rfl⟩
theorem n8 (h:OrdI f W):f.s.n≤8:=by obtain ⟨hw,ga,la,H,V,gg,Wg,h⟩:=h;exact h.n8
theorem lenW (h:OrdI f W):f.ps.ws.length≤4096:=h.1
end OrdI
end Go.Proofs.YtkmikkjjnbikdaaGreat

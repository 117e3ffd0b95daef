
import Derived.Test.YtcikfcplagelaaaGreatFlatOrd
namespace Go.Proofs.YtcikfcplagelaaaGreat
open Go.RowKit
set_option linter.unusedVariables false
def sub (l:List Int) (o n:Nat):List Int:=(l.drop o).take n
theorem sub_len {l:List Int} {o n:Nat} (h:o+n≤l.length):(sub l o n).length=n:=by unfold sub;rw [List.length_take,List.length_drop];omega
def PSta.vw (ps:PSta) (o n m:Nat):PSta:=⟨sub ps.ws o n,[],List.replicate m 0,[],[]⟩
end Go.Proofs.YtcikfcplagelaaaGreat
namespace Go.Proofs.YtcikfcplagelaaaGreat.Kf
set_option linter.unusedVariables false
set_option maxRecDepth 100000
def FL.vw (f:FL) (o n m:Nat):FL:={f with ps:=f.ps.vw o n m}
def In (f:FL) (o:Nat) (g:Option Nat) (W:List Nat):Prop:=o+2≤f.ps.ws.length∧∃ nx ow,OrdJ (f.vw o 2 f.s.n) g W nx ow
end Go.Proofs.YtcikfcplagelaaaGreat.Kf
namespace Go.Proofs.YtcikfcplagelaaaGreat.Kc
set_option linter.unusedVariables false
set_option maxRecDepth 100000
def FL.vw (f:FL) (o n m:Nat):FL:={f with ps:=f.ps.vw o n m}
def In (f:FL) (o:Nat) (g:Option Nat) (W:List Nat):Prop:=o+(f.s.n+2)≤f.ps.ws.length∧∃ e,OrdJ (f.vw o (f.s.n+2) f.s.n) g W e
end Go.Proofs.YtcikfcplagelaaaGreat.Kc
namespace Go.Proofs.YtcikfcplagelaaaGreat.Km
set_option linter.unusedVariables false
set_option maxRecDepth 100000
def FL.vw (f:FL) (o n m:Nat):FL:={f with ps:=f.ps.vw o n m}
def In (f:FL) (o:Nat) (g:Option Nat) (W:List Nat):Prop:=o+(2*f.s.n+1)≤f.ps.ws.length∧OrdJ (f.vw o (2*f.s.n+1) f.s.n) g W
end Go.Proofs.YtcikfcplagelaaaGreat.Km
namespace Go.Proofs.YtcikfcplagelaaaGreat
set_option linter.unusedVariables false
set_option maxRecDepth 100000
structure Ip where
 lb:Nat
 p:Nat
 b:Nat
 tb:Nat
 a:Nat
 ty:Nat
 lo:Nat
 hi:Nat
inductive Inn where
 |tk (f:Kf.FL)
 |cl (f:Kc.FL)
 |mc (f:Km.FL)
namespace Inn
def s:Inn→SS
 |tk f=>f.s
 |cl f=>f.s
 |mc f=>f.s
def on (q:PSta):Inn→Inn
 |tk f=>tk {f with ps:=q}
 |cl f=>cl {f with ps:=q}
 |mc f=>mc {f with ps:=q}
def size:Inn→Nat
 |tk f=>2
 |cl f=>f.s.n+2
 |mc f=>2*f.s.n+1
def At:Inn→Nat→Option Nat→List Nat→Prop
 |tk f,o,g,W=>Kf.In f o g W
 |cl f,o,g,W=>Kc.In f o g W
 |mc f,o,g,W=>Km.In f o g W
end Inn
open Go.RowKit
structure FL where
 s:SS
 bud:Int
 nd:Nat→Nat
 own:Nat→Nat
 ph:Nat→Int
 got:Nat→Int
 ga:Nat
 la:Nat→Nat
 G:Inn
 Lc:Nat→Inn
 ps:PSta
structure Lp where
 lb:Nat
 p:Nat
 b:Nat
 tb:Nat
 a1:Int
 a2:Int
 q:Place
 hs:List Int
 lo:Nat
 gi:Ip
 li:Nat→Ip
 has:Nat→Bool
def FL.lk (f:FL) (c:Nat):Inn:=(f.Lc c).on f.ps
def FL.gl (f:FL):Inn:=f.G.on f.ps
inductive Cx (B x p g l q e:Int) (v:List Nat):Prop where
 |idle (hx:x=0) (hp:p=0) (hl:l=0)
 |loc (hx:x=1) (hp:p=0) (hl:l=0∨l=1)
 |pass (hx:x=1) (hp:p=1) (hl:l=2) (h:(q=0∧e=0)∨(1≤q∧q≤B∧e=2))
 |glo (hx:x=1) (hp:p=2) (hl:l=2) (hq:q=0) (he:e=1)
 |fst (hx:x=1) (hp:p=3) (hl:l=2) (hq:q=0) (he:e=2)
 |has (hx:x=2) (hp:p=0) (hl:l=2) (he:e=2) (q1:1≤q) (q2:q≤B)
 |u0 (hx:x=3) (hp:p=0) (hl:l=2) (he:e=2) (q1:1≤q) (q2:q≤B)
 |u1 (hx:x=3) (hp:p=1) (hl:l=4) (he:e=2) (q1:1≤q) (q2:q<B) (hg:g=q)
 |u2 (hx:x=3) (hp:p=2) (hl:l=2) (he:e=2) (q1:1≤q) (q2:q<B) (hg:g=q) (hv:v≠[])
 |u3 (hx:x=3) (hp:p=3) (hl:l=2) (he:e=2) (q1:1≤q) (q2:q≤B)
 |u4 (hx:x=3) (hp:p=4) (hl:l=2) (he:e=3) (hq:q=0)
 |u5 (hx:x=3) (hp:p=5) (hl:l=3) (h:(q=0∧e=0)∨(e=2∧1≤q∧q≤B∧v≠[]))
structure Cor (n:Nat) (B:Int) (st ph got:Nat→Int) (nd own:Nat→Nat) (ls:Nat→Nat→Int) (H:Nat→Option Nat) (V:Nat→List Nat) (gs P:Nat→Int):Prop where
 ndl:∀ t,t<n→nd t<8
 inj:∀ t u,t<n→u<n→nd t=nd u→own t=own u→t=u
 cx:∀ t,t<n→Cx B (st t) (ph t) (got t) (ls (nd t) (own t)) (P (nd t)) (gs (nd t)) (V (nd t))
 hold:∀ t,t<n→2≤ls (nd t) (own t)→H (nd t)=some (own t)
 held:∀ c j,H c=some j→2≤ls c j∧∃ t,t<n∧nd t=c∧own t=j
 nob:∀ c,c<8→H c=none→(P c=0∧gs c=0)∨(1≤P c∧P c≤B∧gs c=2∧V c≠[])
namespace Cor
variable {n:Nat} {B:Int} {st ph got:Nat→Int} {nd own:Nat→Nat} {ls:Nat→Nat→Int} {H:Nat→Option Nat} {V:Nat→List Nat} {gs P:Nat→Int}
theorem start {nd own:Nat→Nat} (n:Nat) (B:Int) (hn:∀ t,t<n→nd t<8) (hi:∀ t u,t<n→u<n→nd t=nd u→own t=own u→t=u):Cor n B (λ_=>0) (λ_=>0) (λ_=>0) nd own (λ_ _=>0) (λ_=>none) (λ_=>[]) (λ_=>0) (λ_=>0):=
 ⟨hn,hi,λt ht=> .idle rfl rfl rfl,λt ht hl=>by simp at hl,λc j hc=>(by cases hc),λc hc _=> .inl ⟨rfl,rfl⟩⟩
end Cor
def wP (ps:PSta) (c:Nat):Int:=if c<8 then ps.ws.getD c 0 else 0
structure OrdJ (f:FL) (ga:Nat) (la:Nat→Nat) (H:Nat→Option Nat) (V:Nat→List Nat) (gg:Option Nat) (Wg:List Nat):Prop where
 n8:f.s.n≤64
 np:f.s.probed=false
 bud:1≤f.bud∧f.bud≤1000
 adr:f.ga=ga∧f.la=la
 ac:f.ps.ac.length=f.s.n
 own:∀ t,t<f.s.n→f.own t<(f.Lc (f.nd t)).s.n
 loc:∀ t,t<f.s.n→(f.lk (f.nd t)).At (la (f.nd t)) (H (f.nd t)) (V (f.nd t))
 glo:f.gl.At ga gg Wg
 gn:f.G.s.n=8
 g8:8≤ga
 gl:∀ t,t<f.s.n→ga+f.G.size≤la (f.nd t)
 ll:∀ t u,t<f.s.n→u<f.s.n→f.nd t≠f.nd u→la (f.nd t)+(f.Lc (f.nd t)).size≤la (f.nd u)∨la (f.nd u)+(f.Lc (f.nd u)).size≤la (f.nd t)
 cor:Cor f.s.n f.bud f.s.st f.ph f.got f.nd f.own (λc=>(f.Lc c).s.st) H V f.G.s.st (wP f.ps)
theorem sub_zero {l:List Int} {o n:Nat} (hl:o+n≤l.length) (hz:∀ x∈l,x=0):sub l o n=List.replicate n 0:=by
 apply List.ext_getElem?
 intro i
 rw [List.getElem?_replicate]
 by_cases hi:i<n
 ·rw [if_pos hi]
  have hlen:=sub_len hl
  rw [List.getElem?_eq_getElem (by omega)]
  congr 1
  have hm:(sub l o n)[i]'(by omega)∈sub l o n:=List.getElem_mem _
  exact hz _ (List.mem_of_mem_drop (List.mem_of_mem_take hm))
 ·rw [if_neg hi]
  exact List.getElem?_eq_none (by rw [sub_len hl];omega)
def newTk (n:Nat) (ps:PSta):Inn:= .tk ⟨newSeat n false true,λ_=>0,λ_=>false,ps⟩
def newCl (n:Nat) (ps:PSta):Inn:= .cl ⟨newSeat n false true,λ_=>0,λj=>if j<n then (j:Int)+1 else 0,λ_=>0,ps⟩
def newMc (n:Nat) (ps:PSta):Inn:= .mc ⟨newSeat n false true,λ_=>0,λ_=>0,ps⟩
section
variable {ps:PSta} {o n:Nat}
theorem newTk_at (hn:n≤64) (hl:o+2≤ps.ws.length) (hz:∀ x∈ps.ws,x=0):(newTk n ps).At o none []:=by
 refine ⟨hl,0,0,hn,sub_zero hl hz,List.length_replicate,by decide,by simp,by simp,by simp,by simp,λk hk=>by simp [Kf.FL.vw],λk hk=>by simp at hk,by simp,λk hk _=> .inl rfl⟩
theorem newCl_at (hn:n≤64) (hl:o+(n+2)≤ps.ws.length) (hz:∀ x∈ps.ws,x=0):(newCl n ps).At o none []:=by
 have hs:=sub_zero hl hz
 have hk:∀ j,j<n→(if j<n then (j:Int)+1 else 0)=(j:Int)+1:=λj hj=>if_pos hj
 refine ⟨hl,0,hn,λj hj=> ?_,⟨Int.le_refl _,by show (0:Int)≤(n:Int);omega⟩,λj k hj hk2 e=> ?_,λj hj=> ?_,⟨List.replicate (n+1) 0,hs.trans rfl,by rw [List.length_replicate];rfl,λj hj=> ?_,by simp⟩,List.length_replicate,by simp,by simp,λj hj=>by simp [Kc.FL.vw],λj=> .inl rfl,λj hj hp=>by simp [Kc.FL.vw] at hp,trivial,λk hk=>(by cases hk),by simp,λk hk _=> .inl rfl⟩
 ·show 0≤(if j<n then (j:Int)+1 else 0)∧(if j<n then (j:Int)+1 else 0)≤(n:Int)
  have hj:j<n:=hj
  rw [hk j hj];omega
 ·have hj:j<n:=hj
  have hk2:k<n:=hk2
  have e:(if j<n then (j:Int)+1 else 0)=(if k<n then (k:Int)+1 else 0):=e
  rw [hk j hj,hk k hk2] at e;omega
 ·show (if j<n then (j:Int)+1 else 0)≠0
  have hj:j<n:=hj
  rw [hk j hj];omega
 ·show (List.replicate (n+1) (0:Int)).getD _ 0=if (0:Int)=0 then 0 else 1
  rw [if_pos rfl,List.getD_eq_getElem?_getD,List.getElem?_replicate]
  split<;>rfl
theorem newMc_at (hn:n≤64) (hl:o+(2*n+1)≤ps.ws.length) (hz:∀ x∈ps.ws,x=0):(newMc n ps).At o none []:=by
 have hs:=sub_zero hl hz
 have h0:∀ i,(sub ps.ws o (2*n+1)).getD i 0=0:=λi=>by
  rw [hs,List.getD_eq_getElem?_getD,List.getElem?_replicate]
  split<;>rfl
 refine ⟨hl,hn,sub_len hl,List.length_replicate,⟨by simp,by simp,h0 0,λj=>⟨Int.le_refl _,by show (0:Int)≤4;decide⟩,λj hj hs=>by simp [Km.FL.vw,newSeat] at hs,λj hj _ _=>rfl,λj hj _=>by show (0:Int)≤3;decide,λk hk=>(by cases hk),by simp,λk hk _=> .inl rfl,trivial,λj hj _ hp=>by simp [Km.FL.vw] at hp,λ_ k r e=>by simp at e,λk hk=>(by cases hk),λk hk=>(by cases hk)⟩⟩
end
theorem OrdJ.start {n ga:Nat} {B:Int} {nd own:Nat→Nat} {la:Nat→Nat} {G:Inn} {Lc:Nat→Inn} {ps:PSta} (hn:n≤64) (hB:1≤B∧B≤1000) (hac:ps.ac.length=n) (hz:∀ x∈ps.ws,x=0)
  (hnd:∀ t,t<n→nd t<8) (how:∀ t,t<n→own t<(Lc (nd t)).s.n) (hi:∀ t u,t<n→u<n→nd t=nd u→own t=own u→t=u)
  (hL:∀ t,t<n→((Lc (nd t)).on ps).At (la (nd t)) none []) (hs:∀ c j,(Lc c).s.st j=0) (hG:(G.on ps).At ga none []) (hG8:G.s.n=8) (hGs:∀ c,G.s.st c=0) (g8:8≤ga) (hgl:∀ t,t<n→ga+G.size≤la (nd t))
  (hll:∀ t u,t<n→u<n→nd t≠nd u→la (nd t)+(Lc (nd t)).size≤la (nd u)∨la (nd u)+(Lc (nd u)).size≤la (nd t)):
  OrdJ ⟨newSeat n false false,B,nd,own,λ_=>0,λ_=>0,ga,la,G,Lc,ps⟩ ga la (λ_=>none) (λ_=>[]) none []:=by
 refine ⟨hn,rfl,hB,⟨rfl,rfl⟩,hac,how,hL,hG,hG8,g8,hgl,hll,?_⟩
 have e1:(λc=>(Lc c).s.st)=λ_ _=>(0:Int):=funext λc=>funext λj=>hs c j
 have e2:G.s.st=λ_=>(0:Int):=funext hGs
 have e3:wP ps=λ_=>(0:Int):=by
  funext c
  unfold wP
  split
  ·rw [List.getD_eq_getElem?_getD]
   cases e:ps.ws[c]? with
   |none=>rfl
   |some x=>exact hz x (List.mem_of_getElem? e)
  ·rfl
 show Cor n B (λ_=>0) (λ_=>0) (λ_=>0) nd own (λc=>(Lc c).s.st) (λ_=>none) (λ_=>[]) G.s.st (wP ps)
 rw [e1,e2,e3]
 exact Cor.start n B hnd hi
end Go.Proofs.YtcikfcplagelaaaGreat

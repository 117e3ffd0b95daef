import Derived.Test.YtkmikkjjnbikdaaGreatLockDo
import Derived.Test.YtkmikkjjnbikdaaGreatCohLead
namespace Go.Proofs.YtkmikkjjnbikdaaGreat
set_option maxHeartbeats 8000000
open _root_.Go.Proofs.Tryz
open Go.RowKit Go.BigFrame
set_option linter.unusedVariables false
set_option maxRecDepth 100000
theorem acc_op (f:FL) (L:Lp) (K t N:Int):cntI (opF f L K t N).ps.ac t≤cntI f.ps.ac t+1∧(K≠4→cntI (opF f L K t N).ps.ac t=cntI f.ps.ac t):=by
 unfold opF
 repeat' split
 ·exact ⟨by show cntI f.ps.ac t≤_;omega,λ_=>rfl⟩
 ·exact ⟨by show cntI f.ps.ac t≤_;omega,λ_=>rfl⟩
 ·exact ⟨by rw [show (f.probe t).ps=f.ps from rfl];omega,λ_=>rfl⟩
 ·rename_i h4
  exact ⟨(acc_mid f L t).1,λe=>absurd h4 e⟩
 ·exact ⟨by omega,λ_=>rfl⟩
theorem cntI_rng {w:World} {q:Place} {hs:List Int} {s:PSta} (h:PortAt w q hs s) (t:Int):0≤cntI s.ac t∧cntI s.ac t≤s.D.length:=by
 have:=getD_le h.rngA t.toNat
 unfold cntI
 split<;>omega
theorem op_ord {f:FL} {W:List Nat} {L:Lp} (h:OrdI f W) (h1:L.a1=0) (h2:L.a2=1) (K t N:Int):∃ W',OrdI (opF f L K t N) W'∧(opF f L K t N).ps.D.length≤f.ps.D.length+1∧(opF f L K t N).s.n=f.s.n:=by
 unfold opF
 repeat' split
 ·exact ⟨W,h.lock t N,Nat.le_succ _,SS.lock_n _ _ _⟩
 ·exact ⟨W,h.unlock t,Nat.le_succ _,SS.turn_n _ _ _⟩
 ·exact ⟨W,h.probe t,Nat.le_succ _,SS.probe_n _ _⟩
 ·obtain ⟨W',a,b,_⟩:=h.step h1 h2 t
  exact ⟨W',a,b,SS.fin_n _ _ _⟩
 ·exact ⟨W,h,Nat.le_succ _,rfl⟩
theorem ord_in {f:FL} {W:List Nat} {L:Lp} {M:Mp} (h:OrdI f W) (n1:1≤f.s.n) (hD:f.ps.D.length≤1000) (ha:M.a=0) (h1:L.a1=0) (h2:L.a2=1):TwIn L M f:=by
 exact ⟨n1,⟨W,h⟩,by omega,h.lenW,ha,h1,h2⟩
def PlyS (w0 wr:World) (L:Lp) (M:Mp) (n k:Nat) (v:Value):Prop:=∃ (nw:Int) (f:FL) (W:List Nat),v= .int .i64 nw∧(0≤nw∧nw≤1000*(k:Int))∧Duo w0 wr L M f f∧OrdI f W∧f.s.n=n∧f.ps.D.length≤k
structure DuoP (w0 w:World) (L:Lp) (M:Mp) (f:FL):Prop where
 lp:LkS w0 w L f
 ml:MlAt w M f
 ref:RefSt w M.base M.pr f.ps
 lo:L.q.k3≤M.r∧∀ k,MF M k→L.q.k3≤k
 hi:M.r<M.base∧∀ k,MF M k→k<M.base
 bs:L.q.k3≤M.base∧M.base≤w.heap.size
theorem DuoP.use {w0 w w':World} {L:Lp} {M:Mp} {f:FL} (h:DuoP w0 w L M f) (hl:LkS w0 w' L f) (k:Wr (Low L) w w'):Duo w0 w' L M f f:=by
 obtain ⟨bk,so,cap,dv,hr⟩:=h.ref
 have hlo:=h.lo
 have hb:=h.bs.1
 refine ⟨hl,h.ml.apart k (λe=>by unfold Low at e;omega) (λj hj e=>by have:=hlo.2 j hj;unfold Low at e;omega),⟨bk,so,cap,dv,hr.after k λb hb e=>by unfold Low at e;omega⟩,h.lo,h.hi,h.bs.1,Nat.le_trans h.bs.2 k.size⟩
def PlaysPost (w0:World) (L:Lp) (M:Mp) (n:Nat) (e:Ending) (w':World):Prop:=e= .returned (.bool true)∧∃ (f:FL) (W:List Nat),Duo w0 w' L M f f∧OrdI f W∧f.s.n=n
theorem PlaysPost.wr {w0 w':World} {L:Lp} {M:Mp} {n:Nat} {e:Ending} (h:PlaysPost w0 L M n e w'):Wr Nil w0 w':=by obtain ⟨_,f,W,h,_⟩:=h;exact h.ls.wr
theorem plays_any {w0 w:World} {L:Lp} {M:Mp} {f:FL} (h:DuoP w0 w L M f) (hO:OrdI f []) (ha:M.a=0) (h1:L.a1=0) (h2:L.a2=1) (n1:1≤f.s.n) (hD:f.ps.D.length=0) {so:Option Addr} {m cap:Nat} {z:Nat→Nat→Int} (hat:OpsAt w0 so m z) (hm:m≤150):
  Calls prog 16 #[.iface 29 (.pointer (some ⟨L.lb,0,none⟩)),.pointer (some ⟨L.q.p,0,none⟩),.iface 33 (.pointer (some ⟨M.r,0,none⟩)),.pointer (some ⟨M.pr,0,none⟩),.slice so m cap] w (PlaysPost w0 L M f.s.n):=by
 have m0:=via_use ⟨L.lb,0,none⟩
 have mS:=via_rseats ⟨M.r,0,none⟩
 obtain ⟨n,hn⟩:∃ n,n=f.s.n:=⟨_,rfl⟩
 have n8:n≤8:=by rw [hn];exact hO.n8
 rw [←hn] at n1 ⊢
 have HA:=Lib.hid (And.intro hat (And.intro ha (And.intro h1 h2)))
 have HI:=Lib.hid (And.intro h (And.intro hO (And.intro hD hn)))
 have cU:=ls_use h.lp
 clear hat ha h1 h2 h hO hD hn
 go_enter func16,ntmps16
 go_wp2_with (go_at_call 31;(with_reducible refine cU.mono ?_);rintro e w1 ⟨rfl,hL,hWU⟩;have HL:=Lib.hid (HI.out.1.use hL hWU);clear hL hWU)
 clear m0 cU
 go_loopw [11,22] (λv11 i wr=>∃ k:Nat,k≤m∧i= .int .i64 k∧PlyS w0 wr L M n k v11) (λ_ i _=>m-(intOf i).toNat)
 case atStart=>exact ⟨0,Nat.zero_le _,rfl,0,f,[],rfl,⟨Int.le_refl _,by omega⟩,HL.out,HI.out.2.1,HI.out.2.2.2.symm,by rw [HI.out.2.2.1];exact Nat.le_refl _⟩
 case round=>
  clear HL HI
  obtain ⟨k,hk,rfl,hst⟩:=hrel
  unfold PlyS at hst
  obtain ⟨nw,f,W,rfl,⟨nw0,nw1⟩,hT,hO,hfn,hD⟩:=hst
  by_cases hlt:k<m
  ·rcases HA.out.1 with e0|⟨gb,go,rfl,hcell⟩
   ·omega
   have y0:wr.cell? ⟨gb,go+k*4,none⟩=some (.int .i64 (z k 0)):=hT.ls.wr.old (hcell k hlt 0 (by decide))
   have y1:wr.cell? ⟨gb,go+k*4+1,none⟩=some (.int .i64 (z k 1)):=hT.ls.wr.old (hcell k hlt 1 (by decide))
   have y2:wr.cell? ⟨gb,go+k*4+2,none⟩=some (.int .i64 (z k 2)):=hT.ls.wr.old (hcell k hlt 2 (by decide))
   have y3:wr.cell? ⟨gb,go+k*4+3,none⟩=some (.int .i64 (z k 3)):=hT.ls.wr.old (hcell k hlt 3 (by decide))
   generalize z k 0=K at y0
   generalize z k 1=t at y1
   generalize z k 2=N at y2
   generalize z k 3=la at y3
   clear hcell
   obtain ⟨X,hX⟩:∃ X,X=wr.alloc (.cells #[.int .i64 K,.int .i64 t,.int .i64 N,.int .i64 la] 58):=⟨_,rfl⟩
   have hTX:Duo w0 X L M f f:=by rw [hX];exact hT.after ((Wr.refl _ _).alloc _)
   have hB:X.heap[wr.heap.size]? =some (.cells #[.int .i64 K,.int .i64 t,.int .i64 N,.int .i64 la] 58 (0,0)):=by rw [hX];exact Go.Deep.blk_alloc_new wr _
   have hBb:M.base≤wr.heap.size:=hT.bs.2
   obtain ⟨W',hO',hD',hn'⟩:=op_ord hO HA.out.2.2.1 HA.out.2.2.2 K t N
   obtain ⟨hac1,hac2⟩:=acc_op f L K t N
   obtain ⟨ha0,ha1⟩:=cntI_rng hT.ls.lk.lk.port t
   have hin:TwIn L M f:=ord_in hO (by omega) (by omega) HA.out.2.1 HA.out.2.2.1 HA.out.2.2.2
   have hbnd:0≤nw+min (max la 0) 1000∧nw+min (max la 0) 1000≤1000*((k+1:Nat):Int):=by omega
   have cA:=paccesses_any hTX.ls.lk.lk.port t
   obtain ⟨g,hg⟩:∃ g,g=opF f L K t N:=⟨_,rfl⟩
   rw [←hg] at hO' hD' hn' hac1 hac2
   obtain ⟨c0,hc0⟩:∃ c0,c0=cntI f.ps.ac t:=⟨_,rfl⟩
   obtain ⟨c1,hc1⟩:∃ c1,c1=cntI g.ps.ac t:=⟨_,rfl⟩
   rw [←hc0] at cA ha0 ha1 hac1 hac2
   rw [←hc1] at hac1 hac2
   have hgt:¬ (c0+1<c1):=by omega
   have hc150:c0≤150:=by omega
   have cD:=λnv=>td_any hTX hin K t N la nv
   rw [←hg] at cD
   have HX:=Lib.hid (And.intro hX (And.intro hTX (And.intro hB (And.intro hBb (And.intro hO' (And.intro (show g.ps.D.length≤k+1 by omega) (And.intro (hn'.trans hfn) (And.intro hc1 hc0))))))))
   have HBN:=Lib.hid hbnd
   have x1:(wr.alloc (.cells #[.int .i64 K,.int .i64 t,.int .i64 N,.int .i64 la] 58)).cell? ⟨wr.heap.size,1,none⟩=some (.int .i64 t):=by rw [←hX,blk_cell hB];rfl
   have z0:X.cell? ⟨wr.heap.size,0,none⟩=some (.int .i64 K):=(blk_cell hB 0).trans rfl
   have z1:X.cell? ⟨wr.heap.size,1,none⟩=some (.int .i64 t):=(blk_cell hB 1).trans rfl
   have z2:X.cell? ⟨wr.heap.size,2,none⟩=some (.int .i64 N):=(blk_cell hB 2).trans rfl
   have z3:X.cell? ⟨wr.heap.size,3,none⟩=some (.int .i64 la):=(blk_cell hB 3).trans rfl
   clear hT hO hfn hD hX hTX hB hBb hO' hD' hn' hin hbnd hg hc0 hc1 ha1 hac1
   have hEK:(K=4)∨((K != 4)=true∧c1=c0):=by
    by_cases hK4:K=4
    ·exact .inl hK4
    ·exact .inr ⟨by simpa using hK4,hac2 hK4⟩
   clear hac2
   rcases hEK with rfl|⟨bK,rfl⟩
   all_goals
    go_wp2_with (first
     |(go_at_call 36;rw [←HX.out.1];(with_reducible refine cA.mono ?_);rintro e w2 ⟨rfl,rfl⟩)
     |(go_at_call 37;(with_reducible refine (cD _).mono ?_);intro e w3 hq;unfold TdPost at hq;obtain ⟨rfl,hD3,k3⟩:=hq;have b3:=k3 _ _ HX.out.2.2.2.1 HX.out.2.2.1;have u0:=(blk_cell b3 0).trans rfl;have u1:=(blk_cell b3 1).trans rfl;have cA2:=paccesses_any hD3.ls.lk.lk.port t;rw [←HX.out.2.2.2.2.2.2.2.1] at cA2;have cSm:=same_any hD3.ls.lk.lk.port hD3.ref;have H3:=Lib.hid hD3;clear hD3 k3 b3)
     |(go_at_call 36;(with_reducible refine cA2.mono ?_);rintro e w2 ⟨rfl,rfl⟩)
     |(go_at_call 38;(with_reducible refine cSm.mono ?_);intro e w4 hq;unfold SamePost at hq;obtain ⟨rfl,hW4⟩:=hq;have hD4:=H3.out.after hW4;have mL:=via_len L.lb ⟨L.p,0,none⟩ w4 hD4.ls.cell0;have mSt:=via_state L.lb ⟨L.p,0,none⟩ w4 hD4.ls.cell0;have cL:=ls_len hD4.ls;have cSe:=tw_seats hD4;have cSt:=(λtv=>ls_state hD4.ls tv);have H4:=Lib.hid hD4;clear hD4 hW4))
    have hraw:=H4.out.ml.raw
    have hgn:g.s.n=n:=HX.out.2.2.2.2.2.2.1
    obtain ⟨gs,cg,hgv,hgs⟩:=SrAt.stV hraw.seat (by omega)
    have s0:=SrAt.cell0 hraw.seat
    rw [hgv] at s0
    rw [hgn] at cL s0
    have HGS:Hid (∀ i:Nat,i<n→w4.cell? ⟨gs,i,none⟩=some (.int .i64 (g.s.st i))):=Lib.hid λi hi=>(hgs i _ (stL_at g.s (by omega))).1
    have HGN:=Lib.hid hgn
    clear hraw hgv hgs hgn cA cA2 cD cSm u0 u1
    go_loopw [15] (λv15 wx=>wx=w4∧∃ tv:Int,(-1≤tv∧tv≤(n:Int)+1)∧v15= .int .i64 tv) (λv15 _=>((n:Int)+1-intOf v15).toNat)
    case atStart=>exact ⟨rfl,-1,by omega,rfl⟩
    case round=>
     obtain ⟨rfl,tv,⟨tv0,tv1⟩,rfl⟩:=hrel
     have cT:=cSt tv
     by_cases hin:tv≤(n:Int)
     ·by_cases h0:0≤tv
      ·by_cases hlt2:tv<(n:Int)
       ·obtain ⟨i,rfl⟩:=Int.eq_ofNat_of_zero_le h0
        have eS:g.s.stI (i:Int)=g.s.st i:=by unfold SS.stI;rw [if_pos (by have:=HGN.out;omega),Int.toNat_natCast]
        rw [eS] at cT
        have ci:=HGS.out i (by omega)
        generalize g.s.st i=sx at cT ci
        clear eS cSt
        go_wp2_with (first
         |(go_at_call 27;(with_reducible refine cL.mono ?_);rintro e w5 ⟨rfl,rfl⟩)
         |(go_at_call 124;(with_reducible refine cSe.mono ?_);rintro e w5 ⟨rfl,rfl⟩)
         |(go_at_call 21;(with_reducible refine cT.mono ?_);rintro e w5 ⟨rfl,rfl⟩))
        go_roundw
        case rel=>exact ⟨by first|rfl|trivial,(i:Int)+1,by omega,by first|rfl|go_num⟩
        case measure=>simp [intOf];omega
       ·have eS:g.s.stI tv=0:=if_neg (by have:=HGN.out;omega)
        rw [eS] at cT
        clear eS cSt
        go_wp2_with (first
         |(go_at_call 27;(with_reducible refine cL.mono ?_);rintro e w5 ⟨rfl,rfl⟩)
         |(go_at_call 124;(with_reducible refine cSe.mono ?_);rintro e w5 ⟨rfl,rfl⟩)
         |(go_at_call 21;(with_reducible refine cT.mono ?_);rintro e w5 ⟨rfl,rfl⟩))
        go_roundw
        case rel=>exact ⟨by first|rfl|trivial,tv+1,by omega,by first|rfl|go_num⟩
        case measure=>simp [intOf];omega
      ·have eS:g.s.stI tv=0:=if_neg (by omega)
       rw [eS] at cT
       clear eS cSt
       go_wp2_with (first
        |(go_at_call 27;(with_reducible refine cL.mono ?_);rintro e w5 ⟨rfl,rfl⟩)
        |(go_at_call 21;(with_reducible refine cT.mono ?_);rintro e w5 ⟨rfl,rfl⟩))
       go_roundw
       case rel=>exact ⟨by first|rfl|trivial,tv+1,by omega,by first|rfl|go_num⟩
       case measure=>simp [intOf];omega
     ·clear cT cSt
      go_wp2_with (go_at_call 27;(with_reducible refine cL.mono ?_);rintro e w5 ⟨rfl,rfl⟩)
      go_roundw
      case rel=>exact ⟨k+1,by omega,by go_num,_,g,W',rfl,HBN.out,H4.out,HX.out.2.2.2.2.1,HGN.out,HX.out.2.2.2.2.2.1⟩
      case measure=>simp [intOf];omega
  ·obtain rfl:k=m:=by omega
   have mL:=via_len L.lb ⟨L.p,0,none⟩ wr hT.ls.cell0
   have cL:=ls_len hT.ls
   have cS:=tw_seats hT
   have hraw:=hT.ml.raw
   have s0:=SrAt.cell0 hraw.seat
   obtain ⟨gs,cg,hgv,_⟩:=SrAt.stV hraw.seat (by omega)
   rw [hgv] at s0
   rw [hfn] at cL s0
   have HT:=Lib.hid (And.intro hT (And.intro hO hfn))
   clear hT hO hfn hD hraw hgv
   go_wp2_with (first
    |(go_at_call 27;(with_reducible refine cL.mono ?_);rintro e w3 ⟨rfl,rfl⟩)
    |(go_at_call 124;(with_reducible refine cS.mono ?_);rintro e w3 ⟨rfl,rfl⟩))
   go_ret
   exact ⟨by simp,f,W,HT.out.1,HT.out.2.1,HT.out.2.2⟩
end Go.Proofs.YtkmikkjjnbikdaaGreat

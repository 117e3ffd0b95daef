import Derived.Test.YtkmikkjjnbikdaaGreatCohortRall
namespace Go.Proofs.YtkmikkjjnbikdaaGreat
open _root_.Go.Proofs.Tryz
open Go.RowKit Go.BigFrame
set_option linter.unusedVariables false
set_option maxRecDepth 100000
structure Duo (w0 w:World) (L:Lp) (M:Mp) (f f':FL):Prop where
 ls:LkS w0 w L f
 ml:MlAt w M f'
 ref:RefSt w M.base M.pr f'.ps
 lo:L.q.k3≤M.r∧∀ k,MF M k→L.q.k3≤k
 hi:M.r<M.base∧∀ k,MF M k→k<M.base
 bs:L.q.k3≤M.base∧M.base≤w.heap.size
def KpO (base:Nat) (W W':World):Prop:=∀ C cs,base≤C→W.heap[C]? =some (.cells cs 58 (0,0))→W'.heap[C]? =some (.cells cs 58 (0,0))
theorem KpO.trans {base:Nat} {w w' w'':World} (h:KpO base w w') (k:KpO base w' w''):KpO base w w'':=λC cs hC x=>k C cs hC (h C cs hC x)
theorem KpO.of {base:Nat} {w w':World} {S:Nat→Prop} (k:Wr S w w') (hS:∀ b,S b→b<base):KpO base w w':=λC cs hC x=>(k.block C (blk_lt x) λe=>by have:=hS C e;omega).trans x
theorem KpO.nil {base:Nat} {w w':World} (k:Wr Nil w w'):KpO base w w':=λC cs hC x=>(k.block C (blk_lt x) id).trans x
theorem foot_op {w:World} {base r bk C:Nat} {so:Option Addr} {cap:Nat} {dv:Value} {ps:PSta} {cs:Array Value} (hr:RefAt w base r bk so cap dv ps) (hd:w.heap[C]? =some (.cells cs 58 (0,0))):¬ Foot r bk dv C:=by
 rintro (rfl|rfl|e)
 ·have h1:=hr.obj;rw [hd] at h1;cases h1
 ·obtain ⟨c,h1,_⟩:=hr.counts
  rw [hd] at h1;cases h1
 ·rcases hr.touched.2 with ⟨rfl,_⟩|⟨g,cp,cur,rfl,_,hg,_⟩
  ·simp [Value.ownBlock] at e
  ·obtain rfl:g=C:=by simpa [Value.ownBlock] using e
   rw [hd] at hg;cases hg
namespace Duo
variable {w0 w w':World} {L:Lp} {M:Mp} {f f' g:FL}
theorem after (h:Duo w0 w L M f f') (k:Wr Nil w w'):Duo w0 w' L M f f':=by
 obtain ⟨bk,so,cap,dv,hr⟩:=h.ref
 exact ⟨h.ls.after k,h.ml.after k,⟨bk,so,cap,dv,hr.after k λ_ _=>id⟩,h.lo,h.hi,h.bs.1,Nat.le_trans h.bs.2 k.size⟩
theorem drew (h:Duo w0 w L M f f'):Duo w0 w.drew L M f f':=h.after ((Wr.refl _ w).drew)
theorem mach (h:Duo w0 w L M f f') (hl:LkS w0 w' L g) (k:Wr (Low L) w w'):Duo w0 w' L M g f':=by
 obtain ⟨bk,so,cap,dv,hr⟩:=h.ref
 have hlo:=h.lo
 have hb:=h.bs.1
 refine ⟨hl,h.ml.apart k (λe=>by unfold Low at e;omega) (λj hj e=>by have:=hlo.2 j hj;unfold Low at e;omega),⟨bk,so,cap,dv,hr.after k λb hb e=>by unfold Low at e;omega⟩,h.lo,h.hi,h.bs.1,Nat.le_trans h.bs.2 k.size⟩
theorem seat (h:Duo w0 w L M f f') {s':SS} (hn:s'.n=f'.s.n) {x:Int} {e:Ending} (k:RsPost w M.sr M.hv M.dv s' x e w'):Duo w0 w' L M f {f' with s:=s'}∧KpO M.base w w':=by
 obtain ⟨bk,so,cap,dv,hr⟩:=h.ref
 have hlo:=h.lo
 have hhi:=h.hi
 refine ⟨⟨h.ls.apart k.2.2 λb hb=>hlo.2 b (mf_sf hb),h.ml.seats k.2.1 hn k.2.2,⟨bk,so,cap,dv,hr.after k.2.2 λb hb e=>by have:=hhi.2 b (mf_sf e);omega⟩,h.lo,h.hi,h.bs.1,Nat.le_trans h.bs.2 k.2.2.size⟩,KpO.of k.2.2 λb hb=>hhi.2 b (mf_sf hb)⟩
theorem rstep (h:Duo w0 w L M f f') {bk:Nat} {so:Option Addr} {cap:Nat} {dv:Value} (hr:RefAt w M.base M.pr bk so cap dv f'.ps) {g:FL} {d:Dd} {e:Ending} (k:MmPost w M bk dv g d e w'):Duo w0 w' L M f g∧KpO M.base w w':=by
 obtain ⟨he,hm,hR,hW⟩:=k
 have hlo:=h.lo
 have hhi:=h.hi
 have hbs:=h.bs
 refine ⟨⟨h.ls.apart hW λb hb=> ?_,hm,hR,h.lo,h.hi,h.bs.1,Nat.le_trans h.bs.2 hW.size⟩,λC cs hC x=>(hW.block C (blk_lt x) λe=> ?_).trans x⟩
 ·rcases hb with hb|hb
  ·exact hlo.2 b hb
  ·have:=(foot_lt hr hb).1;omega
 ·rcases e with e|e
  ·have:=hhi.2 C e;omega
  ·exact foot_op hr x e
theorem low (h:Duo w0 w L M f f') (k:Wr (Low L) w w'):KpO M.base w w':=KpO.of k λb hb=>by have:=h.bs.1;unfold Low at hb;omega
end Duo
def TmPost (w0 w:World) (L:Lp) (M:Mp) (f f':FL) (v:Value) (e:Ending) (w':World):Prop:=e= .returned v∧Duo w0 w' L M f f'∧Wr (Low L) w w'∧KpO M.base w w'
def TrPost (w0 w:World) (L:Lp) (M:Mp) (f f':FL) (v:Value) (e:Ending) (w':World):Prop:=e= .returned v∧Duo w0 w' L M f f'∧KpO M.base w w'
section
variable {w0 w:World} {L:Lp} {M:Mp} {f f':FL}
theorem tw_lock (h:Duo w0 w L M f f') (t d:Int):Calls prog 18 #[.pointer (some ⟨L.p,0,none⟩),.int .i64 t,.int .i64 d] w (TmPost w0 w L M (f.lock t d) f' (.int .i64 (lockE f.s t d))):=
 (ls_lock h.ls t d).mono λe w' ⟨he,hl,hW⟩=>⟨he,h.mach hl hW,hW,h.low hW⟩
theorem tw_unlock (h:Duo w0 w L M f f') (t:Int):Calls prog 19 #[.pointer (some ⟨L.p,0,none⟩),.int .i64 t] w (TmPost w0 w L M (f.turn t 3) f' (.int .i64 (turnE f.s t))):=
 (ls_unlock h.ls t).mono λe w' ⟨he,hl,hW⟩=>⟨he,h.mach hl hW,hW,h.low hW⟩
theorem tw_probe (h:Duo w0 w L M f f') (t:Int):Calls prog 123 #[.pointer (some ⟨L.p,0,none⟩),.int .i64 t] w (TmPost w0 w L M (f.probe t) f' (.int .i64 (probeE f.s t))):=
 (ls_probe h.ls t).mono λe w' ⟨he,hl,hW⟩=>⟨he,h.mach hl hW,hW,h.low hW⟩
theorem tw_step (h:Duo w0 w L M f f') (t u x:Int) (hD:f.ps.D.length<4611686018427387904) (e:t=u:=by rfl):Calls prog 20 #[.pointer (some ⟨L.lb,0,none⟩),.int .i64 t,.int .i64 u,.int .i64 x] w (TmPost w0 w L M (f.step L t u) f' (f.did L t u).val):=
 (ls_step h.ls t u x hD e).mono λe w' ⟨he,hl,hW⟩=>⟨he,h.mach hl hW,hW,h.low hW⟩
theorem tw_rlock (h:Duo w0 w L M f f') (n1:1≤f'.s.n) (n2:f'.s.n≤64) (t d:Int):Calls prog 56 #[.pointer (some ⟨M.sr,0,none⟩),.int .i64 t,.int .i64 d] w (TrPost w0 w L M f (f'.lock t d) (.int .i64 (lockE f'.s t d))):=by
 have h1:=h.ml.raw
 exact (rs_lock h1.seat n1 n2 t d).mono λe w' k=>⟨k.1,h.seat (SS.lock_n _ _ _) k⟩
theorem tw_runlock (h:Duo w0 w L M f f') (n1:1≤f'.s.n) (n2:f'.s.n≤64) (t:Int):Calls prog 57 #[.pointer (some ⟨M.sr,0,none⟩),.int .i64 t,.int .i64 3] w (TrPost w0 w L M f (f'.turn t 3) (.int .i64 (turnE f'.s t))):=by
 have h1:=h.ml.raw
 have c:=rs_turn h1.seat n1 n2 t 3 (by decide)
 rw [(rturn_three f'.s t).1,(rturn_three f'.s t).2] at c
 exact c.mono λe w' k=>⟨k.1,h.seat (SS.turn_n _ _ _) k⟩
theorem tw_rprobe (h:Duo w0 w L M f f') (n1:1≤f'.s.n) (n2:f'.s.n≤64) (t:Int):Calls prog 57 #[.pointer (some ⟨M.sr,0,none⟩),.int .i64 t,.int .i64 4] w (TrPost w0 w L M f (f'.probe t) (.int .i64 (probeE f'.s t))):=by
 have h1:=h.ml.raw
 have c:=rs_turn h1.seat n1 n2 t 4 (by decide)
 rw [(rturn_four f'.s t).1,(rturn_four f'.s t).2] at c
 exact c.mono λe w' k=>⟨k.1,h.seat (SS.probe_n _ _) k⟩
structure TwIn (L:Lp) (M:Mp) (f:FL):Prop where
 n1:1≤f.s.n
 ord:∃ W,OrdI f W
 hD:f.ps.D.length<100000
 hws:f.ps.ws.length≤4096
 ha:M.a=0
 l1:L.a1=0
 l2:L.a2=1
theorem TwIn.n8 {L:Lp} {M:Mp} {f:FL} (h:TwIn L M f):f.s.n≤8:=by obtain ⟨W,h⟩:=h.ord;exact h.n8
theorem tw_rstep (h:Duo w0 w L M f f) (hI:TwIn L M f) (t u x:Int):Calls prog 125 #[.pointer (some ⟨M.r,0,none⟩),.pointer (some ⟨M.pr,0,none⟩),.int .i64 t,.int .i64 u,.int .i64 x] w (TrPost w0 w L M f (f.step L t u) (f.did L t u).rval):=by
 obtain ⟨bk,so,cap,dv,hr⟩:=h.ref
 have h8:=hI.n8
 obtain ⟨W,ho⟩:=hI.ord
 have hin:MmIn w M bk so cap dv f L:=mm_in h.ls.lk h.ml hr ho hI.n1 (by have:=hI.hD;omega) hI.hws h.bs.2 hI.ha hI.l1 hI.l2
 exact (mm_step hin t u x).mono λe w' k=>⟨k.1,h.rstep hr k⟩
theorem tw_seats (h:Duo w0 w L M f f'):Calls prog 124 #[.pointer (some ⟨M.r,0,none⟩)] w λe w'=>e= .returned (.pointer (some ⟨M.sr,0,none⟩))∧w=w':=by
 have h1:=h.ml.raw
 exact ml_seats h1
end
end Go.Proofs.YtkmikkjjnbikdaaGreat


import Derived.Test.YtkmikkjjnbikdaaGreatMcsRef
import Derived.Deep.RegionHeld3
namespace Go.Proofs.YtkmikkjjnbikdaaGreat.Kf
set_option maxHeartbeats 8000000
open _root_.Go.Proofs.Tryz Go.Deep
open Go.RowKit Go.BigFrame
set_option linter.unusedVariables false
set_option maxRecDepth 100000
def MsPost (w:World) (M:Mp) (bk:Nat) (dv:Value) (s:SS) (p:Nat→Bool) (mi:Nat→Int) (ps:PSta) (d:Dd) (e:Ending) (w':World):Prop:=
 e= .returned d.rval∧MlRaw w' M s p mi∧RefSt w' M.base M.pr ps∧Wr (MG M bk dv) w w'
structure MsIn (w:World) (M:Mp) (bk:Nat) (so:Option Addr) (cap:Nat) (dv:Value) (s:SS) (p:Nat→Bool) (mi:Nat→Int) (ps:PSta):Prop where
 raw:MlRaw w M s p mi
 ref:RefAt w M.base M.pr bk so cap dv ps
 n1:1≤s.n
 n2:s.n≤64
 hD:ps.D.length<1000000
 hws:ps.ws.length≤4096
 hac:ps.ac.length≤64
 hb:M.base≤w.heap.size
 ha:0≤M.a∧M.a≤4096
theorem tk {P:Program} {md:Region.Mode} {ops:Array Oper} {Q:Exit→Act→World→Prop} {S:World→Prop} {i:Nat} {oi:Oper} {v:Value} {fuel:Nat} {listed:Array Bool} {a:Act} {w:World} (hi:ops[i]?=some oi) (hy:∀ w,S w→(execOp a.eval oi).run P w= .ok (.value v) w) (h:wpAnyH P md ops Q S fuel (listed.setIfInBounds i true) (a.put oi.dst v) w) (hs:Region.noSelect ops=true:=by kernel_rfl) (hf:Region.free md ops listed i=true:=by kernel_rfl) (hr:(Region.ready md ops listed).contains i=true:=by kernel_rfl) (hQ:∀ c a w,Q (.panic c) (a.put oi.dst v) w→Q (.panic c) a w:=by exact fun _ _ _ h=>h) (hw:Region.wanted oi (yielded ops a.tmps)=true:=by rfl) (hS:S w:=by assumption):wpAnyH P md ops Q S (fuel+1) listed a w:=wpAnyH_take hi hs hf hr hQ (.inl ⟨hw,hy⟩) hS h
theorem foot_lt {w:World} {base r bk:Nat} {so:Option Addr} {cap:Nat} {dv:Value} {ps:PSta} (h:RefAt w base r bk so cap dv ps) {k:Nat} (hk:Foot r bk dv k):base≤k∧k<w.heap.size:=by
 rcases hk with rfl|rfl|hk
 ·exact ⟨h.low.1,blk_lt h.obj⟩
 ·exact ⟨h.low.2.1,h.counts.lt⟩
 ·exact ⟨(h.touched.lt k hk).1,(h.touched.lt k hk).2⟩
theorem MsIn.start {w:World} {M:Mp} {bk:Nat} {so:Option Addr} {cap:Nat} {dv:Value} {s:SS} {p:Nat→Bool} {mi:Nat→Int} {ps:PSta} (h:MsIn w M bk so cap dv s p mi ps):
  Fm w ((w.alloc (.cells #[.int .i64 0,.int .i64 0,.int .i64 0,.int .i64 0] 136)).alloc (.cells #[.int .i64 0,.int .i64 0,.int .i64 0,.int .i64 0] 136)) M bk dv s p mi ps w.heap.size (w.heap.size+1) Dd.no∧
  RefAt ((w.alloc (.cells #[.int .i64 0,.int .i64 0,.int .i64 0,.int .i64 0] 136)).alloc (.cells #[.int .i64 0,.int .i64 0,.int .i64 0,.int .i64 0] 136)) M.base M.pr bk so cap dv ps:=by
 have e1:(w.alloc (.cells #[.int .i64 0,.int .i64 0,.int .i64 0,.int .i64 0] 136)).heap.size=w.heap.size+1:=nblk_alloc _ _
 have k:Wr Nil w ((w.alloc (.cells #[.int .i64 0,.int .i64 0,.int .i64 0,.int .i64 0] 136)).alloc (.cells #[.int .i64 0,.int .i64 0,.int .i64 0,.int .i64 0] 136)):=((Wr.refl _ w).alloc _).alloc _
 have hr:=h.ref.after k λ_ _=>id
 refine ⟨⟨h.raw.after k,⟨bk,so,cap,dv,hr⟩,?_,?_,k.mono λ_ _ e=>e.elim,⟨Nat.le_refl _,Nat.le_succ _,by omega⟩,λj hj=> ?_,λj hj=>(foot_lt h.ref hj).1,h.hb⟩,hr⟩
 ·rw [blk_alloc_lt _ _ _ (by rw [e1];omega),blk_alloc_new];rfl
 ·rw [←e1,blk_alloc_new];rfl
 ·rcases hj with hj|hj
  ·exact h.raw.lt hj
  ·exact (foot_lt h.ref hj).2
theorem Fm.dcell {w X:World} {M:Mp} {bk:Nat} {dv:Value} {s:SS} {p:Nat→Bool} {mi:Nat→Int} {ps:PSta} {R C:Nat} {d:Dd} (h:Fm w X M bk dv s p mi ps R C d):
  X.cell? ⟨C,0,none⟩=some (.int .i64 d.ev)∧X.cell? ⟨C,1,none⟩=some (.int .i64 (b2i d.enq))∧X.cell? ⟨C,2,none⟩=some (.int .i64 (b2i d.arr))∧X.cell? ⟨C,3,none⟩=some (.int .i64 (b2i d.lead)):=by
 rw [blk_cell h.did,blk_cell h.did,blk_cell h.did,blk_cell h.did];exact ⟨rfl,rfl,rfl,rfl⟩
theorem Fm.rcell {w X:World} {M:Mp} {bk:Nat} {dv:Value} {s:SS} {p:Nat→Bool} {mi:Nat→Int} {ps:PSta} {R C:Nat} {d:Dd} (h:Fm w X M bk dv s p mi ps R C d):
  X.cell? ⟨R,0,none⟩=some (.int .i64 0)∧X.cell? ⟨R,1,none⟩=some (.int .i64 0)∧X.cell? ⟨R,2,none⟩=some (.int .i64 0)∧X.cell? ⟨R,3,none⟩=some (.int .i64 0):=by
 rw [blk_cell h.res,blk_cell h.res,blk_cell h.res,blk_cell h.res];exact ⟨rfl,rfl,rfl,rfl⟩
theorem Fm.rfrz {w X:World} {M:Mp} {bk:Nat} {dv:Value} {s:SS} {p:Nat→Bool} {mi:Nat→Int} {ps:PSta} {R C:Nat} {d:Dd} (h:Fm w X M bk dv s p mi ps R C d):
  X.frozen? ⟨R,0,none⟩=false∧X.frozen? ⟨R,1,none⟩=false∧X.frozen? ⟨R,2,none⟩=false∧X.frozen? ⟨R,3,none⟩=false:=⟨blk_frozen h.res 0,blk_frozen h.res 1,blk_frozen h.res 2,blk_frozen h.res 3⟩
theorem Fm.told {w X:World} {M:Mp} {bk:Nat} {dv:Value} {s:SS} {p:Nat→Bool} {mi:Nat→Int} {ps:PSta} {R C:Nat} {d:Dd} (h:Fm w X M bk dv s p mi ps R C d):
  MsPost w M bk dv s p mi ps d (.returned d.rval) ((((X.setCell ⟨R,0,none⟩ (.int .i64 d.ev)).setCell ⟨R,1,none⟩ (.int .i64 (b2i d.enq))).setCell ⟨R,2,none⟩ (.int .i64 (b2i d.arr))).setCell ⟨R,3,none⟩ (.int .i64 (b2i d.lead))):=by
 have k:=wrote4 X R (.int .i64 d.ev) (.int .i64 (b2i d.enq)) (.int .i64 (b2i d.arr)) (.int .i64 (b2i d.lead))
 have hn:=h.new
 have hC:∀ b,MG M bk dv b→¬ One R b:=λb hb e=>by have:=h.old b hb;cases e;omega
 have hbw:=h.bw
 have hlr:=h.raw.low.1
 exact ⟨rfl,h.raw.wrote k (λe=>by cases e;omega) (hC _ (.inl (.inl rfl))) (hC _ (.inl (.inr (.inl rfl)))) λj hj=>hC j (.inl (.inr (.inr hj))),ref_off h.ref k h.res,h.wr.trans k λb hb e=>by cases e;omega⟩
theorem i_rid:(prog.info? 136).map (·.size)=some 4:=by kernel_rfl
theorem end_none {s:SS} {k:Nat} {ev:Int} (hk:k<s.n) (h:behindI (s.st k) ev=none):s.fin k ev=s∧endI s k ev=0:=by
 refine ⟨fin_none h,?_⟩
 have e:endO s k ev=none:=by unfold endO;rw [if_pos ⟨by omega,by omega⟩,Int.toNat_natCast,h]
 unfold endI endB
 rw [e]
 rfl
theorem end_some {s:SS} {k:Nat} {ev y:Int} (hk:k<s.n) (h:behindI (s.st k) ev=some y):s.fin k ev=s.set k y 0∧endI s k ev=1:=by
 refine ⟨fin_some hk h,?_⟩
 have e:endO s k ev=some y:=by unfold endO;rw [if_pos ⟨by omega,by omega⟩,Int.toNat_natCast,h]
 unfold endI endB
 rw [e]
 rfl
theorem ml_draw {w:World} {M:Mp} {bk:Nat} {so:Option Addr} {cap:Nat} {dv:Value} {s:SS} {p:Nat→Bool} {mi:Nat→Int} {ps:PSta} (h:MsIn w M bk so cap dv s p mi ps) (k:Nat) (hk:k<s.n) (u x:Int) (s1:s.st k=1) (hp:p k=false):
  Calls prog 133 #[.pointer (some ⟨M.r,0,none⟩),.pointer (some ⟨M.pr,0,none⟩),.int .i64 (k:Int),.int .i64 u,.int .i64 x] w (MsPost w M bk dv s (upd p k true) (upd mi k (tellS ps u 5 M.a)) (doS ps u 5 M.a 0 1) ⟨0,true,false,false⟩):=by
 obtain ⟨hF,hR⟩:=h.start
 have n1:=h.n1
 have n2:=h.n2
 obtain ⟨g,cg,hgv,hg⟩:=SrAt.stV hF.raw.seat (by omega)
 have b2:=(h.raw.after ((Wr.refl Nil w).alloc (.cells #[.int .i64 0,.int .i64 0,.int .i64 0,.int .i64 0] 136))).cell2
 have c0:=hF.raw.cell0
 have c1:=hF.raw.cell1
 have c2:=hF.raw.cell2
 have c3:=hF.raw.cell3
 have cs:=SrAt.cell0 hF.raw.seat
 rw [hgv] at cs
 have ct:=(hg k _ (stL_at s hk)).1
 have cp:=hF.raw.pcC hk
 have cm:=hF.raw.miC hk
 have zp:=hF.raw.pcZ k
 have zm:=hF.raw.miZ k
 have i0:(0:Int)≤(k:Int):=by omega
 have i1:(k:Int)<s.n:=by omega
 have i2:¬ (k:Int)<0:=by omega
 have i3:¬ (s.n:Int)≤(k:Int):=by omega
 have bsz:M.base≤((w.alloc (.cells #[.int .i64 0,.int .i64 0,.int .i64 0,.int .i64 0] 136)).alloc (.cells #[.int .i64 0,.int .i64 0,.int .i64 0,.int .i64 0] 136)).drew.heap.size:=Nat.le_trans hF.bw (((Wr.refl Nil w).alloc _).alloc _).drew.size
 have cA:=ra_add (hR.after ((Wr.refl Nil _).drew) λ_ _=>id) u M.a 1 (by omega) (by omega) h.hD h.hws h.hac bsz
 have HEE:=Lib.hid (end_none (s:=s) (ev:=0) hk (by rw [s1];rfl))
 rw [s1] at ct
 rw [hp] at cp
 have HE:=Lib.hid (And.intro h (And.intro hF hk))
 have HG:=Lib.hid hgv
 obtain ⟨Z,hZ⟩:∃ Z,Z=(w.alloc (.cells #[.int .i64 0,.int .i64 0,.int .i64 0,.int .i64 0] 136)).alloc (.cells #[.int .i64 0,.int .i64 0,.int .i64 0,.int .i64 0] 136):=⟨_,rfl⟩
 have HZ:=Lib.hid hZ
 rw [←hZ] at HE cA
 clear hZ
 clear hF hR h hg hgv s1
 go_enter func133,ntmps133
 go_wp2
 rw [←HZ.out]
 rw [←HZ.out] at c1 c3 zm
 clear c0 c2 cs ct cp cm zp
 go_region_held3 (λw'=>w'.cell? ⟨M.r,1,none⟩=some (.int .i64 M.a)∧w'.cell? ⟨M.r,3,none⟩=some (.slice (some ⟨M.mn,0,none⟩) s.n s.n)) (first|exact ⟨c1,c3⟩|exact ⟨d1,d3⟩|exact ⟨q1,q3⟩) (first|(go_at_call 137;(with_reducible refine cA.mono ?_);intro e w2 hq;unfold RaPost at hq;obtain ⟨rfl,hRS,hW⟩:=hq;have hA:=HE.out.2.1.drew.port hRS hW;have d1:=hA.raw.cell1;have d3:=hA.raw.cell3;have y0:=hA.raw.miC HE.out.2.2;have yz:=hA.raw.miZ k;have hB:=hA.setM k (tellS ps u 5 M.a);have q1:=hB.raw.cell1;have q2:=hB.raw.cell2;have q3:=hB.raw.cell3;have qp:=hB.raw.pcC HE.out.2.2;have qz:=hB.raw.pcZ k;have hC:Fm w ((w2.setCell ⟨M.mn,k,none⟩ (.int .u32 (tellS ps u 5 M.a))).setCell ⟨M.pc,k,none⟩ (.int .i64 1)) M bk dv s (upd p k true) (upd mi k (tellS ps u 5 M.a)) (doS ps u 5 M.a 0 1) w.heap.size (w.heap.size+1) Dd.no:=hB.setP k true;have k1:=hC.dcell.2.1;have kz:=blk_frozen hC.did 1;have HC:=Lib.hid hC;clear hA hB hC hRS hW))
 go_wp2
 obtain ⟨X,hX⟩:∃ X,X=((w2.setCell ⟨M.mn,k,none⟩ (.int .u32 (tellS ps u 5 M.a))).setCell ⟨M.pc,k,none⟩ (.int .i64 1)).setCell ⟨w.heap.size+1,1,none⟩ (.int .i64 1):=⟨_,rfl⟩
 have hFX:Fm w X M bk dv s (upd p k true) (upd mi k (tellS ps u 5 M.a)) (doS ps u 5 M.a 0 1) w.heap.size (w.heap.size+1) ⟨0,true,false,false⟩:=by rw [hX];exact HC.out.setD 1 (.int .i64 1) ⟨0,true,false,false⟩ rfl
 rw [←hX]
 clear hX
 have n0:=hFX.drew.raw.cell0
 have nd0:=hFX.drew.dcell.1
 have ns:=SrAt.cell0 hFX.drew.raw.seat
 rw [HG.out] at ns
 have cE:=rs_end hFX.drew.raw.seat n1 n2 (k:Int) 0
 rw [HEE.out.1,HEE.out.2] at cE
 have HX:=Lib.hid hFX
 clear hFX
 refine wp_region_noPanic ?_
 refine wp_region_held_drew (S:=λW=>W.cell? ⟨M.r,0,none⟩=some (.pointer (some ⟨M.sr,0,none⟩))∧W.cell? ⟨w.heap.size+1,0,none⟩=some (.int .i64 0)∧W.cell? ⟨M.sr,0,none⟩=some (.slice (some ⟨g,0,none⟩) s.n cg)) (by kernel_rfl) ⟨n0,nd0,ns⟩ (λhHeld=> ?_)
 refine tk (i:=0) (v:= ?v1) rfl ?hy1 ?rest1
 case hy1=>intro w hSw;(try dsimp only at hSw);go_simp;try with_reducible rfl
 (try simp only [Act.put,List.getElem_toArray,List.getElem_cons_zero,List.setIfInBounds_toArray,List.set_cons_zero,List.set_cons_succ])
 refine tk (i:=1) (v:= ?v2) rfl ?hy2 ?rest2
 case hy2=>intro w hSw;(try dsimp only at hSw);go_simp;try with_reducible rfl
 (try simp only [Act.put,List.getElem_toArray,List.getElem_cons_succ,List.getElem_cons_zero,List.setIfInBounds_toArray,List.set_cons_zero,List.set_cons_succ])
 refine tk (i:=2) (v:= ?v3) rfl ?hy3 ?rest3
 case hy3=>intro w hSw;(try dsimp only at hSw);go_simp;try with_reducible rfl
 (try simp only [Act.put,List.getElem_toArray,List.getElem_cons_succ,List.getElem_cons_zero,List.setIfInBounds_toArray,List.set_cons_zero,List.set_cons_succ])
 refine tk (i:=3) (v:= ?v4) rfl ?hy4 ?rest4
 case hy4=>intro w hSw;(try dsimp only at hSw);go_simp;try with_reducible rfl
 (try simp only [Act.put,List.getElem_toArray,List.getElem_cons_succ,List.getElem_cons_zero,List.setIfInBounds_toArray,List.set_cons_zero,List.set_cons_succ])
 refine tk (i:=4) (v:= ?v5) rfl ?hy5 ?rest5
 case hy5=>intro w hSw;(try dsimp only at hSw);go_simp;try with_reducible rfl
 (try simp only [Act.put,List.getElem_toArray,List.getElem_cons_succ,List.getElem_cons_zero,List.setIfInBounds_toArray,List.set_cons_zero,List.set_cons_succ])
 refine tk (i:=5) (v:= ?v6) rfl ?hy6 ?rest6
 case hy6=>intro w hSw;(try dsimp only at hSw);go_simp;try with_reducible rfl
 (try simp only [Act.put,List.getElem_toArray,List.getElem_cons_succ,List.getElem_cons_zero,List.setIfInBounds_toArray,List.set_cons_zero,List.set_cons_succ])
 refine tk (i:=6) (v:= ?v7) rfl ?hy7 ?rest7
 case hy7=>intro w hSw;(try dsimp only at hSw);go_simp;try with_reducible rfl
 (try simp only [Act.put,List.getElem_toArray,List.getElem_cons_succ,List.getElem_cons_zero,List.setIfInBounds_toArray,List.set_cons_zero,List.set_cons_succ])
 refine wpAnyH_ready (rs:=[7]) (by kernel_rfl) (by simp) ?_
 refine AllReadyH.cons rfl (λK hK=> ?_) AllReadyH.nil
 go_simp
 go_at_call 128
 with_reducible refine cE.mono ?_
 intro e w4 hq
 have hF4:=HX.out.drew.ends (s':=s) rfl hq
 unfold RsPost at hq
 obtain ⟨rfl,_,_⟩:=hq
 obtain ⟨p0,p1,p2,p3⟩:=hF4.dcell
 obtain ⟨v0,v1,v2,v3⟩:=hF4.rcell
 obtain ⟨x0,x1,x2,x3⟩:=hF4.rfrz
 have m0:=hF4.raw.cell0
 have ms:=SrAt.cell0 hF4.raw.seat
 rw [HG.out] at ms
 have HT:=Lib.hid hF4
 clear hF4
 go_wp2
 refine hK.out _ _ (⟨m0,p0,ms⟩) (λhHeld2=> ?_)
 clear hHeld K hK
 have hHeld:=hHeld2
 clear hHeld2
 (try simp only [Act.put,List.getElem_toArray,List.getElem_cons_succ,List.getElem_cons_zero,List.setIfInBounds_toArray,List.set_cons_zero,List.set_cons_succ])
 refine tk (i:=8) (v:= ?v8) rfl ?hy8 ?rest8
 case hy8=>intro w hSw;(try dsimp only at hSw);go_simp;try with_reducible rfl
 (try simp only [Act.put,List.getElem_toArray,List.getElem_cons_succ,List.getElem_cons_zero,List.setIfInBounds_toArray,List.set_cons_zero,List.set_cons_succ])
 refine tk (i:=9) (v:= ?v9) rfl ?hy9 ?rest9
 case hy9=>intro w hSw;(try dsimp only at hSw);go_simp;try with_reducible rfl
 (try simp only [Act.put,List.getElem_toArray,List.getElem_cons_succ,List.getElem_cons_zero,List.setIfInBounds_toArray,List.set_cons_zero,List.set_cons_succ])
 refine wpAnyH_take (i:=10) (v:=undef) rfl (by kernel_rfl) (by kernel_rfl) (by kernel_rfl) (λ_ _ _ h=>h) (Or.inr ⟨by rfl,rfl⟩) (by assumption) ?rest10
 (try simp only [Act.put,List.getElem_toArray,List.getElem_cons_succ,List.getElem_cons_zero,List.setIfInBounds_toArray,List.set_cons_zero,List.set_cons_succ])
 refine wpAnyH_take (i:=11) (v:=undef) rfl (by kernel_rfl) (by kernel_rfl) (by kernel_rfl) (λ_ _ _ h=>h) (Or.inr ⟨by rfl,rfl⟩) (by assumption) ?rest11
 (try simp only [Act.put,List.getElem_toArray,List.getElem_cons_succ,List.getElem_cons_zero,List.setIfInBounds_toArray,List.set_cons_zero,List.set_cons_succ])
 refine wpAnyH_take (i:=12) (v:=undef) rfl (by kernel_rfl) (by kernel_rfl) (by kernel_rfl) (λ_ _ _ h=>h) (Or.inr ⟨by rfl,rfl⟩) (by assumption) ?rest12
 (try simp only [Act.put,List.getElem_toArray,List.getElem_cons_succ,List.getElem_cons_zero,List.setIfInBounds_toArray,List.set_cons_zero,List.set_cons_succ])
 refine wpAnyH_take (i:=13) (v:=undef) rfl (by kernel_rfl) (by kernel_rfl) (by kernel_rfl) (λ_ _ _ h=>h) (Or.inr ⟨by rfl,rfl⟩) (by assumption) ?rest13
 (try simp only [Act.put,List.getElem_toArray,List.getElem_cons_succ,List.getElem_cons_zero,List.setIfInBounds_toArray,List.set_cons_zero,List.set_cons_succ])
 refine wpAnyH_take (i:=14) (v:=undef) rfl (by kernel_rfl) (by kernel_rfl) (by kernel_rfl) (λ_ _ _ h=>h) (Or.inr ⟨by rfl,rfl⟩) (by assumption) ?rest14
 (try simp only [Act.put,List.getElem_toArray,List.getElem_cons_succ,List.getElem_cons_zero,List.setIfInBounds_toArray,List.set_cons_zero,List.set_cons_succ])
 refine wpAnyH_take (i:=15) (v:=undef) rfl (by kernel_rfl) (by kernel_rfl) (by kernel_rfl) (λ_ _ _ h=>h) (Or.inr ⟨by rfl,rfl⟩) (by assumption) ?rest15
 (try simp only [Act.put,List.getElem_toArray,List.getElem_cons_succ,List.getElem_cons_zero,List.setIfInBounds_toArray,List.set_cons_zero,List.set_cons_succ])
 refine wpAnyH_take (i:=16) (v:=undef) rfl (by kernel_rfl) (by kernel_rfl) (by kernel_rfl) (λ_ _ _ h=>h) (Or.inr ⟨by rfl,rfl⟩) (by assumption) ?rest16
 (try simp only [Act.put,List.getElem_toArray,List.getElem_cons_succ,List.getElem_cons_zero,List.setIfInBounds_toArray,List.set_cons_zero,List.set_cons_succ])
 refine wpAnyH_take (i:=17) (v:=undef) rfl (by kernel_rfl) (by kernel_rfl) (by kernel_rfl) (λ_ _ _ h=>h) (Or.inr ⟨by rfl,rfl⟩) (by assumption) ?rest17
 (try simp only [Act.put,List.getElem_toArray,List.getElem_cons_succ,List.getElem_cons_zero,List.setIfInBounds_toArray,List.set_cons_zero,List.set_cons_succ])
 refine wpAnyH_take (i:=18) (v:=undef) rfl (by kernel_rfl) (by kernel_rfl) (by kernel_rfl) (λ_ _ _ h=>h) (Or.inr ⟨by rfl,rfl⟩) (by assumption) ?rest18
 (try simp only [Act.put,List.getElem_toArray,List.getElem_cons_succ,List.getElem_cons_zero,List.setIfInBounds_toArray,List.set_cons_zero,List.set_cons_succ])
 refine wpAnyH_take (i:=19) (v:=undef) rfl (by kernel_rfl) (by kernel_rfl) (by kernel_rfl) (λ_ _ _ h=>h) (Or.inr ⟨by rfl,rfl⟩) (by assumption) ?rest19
 (try simp only [Act.put,List.getElem_toArray,List.getElem_cons_succ,List.getElem_cons_zero,List.setIfInBounds_toArray,List.set_cons_zero,List.set_cons_succ])
 refine wpAnyH_take (i:=20) (v:=undef) rfl (by kernel_rfl) (by kernel_rfl) (by kernel_rfl) (λ_ _ _ h=>h) (Or.inr ⟨by rfl,rfl⟩) (by assumption) ?rest20
 (try simp only [Act.put,List.getElem_toArray,List.getElem_cons_succ,List.getElem_cons_zero,List.setIfInBounds_toArray,List.set_cons_zero,List.set_cons_succ])
 refine tk (i:=21) (v:= ?v21) rfl ?hy21 ?rest21
 case hy21=>intro w hSw;(try dsimp only at hSw);go_simp;try with_reducible rfl
 (try simp only [Act.put,List.getElem_toArray,List.getElem_cons_succ,List.getElem_cons_zero,List.setIfInBounds_toArray,List.set_cons_zero,List.set_cons_succ])
 refine wpAnyH_done (by kernel_rfl) ?_ _
 refine NoPanic.normal ?_
 go_wp2
 refine bodyPost_ret (v:=Dd.rval ⟨0,true,false,false⟩) (results_cell_row rfl _ _ w.heap.size 136 _ (0,0) _ rfl (set4 HT.out.res rfl _ _ _ _) underlying136 rfl i_rid) rfl HT.out.told
open _root_.Go.Proofs.Tryz
theorem SrAt.at_g {w:World} {r:Nat} {hv dv:Value} {n m g cap:Nat} {xs ys:List Int} {timed probed:Bool} (h:SrAt w r hv dv n m xs ys timed probed) (e:hv= .slice (some ⟨g,0,none⟩) n cap) (hn:0<n) {k:Nat} {x:Int} (hx:xs[k]? =some x):w.cell? ⟨g,k,none⟩=some (.int .i64 x):=by
 obtain ⟨g',cap',e',hg⟩:=SrAt.stV h hn
 rw [e] at e'
 obtain ⟨rfl,_⟩:g=g'∧cap=cap':=by simpa using e'
 exact (hg k x hx).1
theorem ml_grant {w:World} {M:Mp} {bk:Nat} {so:Option Addr} {cap:Nat} {dv:Value} {s:SS} {p:Nat→Bool} {mi:Nat→Int} {ps:PSta} (h:MsIn w M bk so cap dv s p mi ps) (k:Nat) (hk:k<s.n) (u x:Int) (s1:s.st k=1) (hp:p k=true) (he:tellS ps u 1 (M.a+1)=mi k):
  Calls prog 133 #[.pointer (some ⟨M.r,0,none⟩),.pointer (some ⟨M.pr,0,none⟩),.int .i64 (k:Int),.int .i64 u,.int .i64 x] w (MsPost w M bk dv (s.set k 2 0) p mi (doS ps u 1 (M.a+1) 0 0) ⟨1,false,false,false⟩):=by
 obtain ⟨hF,hR⟩:=h.start
 have n1:=h.n1
 have n2:=h.n2
 obtain ⟨g,cg,hgv,hg⟩:=SrAt.stV hF.raw.seat (by omega)
 have b2:=(h.raw.after ((Wr.refl Nil w).alloc (.cells #[.int .i64 0,.int .i64 0,.int .i64 0,.int .i64 0] 136))).cell2
 have c0:=hF.raw.cell0
 have c1:=hF.raw.cell1
 have c2:=hF.raw.cell2
 have c3:=hF.raw.cell3
 have cs:=SrAt.cell0 hF.raw.seat
 rw [hgv] at cs
 have ct:=(hg k _ (stL_at s hk)).1
 have cp:=hF.raw.pcC hk
 have cm:=hF.raw.miC hk
 have zp:=hF.raw.pcZ k
 have zm:=hF.raw.miZ k
 have i0:(0:Int)≤(k:Int):=by omega
 have i1:(k:Int)<s.n:=by omega
 have i2:¬ (k:Int)<0:=by omega
 have i3:¬ (s.n:Int)≤(k:Int):=by omega
 have bsz:M.base≤((w.alloc (.cells #[.int .i64 0,.int .i64 0,.int .i64 0,.int .i64 0] 136)).alloc (.cells #[.int .i64 0,.int .i64 0,.int .i64 0,.int .i64 0] 136)).drew.heap.size:=Nat.le_trans hF.bw (((Wr.refl Nil w).alloc _).alloc _).drew.size
 have a0:=h.ha.1
 have a1:=h.ha.2
 have hwa:IntKind.i64.wrap (M.a+1)=M.a+1:=by rw [IntKind.wrap_i64];omega
 have cA:=ra_load (hR.after ((Wr.refl Nil _).drew) λ_ _=>id) u (M.a+1) h.hD h.hws h.hac bsz
 have HEE:=Lib.hid (end_some (s:=s) (ev:=1) (y:=2) hk (by rw [s1];rfl))
 have HGV:Hid (∀ W,SrAt W M.sr M.hv M.dv s.n s.n (stL (s.set k 2 0)) (dlL (s.set k 2 0)) s.timed s.probed→W.cell? ⟨g,k,none⟩=some (.int .i64 2)):=Lib.hid λW hW=>SrAt.at_g hW hgv (by omega) (by rw [stL_at _ (show k<(s.set k 2 0).n from hk)];show some (upd s.st k 2 k)=_;rw [upd_same])
 have bq:(tellS ps u 1 (M.a+1)==mi k)=true:=by simpa using he
 have he2:=Lib.hid he
 clear he
 rw [s1] at ct
 rw [hp] at cp
 have HE:=Lib.hid (And.intro h (And.intro hF hk))
 have HG:=Lib.hid hgv
 obtain ⟨Z,hZ⟩:∃ Z,Z=(w.alloc (.cells #[.int .i64 0,.int .i64 0,.int .i64 0,.int .i64 0] 136)).alloc (.cells #[.int .i64 0,.int .i64 0,.int .i64 0,.int .i64 0] 136):=⟨_,rfl⟩
 have HZ:=Lib.hid hZ
 rw [←hZ] at HE cA
 clear hZ
 clear hF hR h hg hgv s1
 go_enter func133,ntmps133
 go_wp2
 rw [←HZ.out]
 rw [←HZ.out] at c1 c3 cm
 clear c0 c2 cs ct cp zm zp
 go_region_held3 (λw'=>w'.cell? ⟨M.r,1,none⟩=some (.int .i64 M.a)∧w'.cell? ⟨M.r,3,none⟩=some (.slice (some ⟨M.mn,0,none⟩) s.n s.n)∧w'.cell? ⟨M.mn,k,none⟩=some (.int .u32 (mi k))) (first|exact ⟨c1,c3,cm⟩|exact ⟨d1,d3,y0⟩) (first|(go_at_call 131;(with_reducible refine cA.mono ?_);intro e w2 hq;unfold RaPost at hq;obtain ⟨rfl,hRS,hW⟩:=hq;have hA:=HE.out.2.1.drew.port hRS hW;have d1:=hA.raw.cell1;have d3:=hA.raw.cell3;have y0:=hA.raw.miC HE.out.2.2;have k0:=hA.dcell.1;have kz:=blk_frozen hA.did 0;have HC:=Lib.hid hA;clear hA hRS hW))
 go_wp2
 obtain ⟨X,hX⟩:∃ X,X=w2.setCell ⟨w.heap.size+1,0,none⟩ (.int .i64 1):=⟨_,rfl⟩
 have hFX:Fm w X M bk dv s p mi (doS ps u 1 (M.a+1) 0 0) w.heap.size (w.heap.size+1) ⟨1,false,false,false⟩:=by rw [hX];exact HC.out.setD 0 (.int .i64 1) ⟨1,false,false,false⟩ rfl
 rw [←hX]
 clear hX
 have n0:=hFX.drew.raw.cell0
 have nd0:=hFX.drew.dcell.1
 have ns:=SrAt.cell0 hFX.drew.raw.seat
 rw [HG.out] at ns
 have cE:=rs_end hFX.drew.raw.seat n1 n2 (k:Int) 1
 rw [HEE.out.1,HEE.out.2] at cE
 have HX:=Lib.hid hFX
 clear hFX
 refine wp_region_noPanic ?_
 refine wp_region_held_drew (S:=λW=>W.cell? ⟨M.r,0,none⟩=some (.pointer (some ⟨M.sr,0,none⟩))∧W.cell? ⟨w.heap.size+1,0,none⟩=some (.int .i64 1)∧W.cell? ⟨M.sr,0,none⟩=some (.slice (some ⟨g,0,none⟩) s.n cg)) (by kernel_rfl) ⟨n0,nd0,ns⟩ (λhHeld=> ?_)
 refine tk (i:=0) (v:= ?v1) rfl ?hy1 ?rest1
 case hy1=>intro w hSw;(try dsimp only at hSw);go_simp;try with_reducible rfl
 (try simp only [Act.put,List.getElem_toArray,List.getElem_cons_zero,List.setIfInBounds_toArray,List.set_cons_zero,List.set_cons_succ])
 refine tk (i:=1) (v:= ?v2) rfl ?hy2 ?rest2
 case hy2=>intro w hSw;(try dsimp only at hSw);go_simp;try with_reducible rfl
 (try simp only [Act.put,List.getElem_toArray,List.getElem_cons_succ,List.getElem_cons_zero,List.setIfInBounds_toArray,List.set_cons_zero,List.set_cons_succ])
 refine tk (i:=2) (v:= ?v3) rfl ?hy3 ?rest3
 case hy3=>intro w hSw;(try dsimp only at hSw);go_simp;try with_reducible rfl
 (try simp only [Act.put,List.getElem_toArray,List.getElem_cons_succ,List.getElem_cons_zero,List.setIfInBounds_toArray,List.set_cons_zero,List.set_cons_succ])
 refine tk (i:=3) (v:= ?v4) rfl ?hy4 ?rest4
 case hy4=>intro w hSw;(try dsimp only at hSw);go_simp;try with_reducible rfl
 (try simp only [Act.put,List.getElem_toArray,List.getElem_cons_succ,List.getElem_cons_zero,List.setIfInBounds_toArray,List.set_cons_zero,List.set_cons_succ])
 refine tk (i:=4) (v:= ?v5) rfl ?hy5 ?rest5
 case hy5=>intro w hSw;(try dsimp only at hSw);go_simp;try with_reducible rfl
 (try simp only [Act.put,List.getElem_toArray,List.getElem_cons_succ,List.getElem_cons_zero,List.setIfInBounds_toArray,List.set_cons_zero,List.set_cons_succ])
 refine tk (i:=5) (v:= ?v6) rfl ?hy6 ?rest6
 case hy6=>intro w hSw;(try dsimp only at hSw);go_simp;try with_reducible rfl
 (try simp only [Act.put,List.getElem_toArray,List.getElem_cons_succ,List.getElem_cons_zero,List.setIfInBounds_toArray,List.set_cons_zero,List.set_cons_succ])
 refine tk (i:=6) (v:= ?v7) rfl ?hy7 ?rest7
 case hy7=>intro w hSw;(try dsimp only at hSw);go_simp;try with_reducible rfl
 (try simp only [Act.put,List.getElem_toArray,List.getElem_cons_succ,List.getElem_cons_zero,List.setIfInBounds_toArray,List.set_cons_zero,List.set_cons_succ])
 refine wpAnyH_ready (rs:=[7]) (by kernel_rfl) (by simp) ?_
 refine AllReadyH.cons rfl (λK hK=> ?_) AllReadyH.nil
 go_simp
 go_at_call 128
 with_reducible refine cE.mono ?_
 intro e w4 hq
 have hF4:=HX.out.drew.ends (s':=s.set k 2 0) rfl hq
 unfold RsPost at hq
 obtain ⟨rfl,_,_⟩:=hq
 obtain ⟨p0,p1,p2,p3⟩:=hF4.dcell
 obtain ⟨v0,v1,v2,v3⟩:=hF4.rcell
 obtain ⟨x0,x1,x2,x3⟩:=hF4.rfrz
 have m0:=hF4.raw.cell0
 have ms:=SrAt.cell0 hF4.raw.seat
 rw [HG.out] at ms
 have m2:w4.cell? ⟨M.r,2,none⟩=some (.slice (some ⟨M.pc,0,none⟩) s.n s.n):=hF4.raw.cell2
 have mp:=hF4.raw.pcC HE.out.2.2
 have mz:=hF4.raw.pcZ k
 have mt:=HGV.out _ hF4.raw.seat
 have HT:=Lib.hid hF4
 clear hF4
 go_wp2
 refine hK.out _ _ (⟨m0,p0,ms⟩) (λhHeld2=> ?_)
 clear hHeld K hK
 have hHeld:=hHeld2
 clear hHeld2
 (try simp only [Act.put,List.getElem_toArray,List.getElem_cons_succ,List.getElem_cons_zero,List.setIfInBounds_toArray,List.set_cons_zero,List.set_cons_succ])
 refine tk (i:=8) (v:= ?v8) rfl ?hy8 ?rest8
 case hy8=>intro w hSw;(try dsimp only at hSw);go_simp;try with_reducible rfl
 (try simp only [Act.put,List.getElem_toArray,List.getElem_cons_succ,List.getElem_cons_zero,List.setIfInBounds_toArray,List.set_cons_zero,List.set_cons_succ])
 refine tk (i:=9) (v:= ?v9) rfl ?hy9 ?rest9
 case hy9=>intro w hSw;(try dsimp only at hSw);go_simp;try with_reducible rfl
 (try simp only [Act.put,List.getElem_toArray,List.getElem_cons_succ,List.getElem_cons_zero,List.setIfInBounds_toArray,List.set_cons_zero,List.set_cons_succ])
 refine tk (i:=10) (v:= ?v10) rfl ?hy10 ?rest10
 case hy10=>intro w hSw;(try dsimp only at hSw);go_simp;try with_reducible rfl
 (try simp only [Act.put,List.getElem_toArray,List.getElem_cons_succ,List.getElem_cons_zero,List.setIfInBounds_toArray,List.set_cons_zero,List.set_cons_succ])
 refine tk (i:=11) (v:= ?v11) rfl ?hy11 ?rest11
 case hy11=>intro w hSw;(try dsimp only at hSw);go_simp;try with_reducible rfl
 (try simp only [Act.put,List.getElem_toArray,List.getElem_cons_succ,List.getElem_cons_zero,List.setIfInBounds_toArray,List.set_cons_zero,List.set_cons_succ])
 refine tk (i:=12) (v:= ?v12) rfl ?hy12 ?rest12
 case hy12=>intro w hSw;(try dsimp only at hSw);go_simp;try with_reducible rfl
 (try simp only [Act.put,List.getElem_toArray,List.getElem_cons_succ,List.getElem_cons_zero,List.setIfInBounds_toArray,List.set_cons_zero,List.set_cons_succ])
 refine tk (i:=13) (v:= ?v13) rfl ?hy13 ?rest13
 case hy13=>intro w hSw;(try dsimp only at hSw);go_simp;try with_reducible rfl
 (try simp only [Act.put,List.getElem_toArray,List.getElem_cons_succ,List.getElem_cons_zero,List.setIfInBounds_toArray,List.set_cons_zero,List.set_cons_succ])
 refine tk (i:=14) (v:= ?v14) rfl ?hy14 ?rest14
 case hy14=>intro w hSw;(try dsimp only at hSw);go_simp;try with_reducible rfl
 (try simp only [Act.put,List.getElem_toArray,List.getElem_cons_succ,List.getElem_cons_zero,List.setIfInBounds_toArray,List.set_cons_zero,List.set_cons_succ])
 refine tk (i:=15) (v:= ?v15) rfl ?hy15 ?rest15
 case hy15=>intro w hSw;(try dsimp only at hSw);go_simp;try with_reducible rfl
 (try simp only [Act.put,List.getElem_toArray,List.getElem_cons_succ,List.getElem_cons_zero,List.setIfInBounds_toArray,List.set_cons_zero,List.set_cons_succ])
 refine tk (i:=16) (v:= ?v16) rfl ?hy16 ?rest16
 case hy16=>intro w hSw;(try dsimp only at hSw);go_simp;try with_reducible rfl
 (try simp only [Act.put,List.getElem_toArray,List.getElem_cons_succ,List.getElem_cons_zero,List.setIfInBounds_toArray,List.set_cons_zero,List.set_cons_succ])
 refine tk (i:=17) (v:= ?v17) rfl ?hy17 ?rest17
 case hy17=>intro w hSw;(try dsimp only at hSw);go_simp;try with_reducible rfl
 (try simp only [Act.put,List.getElem_toArray,List.getElem_cons_succ,List.getElem_cons_zero,List.setIfInBounds_toArray,List.set_cons_zero,List.set_cons_succ])
 refine tk (i:=18) (v:= ?v18) rfl ?hy18 ?rest18
 case hy18=>intro w hSw;(try dsimp only at hSw);go_simp;try with_reducible rfl
 (try simp only [Act.put,List.getElem_toArray,List.getElem_cons_succ,List.getElem_cons_zero,List.setIfInBounds_toArray,List.set_cons_zero,List.set_cons_succ])
 refine wpAnyH_ready (rs:=[19]) (by kernel_rfl) (by simp) ?_
 refine AllReadyH.cons rfl (λK hK=> ?_) AllReadyH.nil
 go_simp
 refine hK.out _ _ (⟨m0,p0,ms⟩) (λhHeld2=> ?_)
 clear hHeld K hK
 have hHeld:=hHeld2
 clear hHeld2
 (try simp only [Act.put,List.getElem_toArray,List.getElem_cons_succ,List.getElem_cons_zero,List.setIfInBounds_toArray,List.set_cons_zero,List.set_cons_succ])
 refine tk (i:=20) (v:= ?v19) rfl ?hy19 ?rest19
 case hy19=>intro w hSw;(try dsimp only at hSw);go_simp;try with_reducible rfl
 (try simp only [Act.put,List.getElem_toArray,List.getElem_cons_succ,List.getElem_cons_zero,List.setIfInBounds_toArray,List.set_cons_zero,List.set_cons_succ])
 refine tk (i:=21) (v:= ?v20) rfl ?hy20 ?rest20
 case hy20=>intro w hSw;(try dsimp only at hSw);go_simp;try with_reducible rfl
 (try simp only [Act.put,List.getElem_toArray,List.getElem_cons_succ,List.getElem_cons_zero,List.setIfInBounds_toArray,List.set_cons_zero,List.set_cons_succ])
 refine wpAnyH_done (by kernel_rfl) ?_ _
 refine NoPanic.normal ?_
 go_wp2
 refine bodyPost_ret (v:=Dd.rval ⟨1,false,false,false⟩) (results_cell_row rfl _ _ w.heap.size 136 _ (0,0) _ rfl (set4 HT.out.res rfl _ _ _ _) underlying136 rfl i_rid) rfl HT.out.told
theorem ml_wait {w:World} {M:Mp} {bk:Nat} {so:Option Addr} {cap:Nat} {dv:Value} {s:SS} {p:Nat→Bool} {mi:Nat→Int} {ps:PSta} (h:MsIn w M bk so cap dv s p mi ps) (k:Nat) (hk:k<s.n) (u x:Int) (s1:s.st k=1) (hp:p k=true) (he:tellS ps u 1 (M.a+1)≠mi k):
  Calls prog 133 #[.pointer (some ⟨M.r,0,none⟩),.pointer (some ⟨M.pr,0,none⟩),.int .i64 (k:Int),.int .i64 u,.int .i64 x] w (MsPost w M bk dv s p mi (doS ps u 1 (M.a+1) 0 0) Dd.no):=by
 obtain ⟨hF,hR⟩:=h.start
 have n1:=h.n1
 have n2:=h.n2
 obtain ⟨g,cg,hgv,hg⟩:=SrAt.stV hF.raw.seat (by omega)
 have b2:=(h.raw.after ((Wr.refl Nil w).alloc (.cells #[.int .i64 0,.int .i64 0,.int .i64 0,.int .i64 0] 136))).cell2
 have c0:=hF.raw.cell0
 have c1:=hF.raw.cell1
 have c2:=hF.raw.cell2
 have c3:=hF.raw.cell3
 have cs:=SrAt.cell0 hF.raw.seat
 rw [hgv] at cs
 have ct:=(hg k _ (stL_at s hk)).1
 have cp:=hF.raw.pcC hk
 have cm:=hF.raw.miC hk
 have zp:=hF.raw.pcZ k
 have zm:=hF.raw.miZ k
 have i0:(0:Int)≤(k:Int):=by omega
 have i1:(k:Int)<s.n:=by omega
 have i2:¬ (k:Int)<0:=by omega
 have i3:¬ (s.n:Int)≤(k:Int):=by omega
 have bsz:M.base≤((w.alloc (.cells #[.int .i64 0,.int .i64 0,.int .i64 0,.int .i64 0] 136)).alloc (.cells #[.int .i64 0,.int .i64 0,.int .i64 0,.int .i64 0] 136)).drew.heap.size:=Nat.le_trans hF.bw (((Wr.refl Nil w).alloc _).alloc _).drew.size
 have a0:=h.ha.1
 have a1:=h.ha.2
 have hwa:IntKind.i64.wrap (M.a+1)=M.a+1:=by rw [IntKind.wrap_i64];omega
 have cA:=ra_load (hR.after ((Wr.refl Nil _).drew) λ_ _=>id) u (M.a+1) h.hD h.hws h.hac bsz
 have HEE:=Lib.hid (end_none (s:=s) (ev:=0) hk (by rw [s1];rfl))
 have bq:(tellS ps u 1 (M.a+1)==mi k)=false:=beq_false_of_ne he
 have he2:=Lib.hid he
 clear he
 rw [s1] at ct
 rw [hp] at cp
 have HE:=Lib.hid (And.intro h (And.intro hF hk))
 have HG:=Lib.hid hgv
 obtain ⟨Z,hZ⟩:∃ Z,Z=(w.alloc (.cells #[.int .i64 0,.int .i64 0,.int .i64 0,.int .i64 0] 136)).alloc (.cells #[.int .i64 0,.int .i64 0,.int .i64 0,.int .i64 0] 136):=⟨_,rfl⟩
 have HZ:=Lib.hid hZ
 rw [←hZ] at HE cA
 clear hZ
 clear hF hR h hg hgv s1
 go_enter func133,ntmps133
 go_wp2
 rw [←HZ.out]
 rw [←HZ.out] at c1 c3 cm
 clear c0 c2 cs ct cp zm zp
 go_region_held3 (λw'=>w'.cell? ⟨M.r,1,none⟩=some (.int .i64 M.a)∧w'.cell? ⟨M.r,3,none⟩=some (.slice (some ⟨M.mn,0,none⟩) s.n s.n)∧w'.cell? ⟨M.mn,k,none⟩=some (.int .u32 (mi k))) (first|exact ⟨c1,c3,cm⟩|exact ⟨d1,d3,y0⟩) (first|(go_at_call 131;(with_reducible refine cA.mono ?_);intro e w2 hq;unfold RaPost at hq;obtain ⟨rfl,hRS,hW⟩:=hq;have hA:=HE.out.2.1.drew.port hRS hW;have d1:=hA.raw.cell1;have d3:=hA.raw.cell3;have y0:=hA.raw.miC HE.out.2.2;have k0:=hA.dcell.1;have kz:=blk_frozen hA.did 0;have HC:=Lib.hid hA;clear hA hRS hW))
 go_wp2
 obtain ⟨X,hX⟩:∃ X,X=w2:=⟨_,rfl⟩
 have hFX:Fm w X M bk dv s p mi (doS ps u 1 (M.a+1) 0 0) w.heap.size (w.heap.size+1) Dd.no:=by rw [hX];exact HC.out
 rw [←hX]
 clear hX
 have n0:=hFX.drew.raw.cell0
 have nd0:=hFX.drew.dcell.1
 have ns:=SrAt.cell0 hFX.drew.raw.seat
 rw [HG.out] at ns
 have cE:=rs_end hFX.drew.raw.seat n1 n2 (k:Int) 0
 rw [HEE.out.1,HEE.out.2] at cE
 have HX:=Lib.hid hFX
 clear hFX
 refine wp_region_noPanic ?_
 refine wp_region_held_drew (S:=λW=>W.cell? ⟨M.r,0,none⟩=some (.pointer (some ⟨M.sr,0,none⟩))∧W.cell? ⟨w.heap.size+1,0,none⟩=some (.int .i64 0)∧W.cell? ⟨M.sr,0,none⟩=some (.slice (some ⟨g,0,none⟩) s.n cg)) (by kernel_rfl) ⟨n0,nd0,ns⟩ (λhHeld=> ?_)
 refine tk (i:=0) (v:= ?v1) rfl ?hy1 ?rest1
 case hy1=>intro w hSw;(try dsimp only at hSw);go_simp;try with_reducible rfl
 (try simp only [Act.put,List.getElem_toArray,List.getElem_cons_zero,List.setIfInBounds_toArray,List.set_cons_zero,List.set_cons_succ])
 refine tk (i:=1) (v:= ?v2) rfl ?hy2 ?rest2
 case hy2=>intro w hSw;(try dsimp only at hSw);go_simp;try with_reducible rfl
 (try simp only [Act.put,List.getElem_toArray,List.getElem_cons_succ,List.getElem_cons_zero,List.setIfInBounds_toArray,List.set_cons_zero,List.set_cons_succ])
 refine tk (i:=2) (v:= ?v3) rfl ?hy3 ?rest3
 case hy3=>intro w hSw;(try dsimp only at hSw);go_simp;try with_reducible rfl
 (try simp only [Act.put,List.getElem_toArray,List.getElem_cons_succ,List.getElem_cons_zero,List.setIfInBounds_toArray,List.set_cons_zero,List.set_cons_succ])
 refine tk (i:=3) (v:= ?v4) rfl ?hy4 ?rest4
 case hy4=>intro w hSw;(try dsimp only at hSw);go_simp;try with_reducible rfl
 (try simp only [Act.put,List.getElem_toArray,List.getElem_cons_succ,List.getElem_cons_zero,List.setIfInBounds_toArray,List.set_cons_zero,List.set_cons_succ])
 refine tk (i:=4) (v:= ?v5) rfl ?hy5 ?rest5
 case hy5=>intro w hSw;(try dsimp only at hSw);go_simp;try with_reducible rfl
 (try simp only [Act.put,List.getElem_toArray,List.getElem_cons_succ,List.getElem_cons_zero,List.setIfInBounds_toArray,List.set_cons_zero,List.set_cons_succ])
 refine tk (i:=5) (v:= ?v6) rfl ?hy6 ?rest6
 case hy6=>intro w hSw;(try dsimp only at hSw);go_simp;try with_reducible rfl
 (try simp only [Act.put,List.getElem_toArray,List.getElem_cons_succ,List.getElem_cons_zero,List.setIfInBounds_toArray,List.set_cons_zero,List.set_cons_succ])
 refine tk (i:=6) (v:= ?v7) rfl ?hy7 ?rest7
 case hy7=>intro w hSw;(try dsimp only at hSw);go_simp;try with_reducible rfl
 (try simp only [Act.put,List.getElem_toArray,List.getElem_cons_succ,List.getElem_cons_zero,List.setIfInBounds_toArray,List.set_cons_zero,List.set_cons_succ])
 refine wpAnyH_ready (rs:=[7]) (by kernel_rfl) (by simp) ?_
 refine AllReadyH.cons rfl (λK hK=> ?_) AllReadyH.nil
 go_simp
 go_at_call 128
 with_reducible refine cE.mono ?_
 intro e w4 hq
 have hF4:=HX.out.drew.ends (s':=s) rfl hq
 unfold RsPost at hq
 obtain ⟨rfl,_,_⟩:=hq
 obtain ⟨p0,p1,p2,p3⟩:=hF4.dcell
 obtain ⟨v0,v1,v2,v3⟩:=hF4.rcell
 obtain ⟨x0,x1,x2,x3⟩:=hF4.rfrz
 have m0:=hF4.raw.cell0
 have ms:=SrAt.cell0 hF4.raw.seat
 rw [HG.out] at ms
 have HT:=Lib.hid hF4
 clear hF4
 go_wp2
 refine hK.out _ _ (⟨m0,p0,ms⟩) (λhHeld2=> ?_)
 clear hHeld K hK
 have hHeld:=hHeld2
 clear hHeld2
 (try simp only [Act.put,List.getElem_toArray,List.getElem_cons_succ,List.getElem_cons_zero,List.setIfInBounds_toArray,List.set_cons_zero,List.set_cons_succ])
 refine tk (i:=8) (v:= ?v8) rfl ?hy8 ?rest8
 case hy8=>intro w hSw;(try dsimp only at hSw);go_simp;try with_reducible rfl
 (try simp only [Act.put,List.getElem_toArray,List.getElem_cons_succ,List.getElem_cons_zero,List.setIfInBounds_toArray,List.set_cons_zero,List.set_cons_succ])
 refine tk (i:=9) (v:= ?v9) rfl ?hy9 ?rest9
 case hy9=>intro w hSw;(try dsimp only at hSw);go_simp;try with_reducible rfl
 (try simp only [Act.put,List.getElem_toArray,List.getElem_cons_succ,List.getElem_cons_zero,List.setIfInBounds_toArray,List.set_cons_zero,List.set_cons_succ])
 refine wpAnyH_take (i:=10) (v:=undef) rfl (by kernel_rfl) (by kernel_rfl) (by kernel_rfl) (λ_ _ _ h=>h) (Or.inr ⟨by rfl,rfl⟩) (by assumption) ?rest10
 (try simp only [Act.put,List.getElem_toArray,List.getElem_cons_succ,List.getElem_cons_zero,List.setIfInBounds_toArray,List.set_cons_zero,List.set_cons_succ])
 refine wpAnyH_take (i:=11) (v:=undef) rfl (by kernel_rfl) (by kernel_rfl) (by kernel_rfl) (λ_ _ _ h=>h) (Or.inr ⟨by rfl,rfl⟩) (by assumption) ?rest11
 (try simp only [Act.put,List.getElem_toArray,List.getElem_cons_succ,List.getElem_cons_zero,List.setIfInBounds_toArray,List.set_cons_zero,List.set_cons_succ])
 refine wpAnyH_take (i:=12) (v:=undef) rfl (by kernel_rfl) (by kernel_rfl) (by kernel_rfl) (λ_ _ _ h=>h) (Or.inr ⟨by rfl,rfl⟩) (by assumption) ?rest12
 (try simp only [Act.put,List.getElem_toArray,List.getElem_cons_succ,List.getElem_cons_zero,List.setIfInBounds_toArray,List.set_cons_zero,List.set_cons_succ])
 refine wpAnyH_take (i:=13) (v:=undef) rfl (by kernel_rfl) (by kernel_rfl) (by kernel_rfl) (λ_ _ _ h=>h) (Or.inr ⟨by rfl,rfl⟩) (by assumption) ?rest13
 (try simp only [Act.put,List.getElem_toArray,List.getElem_cons_succ,List.getElem_cons_zero,List.setIfInBounds_toArray,List.set_cons_zero,List.set_cons_succ])
 refine wpAnyH_take (i:=14) (v:=undef) rfl (by kernel_rfl) (by kernel_rfl) (by kernel_rfl) (λ_ _ _ h=>h) (Or.inr ⟨by rfl,rfl⟩) (by assumption) ?rest14
 (try simp only [Act.put,List.getElem_toArray,List.getElem_cons_succ,List.getElem_cons_zero,List.setIfInBounds_toArray,List.set_cons_zero,List.set_cons_succ])
 refine wpAnyH_take (i:=15) (v:=undef) rfl (by kernel_rfl) (by kernel_rfl) (by kernel_rfl) (λ_ _ _ h=>h) (Or.inr ⟨by rfl,rfl⟩) (by assumption) ?rest15
 (try simp only [Act.put,List.getElem_toArray,List.getElem_cons_succ,List.getElem_cons_zero,List.setIfInBounds_toArray,List.set_cons_zero,List.set_cons_succ])
 refine wpAnyH_take (i:=16) (v:=undef) rfl (by kernel_rfl) (by kernel_rfl) (by kernel_rfl) (λ_ _ _ h=>h) (Or.inr ⟨by rfl,rfl⟩) (by assumption) ?rest16
 (try simp only [Act.put,List.getElem_toArray,List.getElem_cons_succ,List.getElem_cons_zero,List.setIfInBounds_toArray,List.set_cons_zero,List.set_cons_succ])
 refine wpAnyH_take (i:=17) (v:=undef) rfl (by kernel_rfl) (by kernel_rfl) (by kernel_rfl) (λ_ _ _ h=>h) (Or.inr ⟨by rfl,rfl⟩) (by assumption) ?rest17
 (try simp only [Act.put,List.getElem_toArray,List.getElem_cons_succ,List.getElem_cons_zero,List.setIfInBounds_toArray,List.set_cons_zero,List.set_cons_succ])
 refine wpAnyH_take (i:=18) (v:=undef) rfl (by kernel_rfl) (by kernel_rfl) (by kernel_rfl) (λ_ _ _ h=>h) (Or.inr ⟨by rfl,rfl⟩) (by assumption) ?rest18
 (try simp only [Act.put,List.getElem_toArray,List.getElem_cons_succ,List.getElem_cons_zero,List.setIfInBounds_toArray,List.set_cons_zero,List.set_cons_succ])
 refine wpAnyH_take (i:=19) (v:=undef) rfl (by kernel_rfl) (by kernel_rfl) (by kernel_rfl) (λ_ _ _ h=>h) (Or.inr ⟨by rfl,rfl⟩) (by assumption) ?rest19
 (try simp only [Act.put,List.getElem_toArray,List.getElem_cons_succ,List.getElem_cons_zero,List.setIfInBounds_toArray,List.set_cons_zero,List.set_cons_succ])
 refine wpAnyH_take (i:=20) (v:=undef) rfl (by kernel_rfl) (by kernel_rfl) (by kernel_rfl) (λ_ _ _ h=>h) (Or.inr ⟨by rfl,rfl⟩) (by assumption) ?rest20
 (try simp only [Act.put,List.getElem_toArray,List.getElem_cons_succ,List.getElem_cons_zero,List.setIfInBounds_toArray,List.set_cons_zero,List.set_cons_succ])
 refine tk (i:=21) (v:= ?v21) rfl ?hy21 ?rest21
 case hy21=>intro w hSw;(try dsimp only at hSw);go_simp;try with_reducible rfl
 (try simp only [Act.put,List.getElem_toArray,List.getElem_cons_succ,List.getElem_cons_zero,List.setIfInBounds_toArray,List.set_cons_zero,List.set_cons_succ])
 refine wpAnyH_done (by kernel_rfl) ?_ _
 refine NoPanic.normal ?_
 go_wp2
 refine bodyPost_ret (v:=Dd.rval Dd.no) (results_cell_row rfl _ _ w.heap.size 136 _ (0,0) _ rfl (set4 HT.out.res rfl _ _ _ _) underlying136 rfl i_rid) rfl HT.out.told
theorem ml_free {w:World} {M:Mp} {bk:Nat} {so:Option Addr} {cap:Nat} {dv:Value} {s:SS} {p:Nat→Bool} {mi:Nat→Int} {ps:PSta} (h:MsIn w M bk so cap dv s p mi ps) (k:Nat) (hk:k<s.n) (u x:Int) (s3:s.st k=3) (hm:∀ j,0≤mi j∧mi j<4294967296):
  Calls prog 133 #[.pointer (some ⟨M.r,0,none⟩),.pointer (some ⟨M.pr,0,none⟩),.int .i64 (k:Int),.int .i64 u,.int .i64 x] w (MsPost w M bk dv (s.set k 0 0) (upd p k false) mi (doS ps u 2 (M.a+1) 0 ((mi k+1)%4294967296)) ⟨3,false,false,false⟩):=by
 obtain ⟨hF,hR⟩:=h.start
 have n1:=h.n1
 have n2:=h.n2
 obtain ⟨g,cg,hgv,hg⟩:=SrAt.stV hF.raw.seat (by omega)
 have b2:=(h.raw.after ((Wr.refl Nil w).alloc (.cells #[.int .i64 0,.int .i64 0,.int .i64 0,.int .i64 0] 136))).cell2
 have c0:=hF.raw.cell0
 have c1:=hF.raw.cell1
 have c2:=hF.raw.cell2
 have c3:=hF.raw.cell3
 have cs:=SrAt.cell0 hF.raw.seat
 rw [hgv] at cs
 have ct:=(hg k _ (stL_at s hk)).1
 have cp:=hF.raw.pcC hk
 have cm:=hF.raw.miC hk
 have zp:=hF.raw.pcZ k
 have zm:=hF.raw.miZ k
 have i0:(0:Int)≤(k:Int):=by omega
 have i1:(k:Int)<s.n:=by omega
 have i2:¬ (k:Int)<0:=by omega
 have i3:¬ (s.n:Int)≤(k:Int):=by omega
 have bsz:M.base≤((w.alloc (.cells #[.int .i64 0,.int .i64 0,.int .i64 0,.int .i64 0] 136)).alloc (.cells #[.int .i64 0,.int .i64 0,.int .i64 0,.int .i64 0] 136)).drew.heap.size:=Nat.le_trans hF.bw (((Wr.refl Nil w).alloc _).alloc _).drew.size
 have a0:=h.ha.1
 have a1:=h.ha.2
 have hwa:IntKind.i64.wrap (M.a+1)=M.a+1:=by rw [IntKind.wrap_i64];omega
 obtain ⟨m,hmm⟩:∃ m,m=(mi k+1)%4294967296:=⟨_,rfl⟩
 have ew:IntKind.u32.wrap (mi k+1)=m:=by rw [hmm];rfl
 have hm1:0≤m∧m<4294967296:=by omega
 rw [←hmm]
 have cA:=ra_store (hR.after ((Wr.refl Nil _).drew) λ_ _=>id) u (M.a+1) m hm1.1 hm1.2 h.hD h.hws h.hac bsz
 have HEE:=Lib.hid (end_some (s:=s) (ev:=3) (y:=0) hk (by rw [s3];rfl))
 have HGV:Hid (∀ W,SrAt W M.sr M.hv M.dv s.n s.n (stL (s.set k 0 0)) (dlL (s.set k 0 0)) s.timed s.probed→W.cell? ⟨g,k,none⟩=some (.int .i64 0)):=Lib.hid λW hW=>SrAt.at_g hW hgv (by omega) (by rw [stL_at _ (show k<(s.set k 0 0).n from hk)];show some (upd s.st k 0 k)=_;rw [upd_same])
 rw [s3] at ct
 have HE:=Lib.hid (And.intro h (And.intro hF hk))
 have HG:=Lib.hid hgv
 obtain ⟨Z,hZ⟩:∃ Z,Z=(w.alloc (.cells #[.int .i64 0,.int .i64 0,.int .i64 0,.int .i64 0] 136)).alloc (.cells #[.int .i64 0,.int .i64 0,.int .i64 0,.int .i64 0] 136):=⟨_,rfl⟩
 have HZ:=Lib.hid hZ
 rw [←hZ] at HE cA
 clear hZ
 clear hF hR h hg hgv s3 hmm hm1 hm
 go_enter func133,ntmps133
 go_wp2
 rw [←HZ.out]
 rw [←HZ.out] at c1 c3 cm
 clear c0 c2 cs ct cp zm zp
 go_region_held3 (λw'=>w'.cell? ⟨M.r,1,none⟩=some (.int .i64 M.a)∧w'.cell? ⟨M.r,3,none⟩=some (.slice (some ⟨M.mn,0,none⟩) s.n s.n)∧w'.cell? ⟨M.mn,k,none⟩=some (.int .u32 (mi k))) (first|exact ⟨c1,c3,cm⟩|exact ⟨d1,d3,y0⟩) (first|(go_at_call 132;(with_reducible refine cA.mono ?_);intro e w2 hq;unfold RaPost at hq;obtain ⟨rfl,hRS,hW⟩:=hq;have hA:=HE.out.2.1.drew.port hRS hW;have d1:=hA.raw.cell1;have d3:=hA.raw.cell3;have y0:=hA.raw.miC HE.out.2.2;have k0:=hA.dcell.1;have kz:=blk_frozen hA.did 0;have HC:=Lib.hid hA;clear hA hRS hW))
 go_wp2
 obtain ⟨X,hX⟩:∃ X,X=w2.setCell ⟨w.heap.size+1,0,none⟩ (.int .i64 3):=⟨_,rfl⟩
 have hFX:Fm w X M bk dv s p mi (doS ps u 2 (M.a+1) 0 m) w.heap.size (w.heap.size+1) ⟨3,false,false,false⟩:=by rw [hX];exact HC.out.setD 0 (.int .i64 3) ⟨3,false,false,false⟩ rfl
 rw [←hX]
 clear hX
 have n0:=hFX.drew.raw.cell0
 have nd0:=hFX.drew.dcell.1
 have ns:=SrAt.cell0 hFX.drew.raw.seat
 rw [HG.out] at ns
 have cE:=rs_end hFX.drew.raw.seat n1 n2 (k:Int) 3
 rw [HEE.out.1,HEE.out.2] at cE
 have HX:=Lib.hid hFX
 clear hFX
 refine wp_region_noPanic ?_
 refine wp_region_held_drew (S:=λW=>W.cell? ⟨M.r,0,none⟩=some (.pointer (some ⟨M.sr,0,none⟩))∧W.cell? ⟨w.heap.size+1,0,none⟩=some (.int .i64 3)∧W.cell? ⟨M.sr,0,none⟩=some (.slice (some ⟨g,0,none⟩) s.n cg)) (by kernel_rfl) ⟨n0,nd0,ns⟩ (λhHeld=> ?_)
 refine tk (i:=0) (v:= ?v1) rfl ?hy1 ?rest1
 case hy1=>intro w hSw;(try dsimp only at hSw);go_simp;try with_reducible rfl
 (try simp only [Act.put,List.getElem_toArray,List.getElem_cons_zero,List.setIfInBounds_toArray,List.set_cons_zero,List.set_cons_succ])
 refine tk (i:=1) (v:= ?v2) rfl ?hy2 ?rest2
 case hy2=>intro w hSw;(try dsimp only at hSw);go_simp;try with_reducible rfl
 (try simp only [Act.put,List.getElem_toArray,List.getElem_cons_succ,List.getElem_cons_zero,List.setIfInBounds_toArray,List.set_cons_zero,List.set_cons_succ])
 refine tk (i:=2) (v:= ?v3) rfl ?hy3 ?rest3
 case hy3=>intro w hSw;(try dsimp only at hSw);go_simp;try with_reducible rfl
 (try simp only [Act.put,List.getElem_toArray,List.getElem_cons_succ,List.getElem_cons_zero,List.setIfInBounds_toArray,List.set_cons_zero,List.set_cons_succ])
 refine tk (i:=3) (v:= ?v4) rfl ?hy4 ?rest4
 case hy4=>intro w hSw;(try dsimp only at hSw);go_simp;try with_reducible rfl
 (try simp only [Act.put,List.getElem_toArray,List.getElem_cons_succ,List.getElem_cons_zero,List.setIfInBounds_toArray,List.set_cons_zero,List.set_cons_succ])
 refine tk (i:=4) (v:= ?v5) rfl ?hy5 ?rest5
 case hy5=>intro w hSw;(try dsimp only at hSw);go_simp;try with_reducible rfl
 (try simp only [Act.put,List.getElem_toArray,List.getElem_cons_succ,List.getElem_cons_zero,List.setIfInBounds_toArray,List.set_cons_zero,List.set_cons_succ])
 refine tk (i:=5) (v:= ?v6) rfl ?hy6 ?rest6
 case hy6=>intro w hSw;(try dsimp only at hSw);go_simp;try with_reducible rfl
 (try simp only [Act.put,List.getElem_toArray,List.getElem_cons_succ,List.getElem_cons_zero,List.setIfInBounds_toArray,List.set_cons_zero,List.set_cons_succ])
 refine tk (i:=6) (v:= ?v7) rfl ?hy7 ?rest7
 case hy7=>intro w hSw;(try dsimp only at hSw);go_simp;try with_reducible rfl
 (try simp only [Act.put,List.getElem_toArray,List.getElem_cons_succ,List.getElem_cons_zero,List.setIfInBounds_toArray,List.set_cons_zero,List.set_cons_succ])
 refine wpAnyH_ready (rs:=[7]) (by kernel_rfl) (by simp) ?_
 refine AllReadyH.cons rfl (λK hK=> ?_) AllReadyH.nil
 go_simp
 go_at_call 128
 with_reducible refine cE.mono ?_
 intro e w4 hq
 have hF4:=HX.out.drew.ends (s':=s.set k 0 0) rfl hq
 unfold RsPost at hq
 obtain ⟨rfl,_,_⟩:=hq
 obtain ⟨p0,p1,p2,p3⟩:=hF4.dcell
 obtain ⟨v0,v1,v2,v3⟩:=hF4.rcell
 obtain ⟨x0,x1,x2,x3⟩:=hF4.rfrz
 have m0:=hF4.raw.cell0
 have ms:=SrAt.cell0 hF4.raw.seat
 rw [HG.out] at ms
 have m2:w4.cell? ⟨M.r,2,none⟩=some (.slice (some ⟨M.pc,0,none⟩) s.n s.n):=hF4.raw.cell2
 have mp:=hF4.raw.pcC HE.out.2.2
 have mz:=hF4.raw.pcZ k
 have mt:=HGV.out _ hF4.raw.seat
 have hF5:Fm w (w4.setCell ⟨M.pc,k,none⟩ (.int .i64 0)) M bk dv (s.set k 0 0) (upd p k false) mi (doS ps u 2 (M.a+1) 0 m) w.heap.size (w.heap.size+1) ⟨3,false,false,false⟩:=hF4.setP k false
 obtain ⟨pp0,pp1,pp2,pp3⟩:=hF5.dcell
 obtain ⟨vv0,vv1,vv2,vv3⟩:=hF5.rcell
 obtain ⟨xx0,xx1,xx2,xx3⟩:=hF5.rfrz
 have HT5:=Lib.hid hF5
 clear hF5
 have HT:=Lib.hid hF4
 clear hF4
 go_wp2
 refine hK.out _ _ (⟨m0,p0,ms⟩) (λhHeld2=> ?_)
 clear hHeld K hK
 have hHeld:=hHeld2
 clear hHeld2
 (try simp only [Act.put,List.getElem_toArray,List.getElem_cons_succ,List.getElem_cons_zero,List.setIfInBounds_toArray,List.set_cons_zero,List.set_cons_succ])
 refine tk (i:=8) (v:= ?v8) rfl ?hy8 ?rest8
 case hy8=>intro w hSw;(try dsimp only at hSw);go_simp;try with_reducible rfl
 (try simp only [Act.put,List.getElem_toArray,List.getElem_cons_succ,List.getElem_cons_zero,List.setIfInBounds_toArray,List.set_cons_zero,List.set_cons_succ])
 refine tk (i:=9) (v:= ?v9) rfl ?hy9 ?rest9
 case hy9=>intro w hSw;(try dsimp only at hSw);go_simp;try with_reducible rfl
 (try simp only [Act.put,List.getElem_toArray,List.getElem_cons_succ,List.getElem_cons_zero,List.setIfInBounds_toArray,List.set_cons_zero,List.set_cons_succ])
 refine tk (i:=10) (v:= ?v10) rfl ?hy10 ?rest10
 case hy10=>intro w hSw;(try dsimp only at hSw);go_simp;try with_reducible rfl
 (try simp only [Act.put,List.getElem_toArray,List.getElem_cons_succ,List.getElem_cons_zero,List.setIfInBounds_toArray,List.set_cons_zero,List.set_cons_succ])
 refine tk (i:=11) (v:= ?v11) rfl ?hy11 ?rest11
 case hy11=>intro w hSw;(try dsimp only at hSw);go_simp;try with_reducible rfl
 (try simp only [Act.put,List.getElem_toArray,List.getElem_cons_succ,List.getElem_cons_zero,List.setIfInBounds_toArray,List.set_cons_zero,List.set_cons_succ])
 refine tk (i:=12) (v:= ?v12) rfl ?hy12 ?rest12
 case hy12=>intro w hSw;(try dsimp only at hSw);go_simp;try with_reducible rfl
 (try simp only [Act.put,List.getElem_toArray,List.getElem_cons_succ,List.getElem_cons_zero,List.setIfInBounds_toArray,List.set_cons_zero,List.set_cons_succ])
 refine tk (i:=13) (v:= ?v13) rfl ?hy13 ?rest13
 case hy13=>intro w hSw;(try dsimp only at hSw);go_simp;try with_reducible rfl
 (try simp only [Act.put,List.getElem_toArray,List.getElem_cons_succ,List.getElem_cons_zero,List.setIfInBounds_toArray,List.set_cons_zero,List.set_cons_succ])
 refine tk (i:=14) (v:= ?v14) rfl ?hy14 ?rest14
 case hy14=>intro w hSw;(try dsimp only at hSw);go_simp;try with_reducible rfl
 (try simp only [Act.put,List.getElem_toArray,List.getElem_cons_succ,List.getElem_cons_zero,List.setIfInBounds_toArray,List.set_cons_zero,List.set_cons_succ])
 refine tk (i:=15) (v:= ?v15) rfl ?hy15 ?rest15
 case hy15=>intro w hSw;(try dsimp only at hSw);go_simp;try with_reducible rfl
 (try simp only [Act.put,List.getElem_toArray,List.getElem_cons_succ,List.getElem_cons_zero,List.setIfInBounds_toArray,List.set_cons_zero,List.set_cons_succ])
 refine tk (i:=16) (v:= ?v16) rfl ?hy16 ?rest16
 case hy16=>intro w hSw;(try dsimp only at hSw);go_simp;try with_reducible rfl
 (try simp only [Act.put,List.getElem_toArray,List.getElem_cons_succ,List.getElem_cons_zero,List.setIfInBounds_toArray,List.set_cons_zero,List.set_cons_succ])
 refine tk (i:=17) (v:= ?v17) rfl ?hy17 ?rest17
 case hy17=>intro w hSw;(try dsimp only at hSw);go_simp;try with_reducible rfl
 (try simp only [Act.put,List.getElem_toArray,List.getElem_cons_succ,List.getElem_cons_zero,List.setIfInBounds_toArray,List.set_cons_zero,List.set_cons_succ])
 refine tk (i:=18) (v:= ?v18) rfl ?hy18 ?rest18
 case hy18=>intro w hSw;(try dsimp only at hSw);go_simp;try with_reducible rfl
 (try simp only [Act.put,List.getElem_toArray,List.getElem_cons_succ,List.getElem_cons_zero,List.setIfInBounds_toArray,List.set_cons_zero,List.set_cons_succ])
 refine wpAnyH_ready (rs:=[19]) (by kernel_rfl) (by simp) ?_
 refine AllReadyH.cons rfl (λK hK=> ?_) AllReadyH.nil
 go_simp
 refine hK.out _ _ (⟨m0,p0,ms⟩) (λhHeld2=> ?_)
 clear hHeld K hK
 have hHeld:=hHeld2
 clear hHeld2
 (try simp only [Act.put,List.getElem_toArray,List.getElem_cons_succ,List.getElem_cons_zero,List.setIfInBounds_toArray,List.set_cons_zero,List.set_cons_succ])
 refine tk (i:=20) (v:= ?v19) rfl ?hy19 ?rest19
 case hy19=>intro w hSw;(try dsimp only at hSw);go_simp;try with_reducible rfl
 (try simp only [Act.put,List.getElem_toArray,List.getElem_cons_succ,List.getElem_cons_zero,List.setIfInBounds_toArray,List.set_cons_zero,List.set_cons_succ])
 refine tk (i:=21) (v:= ?v20) rfl ?hy20 ?rest20
 case hy20=>intro w hSw;(try dsimp only at hSw);go_simp;try with_reducible rfl
 (try simp only [Act.put,List.getElem_toArray,List.getElem_cons_succ,List.getElem_cons_zero,List.setIfInBounds_toArray,List.set_cons_zero,List.set_cons_succ])
 refine wpAnyH_done (by kernel_rfl) ?_ _
 refine NoPanic.normal ?_
 go_wp2
 refine bodyPost_ret (v:=Dd.rval ⟨3,false,false,false⟩) (results_cell_row rfl _ _ w.heap.size 136 _ (0,0) _ rfl (set4 HT5.out.res rfl _ _ _ _) underlying136 rfl i_rid) rfl HT5.out.told
theorem setCell_alloc4 (w:World) (a:Int):(w.alloc (.cells #[.int .i64 0,.int .i64 0,.int .i64 0,.int .i64 0] 136)).alloc (.cells #[.int .i64 a,.int .i64 0,.int .i64 0,.int .i64 0] 136)=((w.alloc (.cells #[.int .i64 0,.int .i64 0,.int .i64 0,.int .i64 0] 136)).alloc (.cells #[.int .i64 0,.int .i64 0,.int .i64 0,.int .i64 0] 136)).setCell ⟨w.heap.size+1,0,none⟩ (.int .i64 a):=by
 have e1:(w.alloc (.cells #[.int .i64 0,.int .i64 0,.int .i64 0,.int .i64 0] 136)).heap.size=w.heap.size+1:=Go.Deep.nblk_alloc _ _
 rw [World.setCell_alloc_at _ _ _ _ _ e1.symm]
 rfl
theorem ml_alone {w:World} {M:Mp} {bk:Nat} {so:Option Addr} {cap:Nat} {dv:Value} {s:SS} {p:Nat→Bool} {mi:Nat→Int} {ps:PSta} (h:MsIn w M bk so cap dv s p mi ps) (k:Nat) (hk:k<s.n) (u x:Int) (s4:s.st k=4) (he:tellS ps u 1 M.a=(mi k+1)%4294967296):
  Calls prog 133 #[.pointer (some ⟨M.r,0,none⟩),.pointer (some ⟨M.pr,0,none⟩),.int .i64 (k:Int),.int .i64 u,.int .i64 x] w (MsPost w M bk dv (s.set k 2 0) p mi (doS ps u 1 M.a 0 0) ⟨4,false,false,false⟩):=by
 obtain ⟨hF,hR⟩:=h.start
 have n1:=h.n1
 have n2:=h.n2
 obtain ⟨g,cg,hgv,hg⟩:=SrAt.stV hF.raw.seat (by omega)
 have b2:=(h.raw.after ((Wr.refl Nil w).alloc (.cells #[.int .i64 0,.int .i64 0,.int .i64 0,.int .i64 0] 136))).cell2
 have c0:=hF.raw.cell0
 have c1:=hF.raw.cell1
 have c2:=hF.raw.cell2
 have c3:=hF.raw.cell3
 have cs:=SrAt.cell0 hF.raw.seat
 rw [hgv] at cs
 have ct:=(hg k _ (stL_at s hk)).1
 have cp:=hF.raw.pcC hk
 have cm:=hF.raw.miC hk
 have zp:=hF.raw.pcZ k
 have zm:=hF.raw.miZ k
 have i0:(0:Int)≤(k:Int):=by omega
 have i1:(k:Int)<s.n:=by omega
 have i2:¬ (k:Int)<0:=by omega
 have i3:¬ (s.n:Int)≤(k:Int):=by omega
 have bsz:M.base≤((w.alloc (.cells #[.int .i64 0,.int .i64 0,.int .i64 0,.int .i64 0] 136)).alloc (.cells #[.int .i64 0,.int .i64 0,.int .i64 0,.int .i64 0] 136)).drew.heap.size:=Nat.le_trans hF.bw (((Wr.refl Nil w).alloc _).alloc _).drew.size
 obtain ⟨m,hmm⟩:∃ m,m=(mi k+1)%4294967296:=⟨_,rfl⟩
 have ew:IntKind.u32.wrap (mi k+1)=m:=by rw [hmm];rfl
 rw [←hmm] at he
 have bq:(tellS ps u 1 M.a==m)=true:=by simpa using he
 have he2:=Lib.hid he
 clear he hmm
 have HEE:=Lib.hid (end_some (s:=s) (ev:=4) (y:=2) hk (by rw [s4];rfl))
 have HGV:Hid (∀ W,SrAt W M.sr M.hv M.dv s.n s.n (stL (s.set k 2 0)) (dlL (s.set k 2 0)) s.timed s.probed→W.cell? ⟨g,k,none⟩=some (.int .i64 2)):=Lib.hid λW hW=>SrAt.at_g hW hgv (by omega) (by rw [stL_at _ (show k<(s.set k 2 0).n from hk)];show some (upd s.st k 2 k)=_;rw [upd_same])
 rw [s4] at ct
 obtain ⟨Z0,hZ0⟩:∃ Z0,Z0=((w.alloc (.cells #[.int .i64 0,.int .i64 0,.int .i64 0,.int .i64 0] 136)).alloc (.cells #[.int .i64 0,.int .i64 0,.int .i64 0,.int .i64 0] 136)).setCell ⟨w.heap.size+1,0,none⟩ (.int .i64 5):=⟨_,rfl⟩
 have k0:=hF.dcell.1
 have kz:=blk_frozen hF.did 0
 have hF5:Fm w Z0 M bk dv s p mi ps w.heap.size (w.heap.size+1) ⟨5,false,false,false⟩:=by rw [hZ0];exact hF.setD 0 (.int .i64 5) ⟨5,false,false,false⟩ rfl
 have hR5:RefAt Z0 M.base M.pr bk so cap dv ps:=by
  have kk:Wr Nil w Z0:=by
   rw [hZ0]
   exact (((Wr.refl Nil w).alloc _).alloc _).one ((Wr.refl (One (w.heap.size+1)) _).setCell _ _ λ_=>rfl) (Nat.le_succ _)
  exact h.ref.after kk λ_ _=>id
 have bs5:M.base≤Z0.drew.heap.size:=Nat.le_trans hF5.bw (hF5.wr.drew).size
 have cA:=ra_load (hR5.after ((Wr.refl Nil _).drew) λ_ _=>id) u M.a h.hD h.hws h.hac bs5
 have HE:=Lib.hid (And.intro h (And.intro hF5 hk))
 have HG:=Lib.hid hgv
 have HZ:=Lib.hid hZ0
 have f1:=hF5.raw.cell1
 have f3:=hF5.raw.cell3
 have fm:=hF5.raw.miC hk
 clear hF hR h hg hgv s4 hF5 hR5 hZ0
 go_enter func133,ntmps133
 go_wp2
 rw [setCell_alloc4 w]
 rw [←HZ.out]
 clear c0 c2 cs ct cp zm zp
 go_region_held3 (λw'=>w'.cell? ⟨M.r,1,none⟩=some (.int .i64 M.a)∧w'.cell? ⟨M.r,3,none⟩=some (.slice (some ⟨M.mn,0,none⟩) s.n s.n)∧w'.cell? ⟨M.mn,k,none⟩=some (.int .u32 (mi k))) (first|exact ⟨f1,f3,fm⟩|exact ⟨d1,d3,y0⟩) (first|(go_at_call 131;(with_reducible refine cA.mono ?_);intro e w2 hq;unfold RaPost at hq;obtain ⟨rfl,hRS,hW⟩:=hq;have hA:=HE.out.2.1.drew.port hRS hW;have d1:=hA.raw.cell1;have d3:=hA.raw.cell3;have y0:=hA.raw.miC HE.out.2.2;have k0:=hA.dcell.1;have kz:=blk_frozen hA.did 0;have HC:=Lib.hid hA;clear hA hRS hW))
 go_wp2
 obtain ⟨X,hX⟩:∃ X,X=w2.setCell ⟨w.heap.size+1,0,none⟩ (.int .i64 4):=⟨_,rfl⟩
 have hFX:Fm w X M bk dv s p mi (doS ps u 1 M.a 0 0) w.heap.size (w.heap.size+1) ⟨4,false,false,false⟩:=by rw [hX];exact HC.out.setD 0 (.int .i64 4) ⟨4,false,false,false⟩ rfl
 rw [←hX]
 clear hX
 have n0:=hFX.drew.raw.cell0
 have nd0:=hFX.drew.dcell.1
 have ns:=SrAt.cell0 hFX.drew.raw.seat
 rw [HG.out] at ns
 have cE:=rs_end hFX.drew.raw.seat n1 n2 (k:Int) 4
 rw [HEE.out.1,HEE.out.2] at cE
 have HX:=Lib.hid hFX
 clear hFX
 refine wp_region_noPanic ?_
 refine wp_region_held_drew (S:=λW=>W.cell? ⟨M.r,0,none⟩=some (.pointer (some ⟨M.sr,0,none⟩))∧W.cell? ⟨w.heap.size+1,0,none⟩=some (.int .i64 4)∧W.cell? ⟨M.sr,0,none⟩=some (.slice (some ⟨g,0,none⟩) s.n cg)) (by kernel_rfl) ⟨n0,nd0,ns⟩ (λhHeld=> ?_)
 refine tk (i:=0) (v:= ?v1) rfl ?hy1 ?rest1
 case hy1=>intro w hSw;(try dsimp only at hSw);go_simp;try with_reducible rfl
 (try simp only [Act.put,List.getElem_toArray,List.getElem_cons_zero,List.setIfInBounds_toArray,List.set_cons_zero,List.set_cons_succ])
 refine tk (i:=1) (v:= ?v2) rfl ?hy2 ?rest2
 case hy2=>intro w hSw;(try dsimp only at hSw);go_simp;try with_reducible rfl
 (try simp only [Act.put,List.getElem_toArray,List.getElem_cons_succ,List.getElem_cons_zero,List.setIfInBounds_toArray,List.set_cons_zero,List.set_cons_succ])
 refine tk (i:=2) (v:= ?v3) rfl ?hy3 ?rest3
 case hy3=>intro w hSw;(try dsimp only at hSw);go_simp;try with_reducible rfl
 (try simp only [Act.put,List.getElem_toArray,List.getElem_cons_succ,List.getElem_cons_zero,List.setIfInBounds_toArray,List.set_cons_zero,List.set_cons_succ])
 refine tk (i:=3) (v:= ?v4) rfl ?hy4 ?rest4
 case hy4=>intro w hSw;(try dsimp only at hSw);go_simp;try with_reducible rfl
 (try simp only [Act.put,List.getElem_toArray,List.getElem_cons_succ,List.getElem_cons_zero,List.setIfInBounds_toArray,List.set_cons_zero,List.set_cons_succ])
 refine tk (i:=4) (v:= ?v5) rfl ?hy5 ?rest5
 case hy5=>intro w hSw;(try dsimp only at hSw);go_simp;try with_reducible rfl
 (try simp only [Act.put,List.getElem_toArray,List.getElem_cons_succ,List.getElem_cons_zero,List.setIfInBounds_toArray,List.set_cons_zero,List.set_cons_succ])
 refine tk (i:=5) (v:= ?v6) rfl ?hy6 ?rest6
 case hy6=>intro w hSw;(try dsimp only at hSw);go_simp;try with_reducible rfl
 (try simp only [Act.put,List.getElem_toArray,List.getElem_cons_succ,List.getElem_cons_zero,List.setIfInBounds_toArray,List.set_cons_zero,List.set_cons_succ])
 refine tk (i:=6) (v:= ?v7) rfl ?hy7 ?rest7
 case hy7=>intro w hSw;(try dsimp only at hSw);go_simp;try with_reducible rfl
 (try simp only [Act.put,List.getElem_toArray,List.getElem_cons_succ,List.getElem_cons_zero,List.setIfInBounds_toArray,List.set_cons_zero,List.set_cons_succ])
 refine wpAnyH_ready (rs:=[7]) (by kernel_rfl) (by simp) ?_
 refine AllReadyH.cons rfl (λK hK=> ?_) AllReadyH.nil
 go_simp
 go_at_call 128
 with_reducible refine cE.mono ?_
 intro e w4 hq
 have hF4:=HX.out.drew.ends (s':=s.set k 2 0) rfl hq
 unfold RsPost at hq
 obtain ⟨rfl,_,_⟩:=hq
 obtain ⟨p0,p1,p2,p3⟩:=hF4.dcell
 obtain ⟨v0,v1,v2,v3⟩:=hF4.rcell
 obtain ⟨x0,x1,x2,x3⟩:=hF4.rfrz
 have m0:=hF4.raw.cell0
 have ms:=SrAt.cell0 hF4.raw.seat
 rw [HG.out] at ms
 have m2:w4.cell? ⟨M.r,2,none⟩=some (.slice (some ⟨M.pc,0,none⟩) s.n s.n):=hF4.raw.cell2
 have mp:=hF4.raw.pcC HE.out.2.2
 have mz:=hF4.raw.pcZ k
 have mt:=HGV.out _ hF4.raw.seat
 have HT:=Lib.hid hF4
 clear hF4
 go_wp2
 refine hK.out _ _ (⟨m0,p0,ms⟩) (λhHeld2=> ?_)
 clear hHeld K hK
 have hHeld:=hHeld2
 clear hHeld2
 (try simp only [Act.put,List.getElem_toArray,List.getElem_cons_succ,List.getElem_cons_zero,List.setIfInBounds_toArray,List.set_cons_zero,List.set_cons_succ])
 refine tk (i:=8) (v:= ?v8) rfl ?hy8 ?rest8
 case hy8=>intro w hSw;(try dsimp only at hSw);go_simp;try with_reducible rfl
 (try simp only [Act.put,List.getElem_toArray,List.getElem_cons_succ,List.getElem_cons_zero,List.setIfInBounds_toArray,List.set_cons_zero,List.set_cons_succ])
 refine tk (i:=9) (v:= ?v9) rfl ?hy9 ?rest9
 case hy9=>intro w hSw;(try dsimp only at hSw);go_simp;try with_reducible rfl
 (try simp only [Act.put,List.getElem_toArray,List.getElem_cons_succ,List.getElem_cons_zero,List.setIfInBounds_toArray,List.set_cons_zero,List.set_cons_succ])
 refine tk (i:=10) (v:= ?v10) rfl ?hy10 ?rest10
 case hy10=>intro w hSw;(try dsimp only at hSw);go_simp;try with_reducible rfl
 (try simp only [Act.put,List.getElem_toArray,List.getElem_cons_succ,List.getElem_cons_zero,List.setIfInBounds_toArray,List.set_cons_zero,List.set_cons_succ])
 refine tk (i:=11) (v:= ?v11) rfl ?hy11 ?rest11
 case hy11=>intro w hSw;(try dsimp only at hSw);go_simp;try with_reducible rfl
 (try simp only [Act.put,List.getElem_toArray,List.getElem_cons_succ,List.getElem_cons_zero,List.setIfInBounds_toArray,List.set_cons_zero,List.set_cons_succ])
 refine tk (i:=12) (v:= ?v12) rfl ?hy12 ?rest12
 case hy12=>intro w hSw;(try dsimp only at hSw);go_simp;try with_reducible rfl
 (try simp only [Act.put,List.getElem_toArray,List.getElem_cons_succ,List.getElem_cons_zero,List.setIfInBounds_toArray,List.set_cons_zero,List.set_cons_succ])
 refine tk (i:=13) (v:= ?v13) rfl ?hy13 ?rest13
 case hy13=>intro w hSw;(try dsimp only at hSw);go_simp;try with_reducible rfl
 (try simp only [Act.put,List.getElem_toArray,List.getElem_cons_succ,List.getElem_cons_zero,List.setIfInBounds_toArray,List.set_cons_zero,List.set_cons_succ])
 refine tk (i:=14) (v:= ?v14) rfl ?hy14 ?rest14
 case hy14=>intro w hSw;(try dsimp only at hSw);go_simp;try with_reducible rfl
 (try simp only [Act.put,List.getElem_toArray,List.getElem_cons_succ,List.getElem_cons_zero,List.setIfInBounds_toArray,List.set_cons_zero,List.set_cons_succ])
 refine tk (i:=15) (v:= ?v15) rfl ?hy15 ?rest15
 case hy15=>intro w hSw;(try dsimp only at hSw);go_simp;try with_reducible rfl
 (try simp only [Act.put,List.getElem_toArray,List.getElem_cons_succ,List.getElem_cons_zero,List.setIfInBounds_toArray,List.set_cons_zero,List.set_cons_succ])
 refine tk (i:=16) (v:= ?v16) rfl ?hy16 ?rest16
 case hy16=>intro w hSw;(try dsimp only at hSw);go_simp;try with_reducible rfl
 (try simp only [Act.put,List.getElem_toArray,List.getElem_cons_succ,List.getElem_cons_zero,List.setIfInBounds_toArray,List.set_cons_zero,List.set_cons_succ])
 refine tk (i:=17) (v:= ?v17) rfl ?hy17 ?rest17
 case hy17=>intro w hSw;(try dsimp only at hSw);go_simp;try with_reducible rfl
 (try simp only [Act.put,List.getElem_toArray,List.getElem_cons_succ,List.getElem_cons_zero,List.setIfInBounds_toArray,List.set_cons_zero,List.set_cons_succ])
 refine tk (i:=18) (v:= ?v18) rfl ?hy18 ?rest18
 case hy18=>intro w hSw;(try dsimp only at hSw);go_simp;try with_reducible rfl
 (try simp only [Act.put,List.getElem_toArray,List.getElem_cons_succ,List.getElem_cons_zero,List.setIfInBounds_toArray,List.set_cons_zero,List.set_cons_succ])
 refine wpAnyH_ready (rs:=[19]) (by kernel_rfl) (by simp) ?_
 refine AllReadyH.cons rfl (λK hK=> ?_) AllReadyH.nil
 go_simp
 refine hK.out _ _ (⟨m0,p0,ms⟩) (λhHeld2=> ?_)
 clear hHeld K hK
 have hHeld:=hHeld2
 clear hHeld2
 (try simp only [Act.put,List.getElem_toArray,List.getElem_cons_succ,List.getElem_cons_zero,List.setIfInBounds_toArray,List.set_cons_zero,List.set_cons_succ])
 refine tk (i:=20) (v:= ?v19) rfl ?hy19 ?rest19
 case hy19=>intro w hSw;(try dsimp only at hSw);go_simp;try with_reducible rfl
 (try simp only [Act.put,List.getElem_toArray,List.getElem_cons_succ,List.getElem_cons_zero,List.setIfInBounds_toArray,List.set_cons_zero,List.set_cons_succ])
 refine tk (i:=21) (v:= ?v20) rfl ?hy20 ?rest20
 case hy20=>intro w hSw;(try dsimp only at hSw);go_simp;try with_reducible rfl
 (try simp only [Act.put,List.getElem_toArray,List.getElem_cons_succ,List.getElem_cons_zero,List.setIfInBounds_toArray,List.set_cons_zero,List.set_cons_succ])
 refine wpAnyH_done (by kernel_rfl) ?_ _
 refine NoPanic.normal ?_
 go_wp2
 refine bodyPost_ret (v:=Dd.rval ⟨4,false,false,false⟩) (results_cell_row rfl _ _ w.heap.size 136 _ (0,0) _ rfl (set4 HT.out.res rfl _ _ _ _) underlying136 rfl i_rid) rfl HT.out.told
theorem ml_company {w:World} {M:Mp} {bk:Nat} {so:Option Addr} {cap:Nat} {dv:Value} {s:SS} {p:Nat→Bool} {mi:Nat→Int} {ps:PSta} (h:MsIn w M bk so cap dv s p mi ps) (k:Nat) (hk:k<s.n) (u x:Int) (s4:s.st k=4) (he:tellS ps u 1 M.a≠(mi k+1)%4294967296):
  Calls prog 133 #[.pointer (some ⟨M.r,0,none⟩),.pointer (some ⟨M.pr,0,none⟩),.int .i64 (k:Int),.int .i64 u,.int .i64 x] w (MsPost w M bk dv (s.set k 2 0) p mi (doS ps u 1 M.a 0 0) ⟨5,false,false,false⟩):=by
 obtain ⟨hF,hR⟩:=h.start
 have n1:=h.n1
 have n2:=h.n2
 obtain ⟨g,cg,hgv,hg⟩:=SrAt.stV hF.raw.seat (by omega)
 have b2:=(h.raw.after ((Wr.refl Nil w).alloc (.cells #[.int .i64 0,.int .i64 0,.int .i64 0,.int .i64 0] 136))).cell2
 have c0:=hF.raw.cell0
 have c1:=hF.raw.cell1
 have c2:=hF.raw.cell2
 have c3:=hF.raw.cell3
 have cs:=SrAt.cell0 hF.raw.seat
 rw [hgv] at cs
 have ct:=(hg k _ (stL_at s hk)).1
 have cp:=hF.raw.pcC hk
 have cm:=hF.raw.miC hk
 have zp:=hF.raw.pcZ k
 have zm:=hF.raw.miZ k
 have i0:(0:Int)≤(k:Int):=by omega
 have i1:(k:Int)<s.n:=by omega
 have i2:¬ (k:Int)<0:=by omega
 have i3:¬ (s.n:Int)≤(k:Int):=by omega
 have bsz:M.base≤((w.alloc (.cells #[.int .i64 0,.int .i64 0,.int .i64 0,.int .i64 0] 136)).alloc (.cells #[.int .i64 0,.int .i64 0,.int .i64 0,.int .i64 0] 136)).drew.heap.size:=Nat.le_trans hF.bw (((Wr.refl Nil w).alloc _).alloc _).drew.size
 obtain ⟨m,hmm⟩:∃ m,m=(mi k+1)%4294967296:=⟨_,rfl⟩
 have ew:IntKind.u32.wrap (mi k+1)=m:=by rw [hmm];rfl
 rw [←hmm] at he
 have bq:(tellS ps u 1 M.a==m)=false:=beq_false_of_ne he
 have he2:=Lib.hid he
 clear he hmm
 have HEE:=Lib.hid (end_some (s:=s) (ev:=5) (y:=2) hk (by rw [s4];rfl))
 have HGV:Hid (∀ W,SrAt W M.sr M.hv M.dv s.n s.n (stL (s.set k 2 0)) (dlL (s.set k 2 0)) s.timed s.probed→W.cell? ⟨g,k,none⟩=some (.int .i64 2)):=Lib.hid λW hW=>SrAt.at_g hW hgv (by omega) (by rw [stL_at _ (show k<(s.set k 2 0).n from hk)];show some (upd s.st k 2 k)=_;rw [upd_same])
 rw [s4] at ct
 obtain ⟨Z0,hZ0⟩:∃ Z0,Z0=((w.alloc (.cells #[.int .i64 0,.int .i64 0,.int .i64 0,.int .i64 0] 136)).alloc (.cells #[.int .i64 0,.int .i64 0,.int .i64 0,.int .i64 0] 136)).setCell ⟨w.heap.size+1,0,none⟩ (.int .i64 5):=⟨_,rfl⟩
 have k0:=hF.dcell.1
 have kz:=blk_frozen hF.did 0
 have hF5:Fm w Z0 M bk dv s p mi ps w.heap.size (w.heap.size+1) ⟨5,false,false,false⟩:=by rw [hZ0];exact hF.setD 0 (.int .i64 5) ⟨5,false,false,false⟩ rfl
 have hR5:RefAt Z0 M.base M.pr bk so cap dv ps:=by
  have kk:Wr Nil w Z0:=by
   rw [hZ0]
   exact (((Wr.refl Nil w).alloc _).alloc _).one ((Wr.refl (One (w.heap.size+1)) _).setCell _ _ λ_=>rfl) (Nat.le_succ _)
  exact h.ref.after kk λ_ _=>id
 have bs5:M.base≤Z0.drew.heap.size:=Nat.le_trans hF5.bw (hF5.wr.drew).size
 have cA:=ra_load (hR5.after ((Wr.refl Nil _).drew) λ_ _=>id) u M.a h.hD h.hws h.hac bs5
 have HE:=Lib.hid (And.intro h (And.intro hF5 hk))
 have HG:=Lib.hid hgv
 have HZ:=Lib.hid hZ0
 have f1:=hF5.raw.cell1
 have f3:=hF5.raw.cell3
 have fm:=hF5.raw.miC hk
 clear hF hR h hg hgv s4 hF5 hR5 hZ0
 go_enter func133,ntmps133
 go_wp2
 rw [setCell_alloc4 w]
 rw [←HZ.out]
 clear c0 c2 cs ct cp zm zp
 go_region_held3 (λw'=>w'.cell? ⟨M.r,1,none⟩=some (.int .i64 M.a)∧w'.cell? ⟨M.r,3,none⟩=some (.slice (some ⟨M.mn,0,none⟩) s.n s.n)∧w'.cell? ⟨M.mn,k,none⟩=some (.int .u32 (mi k))) (first|exact ⟨f1,f3,fm⟩|exact ⟨d1,d3,y0⟩) (first|(go_at_call 131;(with_reducible refine cA.mono ?_);intro e w2 hq;unfold RaPost at hq;obtain ⟨rfl,hRS,hW⟩:=hq;have hA:=HE.out.2.1.drew.port hRS hW;have d1:=hA.raw.cell1;have d3:=hA.raw.cell3;have y0:=hA.raw.miC HE.out.2.2;have k0:=hA.dcell.1;have kz:=blk_frozen hA.did 0;have HC:=Lib.hid hA;clear hA hRS hW))
 go_wp2
 obtain ⟨X,hX⟩:∃ X,X=w2:=⟨_,rfl⟩
 have hFX:Fm w X M bk dv s p mi (doS ps u 1 M.a 0 0) w.heap.size (w.heap.size+1) ⟨5,false,false,false⟩:=by rw [hX];exact HC.out
 rw [←hX]
 clear hX
 have n0:=hFX.drew.raw.cell0
 have nd0:=hFX.drew.dcell.1
 have ns:=SrAt.cell0 hFX.drew.raw.seat
 rw [HG.out] at ns
 have cE:=rs_end hFX.drew.raw.seat n1 n2 (k:Int) 5
 rw [HEE.out.1,HEE.out.2] at cE
 have HX:=Lib.hid hFX
 clear hFX
 refine wp_region_noPanic ?_
 refine wp_region_held_drew (S:=λW=>W.cell? ⟨M.r,0,none⟩=some (.pointer (some ⟨M.sr,0,none⟩))∧W.cell? ⟨w.heap.size+1,0,none⟩=some (.int .i64 5)∧W.cell? ⟨M.sr,0,none⟩=some (.slice (some ⟨g,0,none⟩) s.n cg)) (by kernel_rfl) ⟨n0,nd0,ns⟩ (λhHeld=> ?_)
 refine tk (i:=0) (v:= ?v1) rfl ?hy1 ?rest1
 case hy1=>intro w hSw;(try dsimp only at hSw);go_simp;try with_reducible rfl
 (try simp only [Act.put,List.getElem_toArray,List.getElem_cons_zero,List.setIfInBounds_toArray,List.set_cons_zero,List.set_cons_succ])
 refine tk (i:=1) (v:= ?v2) rfl ?hy2 ?rest2
 case hy2=>intro w hSw;(try dsimp only at hSw);go_simp;try with_reducible rfl
 (try simp only [Act.put,List.getElem_toArray,List.getElem_cons_succ,List.getElem_cons_zero,List.setIfInBounds_toArray,List.set_cons_zero,List.set_cons_succ])
 refine tk (i:=2) (v:= ?v3) rfl ?hy3 ?rest3
 case hy3=>intro w hSw;(try dsimp only at hSw);go_simp;try with_reducible rfl
 (try simp only [Act.put,List.getElem_toArray,List.getElem_cons_succ,List.getElem_cons_zero,List.setIfInBounds_toArray,List.set_cons_zero,List.set_cons_succ])
 refine tk (i:=3) (v:= ?v4) rfl ?hy4 ?rest4
 case hy4=>intro w hSw;(try dsimp only at hSw);go_simp;try with_reducible rfl
 (try simp only [Act.put,List.getElem_toArray,List.getElem_cons_succ,List.getElem_cons_zero,List.setIfInBounds_toArray,List.set_cons_zero,List.set_cons_succ])
 refine tk (i:=4) (v:= ?v5) rfl ?hy5 ?rest5
 case hy5=>intro w hSw;(try dsimp only at hSw);go_simp;try with_reducible rfl
 (try simp only [Act.put,List.getElem_toArray,List.getElem_cons_succ,List.getElem_cons_zero,List.setIfInBounds_toArray,List.set_cons_zero,List.set_cons_succ])
 refine tk (i:=5) (v:= ?v6) rfl ?hy6 ?rest6
 case hy6=>intro w hSw;(try dsimp only at hSw);go_simp;try with_reducible rfl
 (try simp only [Act.put,List.getElem_toArray,List.getElem_cons_succ,List.getElem_cons_zero,List.setIfInBounds_toArray,List.set_cons_zero,List.set_cons_succ])
 refine tk (i:=6) (v:= ?v7) rfl ?hy7 ?rest7
 case hy7=>intro w hSw;(try dsimp only at hSw);go_simp;try with_reducible rfl
 (try simp only [Act.put,List.getElem_toArray,List.getElem_cons_succ,List.getElem_cons_zero,List.setIfInBounds_toArray,List.set_cons_zero,List.set_cons_succ])
 refine wpAnyH_ready (rs:=[7]) (by kernel_rfl) (by simp) ?_
 refine AllReadyH.cons rfl (λK hK=> ?_) AllReadyH.nil
 go_simp
 go_at_call 128
 with_reducible refine cE.mono ?_
 intro e w4 hq
 have hF4:=HX.out.drew.ends (s':=s.set k 2 0) rfl hq
 unfold RsPost at hq
 obtain ⟨rfl,_,_⟩:=hq
 obtain ⟨p0,p1,p2,p3⟩:=hF4.dcell
 obtain ⟨v0,v1,v2,v3⟩:=hF4.rcell
 obtain ⟨x0,x1,x2,x3⟩:=hF4.rfrz
 have m0:=hF4.raw.cell0
 have ms:=SrAt.cell0 hF4.raw.seat
 rw [HG.out] at ms
 have m2:w4.cell? ⟨M.r,2,none⟩=some (.slice (some ⟨M.pc,0,none⟩) s.n s.n):=hF4.raw.cell2
 have mp:=hF4.raw.pcC HE.out.2.2
 have mz:=hF4.raw.pcZ k
 have mt:=HGV.out _ hF4.raw.seat
 have HT:=Lib.hid hF4
 clear hF4
 go_wp2
 refine hK.out _ _ (⟨m0,p0,ms⟩) (λhHeld2=> ?_)
 clear hHeld K hK
 have hHeld:=hHeld2
 clear hHeld2
 (try simp only [Act.put,List.getElem_toArray,List.getElem_cons_succ,List.getElem_cons_zero,List.setIfInBounds_toArray,List.set_cons_zero,List.set_cons_succ])
 refine tk (i:=8) (v:= ?v8) rfl ?hy8 ?rest8
 case hy8=>intro w hSw;(try dsimp only at hSw);go_simp;try with_reducible rfl
 (try simp only [Act.put,List.getElem_toArray,List.getElem_cons_succ,List.getElem_cons_zero,List.setIfInBounds_toArray,List.set_cons_zero,List.set_cons_succ])
 refine tk (i:=9) (v:= ?v9) rfl ?hy9 ?rest9
 case hy9=>intro w hSw;(try dsimp only at hSw);go_simp;try with_reducible rfl
 (try simp only [Act.put,List.getElem_toArray,List.getElem_cons_succ,List.getElem_cons_zero,List.setIfInBounds_toArray,List.set_cons_zero,List.set_cons_succ])
 refine tk (i:=10) (v:= ?v10) rfl ?hy10 ?rest10
 case hy10=>intro w hSw;(try dsimp only at hSw);go_simp;try with_reducible rfl
 (try simp only [Act.put,List.getElem_toArray,List.getElem_cons_succ,List.getElem_cons_zero,List.setIfInBounds_toArray,List.set_cons_zero,List.set_cons_succ])
 refine tk (i:=11) (v:= ?v11) rfl ?hy11 ?rest11
 case hy11=>intro w hSw;(try dsimp only at hSw);go_simp;try with_reducible rfl
 (try simp only [Act.put,List.getElem_toArray,List.getElem_cons_succ,List.getElem_cons_zero,List.setIfInBounds_toArray,List.set_cons_zero,List.set_cons_succ])
 refine tk (i:=12) (v:= ?v12) rfl ?hy12 ?rest12
 case hy12=>intro w hSw;(try dsimp only at hSw);go_simp;try with_reducible rfl
 (try simp only [Act.put,List.getElem_toArray,List.getElem_cons_succ,List.getElem_cons_zero,List.setIfInBounds_toArray,List.set_cons_zero,List.set_cons_succ])
 refine tk (i:=13) (v:= ?v13) rfl ?hy13 ?rest13
 case hy13=>intro w hSw;(try dsimp only at hSw);go_simp;try with_reducible rfl
 (try simp only [Act.put,List.getElem_toArray,List.getElem_cons_succ,List.getElem_cons_zero,List.setIfInBounds_toArray,List.set_cons_zero,List.set_cons_succ])
 refine tk (i:=14) (v:= ?v14) rfl ?hy14 ?rest14
 case hy14=>intro w hSw;(try dsimp only at hSw);go_simp;try with_reducible rfl
 (try simp only [Act.put,List.getElem_toArray,List.getElem_cons_succ,List.getElem_cons_zero,List.setIfInBounds_toArray,List.set_cons_zero,List.set_cons_succ])
 refine tk (i:=15) (v:= ?v15) rfl ?hy15 ?rest15
 case hy15=>intro w hSw;(try dsimp only at hSw);go_simp;try with_reducible rfl
 (try simp only [Act.put,List.getElem_toArray,List.getElem_cons_succ,List.getElem_cons_zero,List.setIfInBounds_toArray,List.set_cons_zero,List.set_cons_succ])
 refine tk (i:=16) (v:= ?v16) rfl ?hy16 ?rest16
 case hy16=>intro w hSw;(try dsimp only at hSw);go_simp;try with_reducible rfl
 (try simp only [Act.put,List.getElem_toArray,List.getElem_cons_succ,List.getElem_cons_zero,List.setIfInBounds_toArray,List.set_cons_zero,List.set_cons_succ])
 refine tk (i:=17) (v:= ?v17) rfl ?hy17 ?rest17
 case hy17=>intro w hSw;(try dsimp only at hSw);go_simp;try with_reducible rfl
 (try simp only [Act.put,List.getElem_toArray,List.getElem_cons_succ,List.getElem_cons_zero,List.setIfInBounds_toArray,List.set_cons_zero,List.set_cons_succ])
 refine tk (i:=18) (v:= ?v18) rfl ?hy18 ?rest18
 case hy18=>intro w hSw;(try dsimp only at hSw);go_simp;try with_reducible rfl
 (try simp only [Act.put,List.getElem_toArray,List.getElem_cons_succ,List.getElem_cons_zero,List.setIfInBounds_toArray,List.set_cons_zero,List.set_cons_succ])
 refine wpAnyH_ready (rs:=[19]) (by kernel_rfl) (by simp) ?_
 refine AllReadyH.cons rfl (λK hK=> ?_) AllReadyH.nil
 go_simp
 refine hK.out _ _ (⟨m0,p0,ms⟩) (λhHeld2=> ?_)
 clear hHeld K hK
 have hHeld:=hHeld2
 clear hHeld2
 (try simp only [Act.put,List.getElem_toArray,List.getElem_cons_succ,List.getElem_cons_zero,List.setIfInBounds_toArray,List.set_cons_zero,List.set_cons_succ])
 refine tk (i:=20) (v:= ?v19) rfl ?hy19 ?rest19
 case hy19=>intro w hSw;(try dsimp only at hSw);go_simp;try with_reducible rfl
 (try simp only [Act.put,List.getElem_toArray,List.getElem_cons_succ,List.getElem_cons_zero,List.setIfInBounds_toArray,List.set_cons_zero,List.set_cons_succ])
 refine tk (i:=21) (v:= ?v20) rfl ?hy20 ?rest20
 case hy20=>intro w hSw;(try dsimp only at hSw);go_simp;try with_reducible rfl
 (try simp only [Act.put,List.getElem_toArray,List.getElem_cons_succ,List.getElem_cons_zero,List.setIfInBounds_toArray,List.set_cons_zero,List.set_cons_succ])
 refine wpAnyH_done (by kernel_rfl) ?_ _
 refine NoPanic.normal ?_
 go_wp2
 refine bodyPost_ret (v:=Dd.rval ⟨5,false,false,false⟩) (results_cell_row rfl _ _ w.heap.size 136 _ (0,0) _ rfl (set4 HT.out.res rfl _ _ _ _) underlying136 rfl i_rid) rfl HT.out.told
theorem ml_idle {w:World} {M:Mp} {bk:Nat} {so:Option Addr} {cap:Nat} {dv:Value} {s:SS} {p:Nat→Bool} {mi:Nat→Int} {ps:PSta} (h:MsIn w M bk so cap dv s p mi ps) (k:Nat) (hk:k<s.n) (u x:Int) (s1:s.st k≠1) (s3:s.st k≠3) (s4:s.st k≠4):
  Calls prog 133 #[.pointer (some ⟨M.r,0,none⟩),.pointer (some ⟨M.pr,0,none⟩),.int .i64 (k:Int),.int .i64 u,.int .i64 x] w (MsPost w M bk dv s p mi ps Dd.no):=by
 obtain ⟨hF,hR⟩:=h.start
 have n1:=h.n1
 have n2:=h.n2
 obtain ⟨g,cg,hgv,hg⟩:=SrAt.stV hF.raw.seat (by omega)
 have b2:=(h.raw.after ((Wr.refl Nil w).alloc (.cells #[.int .i64 0,.int .i64 0,.int .i64 0,.int .i64 0] 136))).cell2
 have c0:=hF.raw.cell0
 have c1:=hF.raw.cell1
 have c2:=hF.raw.cell2
 have c3:=hF.raw.cell3
 have cs:=SrAt.cell0 hF.raw.seat
 rw [hgv] at cs
 have ct:=(hg k _ (stL_at s hk)).1
 have cp:=hF.raw.pcC hk
 have cm:=hF.raw.miC hk
 have zp:=hF.raw.pcZ k
 have zm:=hF.raw.miZ k
 have i0:(0:Int)≤(k:Int):=by omega
 have i1:(k:Int)<s.n:=by omega
 have i2:¬ (k:Int)<0:=by omega
 have i3:¬ (s.n:Int)≤(k:Int):=by omega
 have bsz:M.base≤((w.alloc (.cells #[.int .i64 0,.int .i64 0,.int .i64 0,.int .i64 0] 136)).alloc (.cells #[.int .i64 0,.int .i64 0,.int .i64 0,.int .i64 0] 136)).drew.heap.size:=Nat.le_trans hF.bw (((Wr.refl Nil w).alloc _).alloc _).drew.size
 have HEE:=Lib.hid (end_none (s:=s) (ev:=0) hk (by unfold behindI;rw [if_neg (by omega),if_neg (by omega),if_neg (by omega),if_neg (by omega)]))
 have b1:(s.st k==1)=false:=beq_false_of_ne s1
 have b3:(s.st k==3)=false:=beq_false_of_ne s3
 have b4:(s.st k==4)=false:=beq_false_of_ne s4
 have HE:=Lib.hid (And.intro h (And.intro hF hk))
 have HG:=Lib.hid hgv
 obtain ⟨Z,hZ⟩:∃ Z,Z=(w.alloc (.cells #[.int .i64 0,.int .i64 0,.int .i64 0,.int .i64 0] 136)).alloc (.cells #[.int .i64 0,.int .i64 0,.int .i64 0,.int .i64 0] 136):=⟨_,rfl⟩
 have HZ:=Lib.hid hZ
 rw [←hZ] at HE hF
 clear hZ
 have HS:=Lib.hid (And.intro s1 (And.intro s3 s4))
 clear hF hR h hg hgv s1 s3 s4
 go_enter func133,ntmps133
 go_wp2
 obtain ⟨X,hX⟩:∃ X,X=(w.alloc (.cells #[.int .i64 0,.int .i64 0,.int .i64 0,.int .i64 0] 136)).alloc (.cells #[.int .i64 0,.int .i64 0,.int .i64 0,.int .i64 0] 136):=⟨_,rfl⟩
 have hFX:Fm w X M bk dv s p mi ps w.heap.size (w.heap.size+1) Dd.no:=by rw [hX];rw [←HZ.out];exact HE.out.2.1
 rw [←hX]
 clear hX
 have n0:=hFX.drew.raw.cell0
 have nd0:=hFX.drew.dcell.1
 have ns:=SrAt.cell0 hFX.drew.raw.seat
 rw [HG.out] at ns
 have cE:=rs_end hFX.drew.raw.seat n1 n2 (k:Int) 0
 rw [HEE.out.1,HEE.out.2] at cE
 have HX:=Lib.hid hFX
 clear hFX
 refine wp_region_noPanic ?_
 refine wp_region_held_drew (S:=λW=>W.cell? ⟨M.r,0,none⟩=some (.pointer (some ⟨M.sr,0,none⟩))∧W.cell? ⟨w.heap.size+1,0,none⟩=some (.int .i64 0)∧W.cell? ⟨M.sr,0,none⟩=some (.slice (some ⟨g,0,none⟩) s.n cg)) (by kernel_rfl) ⟨n0,nd0,ns⟩ (λhHeld=> ?_)
 refine tk (i:=0) (v:= ?v1) rfl ?hy1 ?rest1
 case hy1=>intro w hSw;(try dsimp only at hSw);go_simp;try with_reducible rfl
 (try simp only [Act.put,List.getElem_toArray,List.getElem_cons_zero,List.setIfInBounds_toArray,List.set_cons_zero,List.set_cons_succ])
 refine tk (i:=1) (v:= ?v2) rfl ?hy2 ?rest2
 case hy2=>intro w hSw;(try dsimp only at hSw);go_simp;try with_reducible rfl
 (try simp only [Act.put,List.getElem_toArray,List.getElem_cons_succ,List.getElem_cons_zero,List.setIfInBounds_toArray,List.set_cons_zero,List.set_cons_succ])
 refine tk (i:=2) (v:= ?v3) rfl ?hy3 ?rest3
 case hy3=>intro w hSw;(try dsimp only at hSw);go_simp;try with_reducible rfl
 (try simp only [Act.put,List.getElem_toArray,List.getElem_cons_succ,List.getElem_cons_zero,List.setIfInBounds_toArray,List.set_cons_zero,List.set_cons_succ])
 refine tk (i:=3) (v:= ?v4) rfl ?hy4 ?rest4
 case hy4=>intro w hSw;(try dsimp only at hSw);go_simp;try with_reducible rfl
 (try simp only [Act.put,List.getElem_toArray,List.getElem_cons_succ,List.getElem_cons_zero,List.setIfInBounds_toArray,List.set_cons_zero,List.set_cons_succ])
 refine tk (i:=4) (v:= ?v5) rfl ?hy5 ?rest5
 case hy5=>intro w hSw;(try dsimp only at hSw);go_simp;try with_reducible rfl
 (try simp only [Act.put,List.getElem_toArray,List.getElem_cons_succ,List.getElem_cons_zero,List.setIfInBounds_toArray,List.set_cons_zero,List.set_cons_succ])
 refine tk (i:=5) (v:= ?v6) rfl ?hy6 ?rest6
 case hy6=>intro w hSw;(try dsimp only at hSw);go_simp;try with_reducible rfl
 (try simp only [Act.put,List.getElem_toArray,List.getElem_cons_succ,List.getElem_cons_zero,List.setIfInBounds_toArray,List.set_cons_zero,List.set_cons_succ])
 refine tk (i:=6) (v:= ?v7) rfl ?hy7 ?rest7
 case hy7=>intro w hSw;(try dsimp only at hSw);go_simp;try with_reducible rfl
 (try simp only [Act.put,List.getElem_toArray,List.getElem_cons_succ,List.getElem_cons_zero,List.setIfInBounds_toArray,List.set_cons_zero,List.set_cons_succ])
 refine wpAnyH_ready (rs:=[7]) (by kernel_rfl) (by simp) ?_
 refine AllReadyH.cons rfl (λK hK=> ?_) AllReadyH.nil
 go_simp
 go_at_call 128
 with_reducible refine cE.mono ?_
 intro e w4 hq
 have hF4:=HX.out.drew.ends (s':=s) rfl hq
 unfold RsPost at hq
 obtain ⟨rfl,_,_⟩:=hq
 obtain ⟨p0,p1,p2,p3⟩:=hF4.dcell
 obtain ⟨v0,v1,v2,v3⟩:=hF4.rcell
 obtain ⟨x0,x1,x2,x3⟩:=hF4.rfrz
 have m0:=hF4.raw.cell0
 have ms:=SrAt.cell0 hF4.raw.seat
 rw [HG.out] at ms
 have HT:=Lib.hid hF4
 clear hF4
 go_wp2
 refine hK.out _ _ (⟨m0,p0,ms⟩) (λhHeld2=> ?_)
 clear hHeld K hK
 have hHeld:=hHeld2
 clear hHeld2
 (try simp only [Act.put,List.getElem_toArray,List.getElem_cons_succ,List.getElem_cons_zero,List.setIfInBounds_toArray,List.set_cons_zero,List.set_cons_succ])
 refine tk (i:=8) (v:= ?v8) rfl ?hy8 ?rest8
 case hy8=>intro w hSw;(try dsimp only at hSw);go_simp;try with_reducible rfl
 (try simp only [Act.put,List.getElem_toArray,List.getElem_cons_succ,List.getElem_cons_zero,List.setIfInBounds_toArray,List.set_cons_zero,List.set_cons_succ])
 refine tk (i:=9) (v:= ?v9) rfl ?hy9 ?rest9
 case hy9=>intro w hSw;(try dsimp only at hSw);go_simp;try with_reducible rfl
 (try simp only [Act.put,List.getElem_toArray,List.getElem_cons_succ,List.getElem_cons_zero,List.setIfInBounds_toArray,List.set_cons_zero,List.set_cons_succ])
 refine wpAnyH_take (i:=10) (v:=undef) rfl (by kernel_rfl) (by kernel_rfl) (by kernel_rfl) (λ_ _ _ h=>h) (Or.inr ⟨by rfl,rfl⟩) (by assumption) ?rest10
 (try simp only [Act.put,List.getElem_toArray,List.getElem_cons_succ,List.getElem_cons_zero,List.setIfInBounds_toArray,List.set_cons_zero,List.set_cons_succ])
 refine wpAnyH_take (i:=11) (v:=undef) rfl (by kernel_rfl) (by kernel_rfl) (by kernel_rfl) (λ_ _ _ h=>h) (Or.inr ⟨by rfl,rfl⟩) (by assumption) ?rest11
 (try simp only [Act.put,List.getElem_toArray,List.getElem_cons_succ,List.getElem_cons_zero,List.setIfInBounds_toArray,List.set_cons_zero,List.set_cons_succ])
 refine wpAnyH_take (i:=12) (v:=undef) rfl (by kernel_rfl) (by kernel_rfl) (by kernel_rfl) (λ_ _ _ h=>h) (Or.inr ⟨by rfl,rfl⟩) (by assumption) ?rest12
 (try simp only [Act.put,List.getElem_toArray,List.getElem_cons_succ,List.getElem_cons_zero,List.setIfInBounds_toArray,List.set_cons_zero,List.set_cons_succ])
 refine wpAnyH_take (i:=13) (v:=undef) rfl (by kernel_rfl) (by kernel_rfl) (by kernel_rfl) (λ_ _ _ h=>h) (Or.inr ⟨by rfl,rfl⟩) (by assumption) ?rest13
 (try simp only [Act.put,List.getElem_toArray,List.getElem_cons_succ,List.getElem_cons_zero,List.setIfInBounds_toArray,List.set_cons_zero,List.set_cons_succ])
 refine wpAnyH_take (i:=14) (v:=undef) rfl (by kernel_rfl) (by kernel_rfl) (by kernel_rfl) (λ_ _ _ h=>h) (Or.inr ⟨by rfl,rfl⟩) (by assumption) ?rest14
 (try simp only [Act.put,List.getElem_toArray,List.getElem_cons_succ,List.getElem_cons_zero,List.setIfInBounds_toArray,List.set_cons_zero,List.set_cons_succ])
 refine wpAnyH_take (i:=15) (v:=undef) rfl (by kernel_rfl) (by kernel_rfl) (by kernel_rfl) (λ_ _ _ h=>h) (Or.inr ⟨by rfl,rfl⟩) (by assumption) ?rest15
 (try simp only [Act.put,List.getElem_toArray,List.getElem_cons_succ,List.getElem_cons_zero,List.setIfInBounds_toArray,List.set_cons_zero,List.set_cons_succ])
 refine wpAnyH_take (i:=16) (v:=undef) rfl (by kernel_rfl) (by kernel_rfl) (by kernel_rfl) (λ_ _ _ h=>h) (Or.inr ⟨by rfl,rfl⟩) (by assumption) ?rest16
 (try simp only [Act.put,List.getElem_toArray,List.getElem_cons_succ,List.getElem_cons_zero,List.setIfInBounds_toArray,List.set_cons_zero,List.set_cons_succ])
 refine wpAnyH_take (i:=17) (v:=undef) rfl (by kernel_rfl) (by kernel_rfl) (by kernel_rfl) (λ_ _ _ h=>h) (Or.inr ⟨by rfl,rfl⟩) (by assumption) ?rest17
 (try simp only [Act.put,List.getElem_toArray,List.getElem_cons_succ,List.getElem_cons_zero,List.setIfInBounds_toArray,List.set_cons_zero,List.set_cons_succ])
 refine wpAnyH_take (i:=18) (v:=undef) rfl (by kernel_rfl) (by kernel_rfl) (by kernel_rfl) (λ_ _ _ h=>h) (Or.inr ⟨by rfl,rfl⟩) (by assumption) ?rest18
 (try simp only [Act.put,List.getElem_toArray,List.getElem_cons_succ,List.getElem_cons_zero,List.setIfInBounds_toArray,List.set_cons_zero,List.set_cons_succ])
 refine wpAnyH_take (i:=19) (v:=undef) rfl (by kernel_rfl) (by kernel_rfl) (by kernel_rfl) (λ_ _ _ h=>h) (Or.inr ⟨by rfl,rfl⟩) (by assumption) ?rest19
 (try simp only [Act.put,List.getElem_toArray,List.getElem_cons_succ,List.getElem_cons_zero,List.setIfInBounds_toArray,List.set_cons_zero,List.set_cons_succ])
 refine wpAnyH_take (i:=20) (v:=undef) rfl (by kernel_rfl) (by kernel_rfl) (by kernel_rfl) (λ_ _ _ h=>h) (Or.inr ⟨by rfl,rfl⟩) (by assumption) ?rest20
 (try simp only [Act.put,List.getElem_toArray,List.getElem_cons_succ,List.getElem_cons_zero,List.setIfInBounds_toArray,List.set_cons_zero,List.set_cons_succ])
 refine tk (i:=21) (v:= ?v21) rfl ?hy21 ?rest21
 case hy21=>intro w hSw;(try dsimp only at hSw);go_simp;try with_reducible rfl
 (try simp only [Act.put,List.getElem_toArray,List.getElem_cons_succ,List.getElem_cons_zero,List.setIfInBounds_toArray,List.set_cons_zero,List.set_cons_succ])
 refine wpAnyH_done (by kernel_rfl) ?_ _
 refine NoPanic.normal ?_
 go_wp2
 refine bodyPost_ret (v:=Dd.rval Dd.no) (results_cell_row rfl _ _ w.heap.size 136 _ (0,0) _ rfl (set4 HT.out.res rfl _ _ _ _) underlying136 rfl i_rid) rfl HT.out.told
theorem ml_out {w:World} {M:Mp} {bk:Nat} {so:Option Addr} {cap:Nat} {dv:Value} {s:SS} {p:Nat→Bool} {mi:Nat→Int} {ps:PSta} (h:MsIn w M bk so cap dv s p mi ps) (t:Int) (ht:¬ (0≤t∧t<s.n)) (u x:Int):
  Calls prog 133 #[.pointer (some ⟨M.r,0,none⟩),.pointer (some ⟨M.pr,0,none⟩),.int .i64 t,.int .i64 u,.int .i64 x] w (MsPost w M bk dv s p mi ps Dd.no):=by
 have n2:=h.n2
 have kk:Wr Nil w (w.alloc (.cells #[.int .i64 0,.int .i64 0,.int .i64 0,.int .i64 0] 136)):=(Wr.refl _ w).alloc _
 have b2:=(h.raw.after kk).cell2
 have hB:=Go.Deep.blk_alloc_new w (.cells #[.int .i64 0,.int .i64 0,.int .i64 0,.int .i64 0] 136)
 have HE:=Lib.hid (And.intro (h.raw.after kk) (And.intro (h.ref.after kk λ_ _=>id) (And.intro hB kk)))
 clear h kk hB
 by_cases h0:t<0
 ·go_enter func133,ntmps133
  go_wp2
  refine bodyPost_ret (v:=Dd.rval Dd.no) (results_cell_row rfl _ _ w.heap.size 136 _ (0,0) _ rfl HE.out.2.2.1 underlying136 rfl i_rid) rfl ⟨rfl,HE.out.1,⟨bk,so,cap,dv,HE.out.2.1⟩,HE.out.2.2.2.mono λ_ _ e=>e.elim⟩
 ·have h1:(s.n:Int)≤t:=by omega
  clear ht
  generalize s.n=n at*
  go_enter func133,ntmps133
  go_wp2
  refine bodyPost_ret (v:=Dd.rval Dd.no) (results_cell_row rfl _ _ w.heap.size 136 _ (0,0) _ rfl HE.out.2.2.1 underlying136 rfl i_rid) rfl ⟨rfl,HE.out.1,⟨bk,so,cap,dv,HE.out.2.1⟩,HE.out.2.2.2.mono λ_ _ e=>e.elim⟩
def MmPost (w:World) (M:Mp) (bk:Nat) (dv:Value) (f:FL) (d:Dd) (e:Ending) (w':World):Prop:=
 e= .returned d.rval∧MlAt w' M f∧RefSt w' M.base M.pr f.ps∧Wr (MG M bk dv) w w'
structure MmIn (w:World) (M:Mp) (bk:Nat) (so:Option Addr) (cap:Nat) (dv:Value) (f:FL) (L:Lp):Prop where
 ml:MlAt w M f
 ref:RefAt w M.base M.pr bk so cap dv f.ps
 n1:1≤f.s.n
 n2:f.s.n≤64
 hD:f.ps.D.length<1000000
 hws:f.ps.ws.length≤4096
 hac:f.ps.ac.length≤64
 hb:M.base≤w.heap.size
 ha:0≤M.a∧M.a≤4096
 l1:L.a1=M.a
 l2:L.a2=M.a+1
 dr:∀ k,k<f.s.n→f.s.st k=3∨f.s.st k=4→f.dr k=true
 tell:∀ u,0≤tellS f.ps u 5 M.a∧tellS f.ps u 5 M.a<4294967296
theorem mm_step {w:World} {M:Mp} {bk:Nat} {so:Option Addr} {cap:Nat} {dv:Value} {f:FL} {L:Lp} (h:MmIn w M bk so cap dv f L) (t u x:Int):
  Calls prog 133 #[.pointer (some ⟨M.r,0,none⟩),.pointer (some ⟨M.pr,0,none⟩),.int .i64 t,.int .i64 u,.int .i64 x] w (MmPost w M bk dv (f.step L t u) (f.did L t u)):=by
 obtain ⟨mi,hraw,hrng,hag⟩:=h.ml.raw
 have hin:MsIn w M bk so cap dv f.s f.dr mi f.ps:=⟨hraw,h.ref,h.n1,h.n2,h.hD,h.hws,h.hac,h.hb,h.ha⟩
 by_cases ht:0≤t∧t<f.s.n
 ·obtain ⟨k,rfl⟩:=Int.eq_ofNat_of_zero_le ht.1
  have hk:k<f.s.n:=by omega
  by_cases s1:f.s.st k=1
  ·cases hd:f.dr k
   ·have ed:f.did L k u=⟨0,true,false,false⟩:=by
     unfold FL.did FL.acqD
     rw [if_pos ht,Int.toNat_natCast,if_pos s1,hd,if_neg (by decide)]
    have es:f.step L k u={f with num:=upd f.num k (tellS f.ps u 5 M.a),dr:=upd f.dr k true,ps:=doS f.ps u 5 M.a 0 1}:=by
     unfold FL.step
     rw [ed,fin_none (by rw [s1];rfl)]
     unfold FL.mid FL.acq
     rw [if_pos ht,Int.toNat_natCast,if_pos s1,hd,if_neg (by decide),h.l1]
    rw [ed,es]
    refine (ml_draw hin k hk u x s1 hd).mono ?_
    rintro e w' ⟨rfl,a,b,c⟩
    refine ⟨rfl,⟨_,a,λj=> ?_,λj hj hdj=> ?_⟩,b,c⟩
    ·by_cases q:j=k
     ·subst q;rw [upd_same];exact h.tell u
     ·rw [upd_other _ _ q];exact hrng j
    ·show upd mi k _ j=upd f.num k _ j
     by_cases q:j=k
     ·subst q;rw [upd_same,upd_same]
     ·rw [upd_other _ _ q,upd_other _ _ q]
      exact hag j hj (by have hdj:upd f.dr k true j=true:=hdj
                         rw [upd_other _ _ q] at hdj;exact hdj)
   ·have em:mi k=f.num k:=hag k hk hd
    by_cases he:tellS f.ps u 1 (M.a+1)=mi k
    ·have ed:f.did L k u=⟨1,false,false,false⟩:=by
      unfold FL.did FL.acqD
      rw [if_pos ht,Int.toNat_natCast,if_pos s1,hd,if_pos rfl,h.l2,if_pos (by rw [←em];exact he)]
     have es:f.step L k u={f with s:=f.s.set k 2 0,ps:=doS f.ps u 1 (M.a+1) 0 0}:=by
      unfold FL.step
      rw [ed,fin_some hk (by rw [s1];rfl:behindI (f.s.st k) 1=some 2)]
      unfold FL.mid FL.acq
      rw [if_pos ht,Int.toNat_natCast,if_pos s1,hd,if_pos rfl,h.l2]
     rw [ed,es]
     refine (ml_grant hin k hk u x s1 hd he).mono ?_
     rintro e w' ⟨rfl,a,b,c⟩
     exact ⟨rfl,⟨_,a,hrng,hag⟩,b,c⟩
    ·have ed:f.did L k u=Dd.no:=by
      unfold FL.did FL.acqD
      rw [if_pos ht,Int.toNat_natCast,if_pos s1,hd,if_pos rfl,h.l2,if_neg (by rw [←em];exact he)]
     have es:f.step L k u={f with ps:=doS f.ps u 1 (M.a+1) 0 0}:=by
      unfold FL.step
      rw [ed,fin_none (by rw [s1];rfl)]
      unfold FL.mid FL.acq
      rw [if_pos ht,Int.toNat_natCast,if_pos s1,hd,if_pos rfl,h.l2]
     rw [ed,es]
     refine (ml_wait hin k hk u x s1 hd he).mono ?_
     rintro e w' ⟨rfl,a,b,c⟩
     exact ⟨rfl,⟨_,a,hrng,hag⟩,b,c⟩
  ·by_cases s3:f.s.st k=3
   ·have em:mi k=f.num k:=hag k hk (h.dr k hk (.inl s3))
    have ed:f.did L k u=⟨3,false,false,false⟩:=by
     unfold FL.did
     rw [if_pos ht,Int.toNat_natCast,if_neg s1,if_pos s3]
    have es:f.step L k u={f with s:=f.s.set k 0 0,num:=upd f.num k 0,dr:=upd f.dr k false,ps:=doS f.ps u 2 (M.a+1) 0 ((mi k+1)%4294967296)}:=by
     unfold FL.step
     rw [ed,fin_some hk (by rw [s3];rfl:behindI (f.s.st k) 3=some 0)]
     unfold FL.mid FL.rel
     rw [if_pos ht,Int.toNat_natCast,if_neg s1,if_pos s3,h.l2,em]
    rw [ed,es]
    refine (ml_free hin k hk u x s3 hrng).mono ?_
    rintro e w' ⟨rfl,a,b,c⟩
    refine ⟨rfl,⟨_,a,hrng,λj hj hdj=> ?_⟩,b,c⟩
    have hdj:upd f.dr k false j=true:=hdj
    show mi j=upd f.num k 0 j
    by_cases q:j=k
    ·subst q;rw [upd_same] at hdj;cases hdj
    ·rw [upd_other _ _ q] at hdj ⊢
     exact hag j hj hdj
   ·by_cases s4:f.s.st k=4
    ·have em:mi k=f.num k:=hag k hk (h.dr k hk (.inr s4))
     by_cases he:tellS f.ps u 1 M.a=(mi k+1)%4294967296
     ·have ed:f.did L k u=⟨4,false,false,false⟩:=by
       unfold FL.did FL.askD
       rw [if_pos ht,Int.toNat_natCast,if_neg s1,if_neg s3,if_pos s4,h.l1,if_pos (by rw [←em];exact he)]
      have es:f.step L k u={f with s:=f.s.set k 2 0,ps:=doS f.ps u 1 M.a 0 0}:=by
       unfold FL.step
       rw [ed,fin_some hk (by rw [s4];rfl:behindI (f.s.st k) 4=some 2)]
       unfold FL.mid FL.ask
       rw [if_pos ht,Int.toNat_natCast,if_neg s1,if_neg s3,if_pos s4,h.l1]
      rw [ed,es]
      refine (ml_alone hin k hk u x s4 he).mono ?_
      rintro e w' ⟨rfl,a,b,c⟩
      exact ⟨rfl,⟨_,a,hrng,hag⟩,b,c⟩
     ·have ed:f.did L k u=⟨5,false,false,false⟩:=by
       unfold FL.did FL.askD
       rw [if_pos ht,Int.toNat_natCast,if_neg s1,if_neg s3,if_pos s4,h.l1,if_neg (by rw [←em];exact he)]
      have es:f.step L k u={f with s:=f.s.set k 2 0,ps:=doS f.ps u 1 M.a 0 0}:=by
       unfold FL.step
       rw [ed,fin_some hk (by rw [s4];rfl:behindI (f.s.st k) 5=some 2)]
       unfold FL.mid FL.ask
       rw [if_pos ht,Int.toNat_natCast,if_neg s1,if_neg s3,if_pos s4,h.l1]
      rw [ed,es]
      refine (ml_company hin k hk u x s4 he).mono ?_
      rintro e w' ⟨rfl,a,b,c⟩
      exact ⟨rfl,⟨_,a,hrng,hag⟩,b,c⟩
    ·have ed:f.did L k u=Dd.no:=by
      unfold FL.did
      rw [if_pos ht,Int.toNat_natCast,if_neg s1,if_neg s3,if_neg s4]
     have es:f.step L k u=f:=by
      unfold FL.step
      rw [ed,fin_none (by unfold behindI Dd.no;rw [if_neg (by omega),if_neg (by omega),if_neg (by omega),if_neg (by omega)])]
      unfold FL.mid
      rw [if_pos ht,Int.toNat_natCast,if_neg s1,if_neg s3,if_neg s4]
     rw [ed,es]
     refine (ml_idle hin k hk u x s1 s3 s4).mono ?_
     rintro e w' ⟨rfl,a,b,c⟩
     exact ⟨rfl,⟨_,a,hrng,hag⟩,b,c⟩
 ·have ed:f.did L t u=Dd.no:=by unfold FL.did;rw [if_neg ht]
  have es:f.step L t u=f:=by
   unfold FL.step
   have e0:endO f.s t Dd.no.ev=none:=by unfold endO;rw [if_neg ht]
   have e1:f.s.fin t Dd.no.ev=f.s:=by unfold SS.fin;rw [e0]
   rw [ed,e1]
   unfold FL.mid
   rw [if_neg ht]
  rw [ed,es]
  refine (ml_out hin t ht u x).mono ?_
  rintro e w' ⟨rfl,a,b,c⟩
  exact ⟨rfl,⟨_,a,hrng,hag⟩,b,c⟩
def NewMlPost (w:World) (n:Nat) (a:Int) (e:Ending) (w':World):Prop:=
 ∃ M:Mp,e= .returned (.pointer (some ⟨M.r,0,none⟩))∧MlRaw w' M (newSeat n false true) (λ_=>false) (λ_=>0)∧M.a=a∧M.base=w'.heap.size∧(w.heap.size≤M.r∧∀ k,MF M k→w.heap.size≤k)∧Wr Nil w w'
theorem two_0 (w:World) (A B:Obj):((w.alloc A).alloc B).heap[w.heap.size]? =some A:=by
 rw [blk_alloc_lt _ _ _ (by rw [nblk_alloc];omega),blk_alloc_new]
theorem two_1 (w:World) (A B:Obj):((w.alloc A).alloc B).heap[w.heap.size+1]? =some B:=by
 rw [←nblk_alloc w A,blk_alloc_new]
theorem ml_end {w Wc w2 W:World} {n:Nat} {a:Int} {r pc mn lb:Nat} {hv dv:Value} {A B:Array Value} (hA:rowA n (pcV λ_=>false)=A) (hB:rowA n (miV λ_=>0)=B) (h0:Wr Nil w Wc) (hR:RsAt w2 r hv dv (newSeat n false true)) (hnew:∀ k,SF r hv dv k→Wc.heap.size≤k) (hW:Wr Nil Wc w2) (h2:Wr Nil w2 W)
  (hp:W.heap[pc]? =some (.cells A 3 (0,0))) (hm:W.heap[mn]? =some (.cells B 62 (0,0))) (hpp:(w.heap.size≤pc∧pc<Wc.heap.size)∨w2.heap.size≤pc) (hmm:(w.heap.size≤mn∧mn<Wc.heap.size)∨w2.heap.size≤mn) (hne:pc≠mn) (hlb:lb=W.heap.size)
  (Y:World) (hY:Y=W.alloc (.cells #[.pointer (some ⟨r,0,none⟩),.int .i64 a,.slice (some ⟨pc,0,none⟩) n n,.slice (some ⟨mn,0,none⟩) n n] 159)):NewMlPost w n a (.returned (.pointer (some ⟨lb,0,none⟩))) Y:=by
 subst hlb hY hA hB
 have k:Wr Nil W (W.alloc (.cells #[.pointer (some ⟨r,0,none⟩),.int .i64 a,.slice (some ⟨pc,0,none⟩) n n,.slice (some ⟨mn,0,none⟩) n n] 159)):=(Wr.refl _ W).alloc _
 have e1:(W.alloc (.cells #[.pointer (some ⟨r,0,none⟩),.int .i64 a,.slice (some ⟨pc,0,none⟩) n n,.slice (some ⟨mn,0,none⟩) n n] 159)).heap.size=W.heap.size+1:=nblk_alloc _ _
 have s0:=h0.size
 have s1:=hW.size
 have s2:=h2.size
 have lp:=blk_lt hp
 have lm:=blk_lt hm
 have hsf:∀ k,SF r hv dv k→Wc.heap.size≤k∧k<w2.heap.size:=λk hk=>⟨hnew k hk,SrAt.lt hR hk⟩
 refine ⟨⟨W.heap.size,r,hv,dv,pc,mn,a,0,(W.alloc (.cells #[.pointer (some ⟨r,0,none⟩),.int .i64 a,.slice (some ⟨pc,0,none⟩) n n,.slice (some ⟨mn,0,none⟩) n n] 159)).heap.size⟩,rfl,⟨blk_alloc_new W _,hR.after (h2.nil k),(k.block _ lp id).trans hp,(k.block _ lm id).trans hm,⟨by dsimp only;omega,by dsimp only;omega,hne⟩,λj hj=> ?_,?_⟩,rfl,rfl,⟨by dsimp only;omega,λj hj=> ?_⟩,((h0.nil hW).nil h2).nil k⟩
 ·have:=hsf j hj
  dsimp only
  omega
 ·dsimp only
  exact ⟨by omega,by omega,by omega,λj hj=>by have:=hsf j hj;omega⟩
 ·rcases hj with rfl|rfl|hj
  ·(try dsimp only);omega
  ·(try dsimp only);omega
  ·have:=hsf j hj;omega
theorem ml_new (n:Nat) (n2:n≤64) (a:Int) (w:World):Calls prog 50 #[.int .i64 (n:Int),.int .i64 a] w (NewMlPost w n a):=by
 obtain ⟨i0,hi,hz0,hz1,hz2⟩:=info_parts info_int
 have hmk:∀ w:World,(Instr.makeSlice 22 (.int .i64 (n:Int)) (.int .i64 (n:Int))).run prog w= .ok (.slice (some ⟨w.heap.size,0,none⟩) n n) (w.alloc (.cells (rowA n (pcV λ_=>false)) 3)):=by
  intro w
  have h:=Go.run_make (P:=prog) w 22 3 i0 _ underlying22 hi hz0 .i64 .i64 n n (by omega) (by omega) (by rw [hz2];omega) (by omega)
  rw [hz1] at h
  simp only [Int.toNat_natCast] at h
  rw [show madeCells (Value.int .i64 0).cells (n*1)=rowA n (pcV λ_=>false) from made_row (.int .i64 0) n] at h
  exact h
 obtain ⟨j0,gi,gz0,gz1,gz2⟩:=info_parts (show (prog.info? 62).map (λi=>(i.zero,i.size,i.bytes))=some (some (.int .u32 0),1,4) by kernel_rfl)
 have hmm:∀ w:World,(Instr.makeSlice 54 (.int .i64 (n:Int)) (.int .i64 (n:Int))).run prog w= .ok (.slice (some ⟨w.heap.size,0,none⟩) n n) (w.alloc (.cells (rowA n (miV λ_=>0)) 62)):=by
  intro w
  have h:=Go.run_make (P:=prog) w 54 62 j0 _ underlying54 gi gz0 .i64 .i64 n n (by omega) (by omega) (by rw [gz2];omega) (by omega)
  rw [gz1] at h
  simp only [Int.toNat_natCast] at h
  rw [show madeCells (Value.int .u32 0).cells (n*1)=rowA n (miV λ_=>0) from made_row (.int .u32 0) n] at h
  exact h
 generalize hA:rowA n (pcV λ_=>false)=A at hmk
 generalize hB:rowA n (miV λ_=>0)=B at hmm
 have cS:=λW=>rs_new n false true n2 W
 have HA:=Lib.hid (And.intro hA hB)
 clear hA hB
 go_enter func50,ntmps50
 go_wp2
 go_region_with (go_at_call 32;(with_reducible refine (cS _).mono ?_);intro e w2 hq;unfold RsNewPost at hq;obtain ⟨r,hv,dv,rfl,hR,hnew,hW⟩:=hq;have HR:=Lib.hid (And.intro hR (And.intro hnew hW));clear hR hnew hW cS)
 all_goals
  go_wp2
  go_ret
  first
   |exact ml_end HA.out.1 HA.out.2 ((Wr.refl Nil w).drew) HR.out.1 HR.out.2.1 HR.out.2.2 (((Wr.refl Nil w2).alloc _).alloc _) (two_0 w2 _ _) (two_1 w2 _ _) (by exact .inr (Nat.le_refl _)) (by exact .inr (Nat.le_succ _)) (by omega) (by simp only [nblk_alloc]) _ rfl
   |exact ml_end HA.out.1 HA.out.2 ((Wr.refl Nil w).drew) HR.out.1 HR.out.2.1 HR.out.2.2 (((Wr.refl Nil w2).alloc _).alloc _) (two_1 w2 _ _) (two_0 w2 _ _) (by exact .inr (Nat.le_succ _)) (by exact .inr (Nat.le_refl _)) (by omega) (by simp only [nblk_alloc]) _ rfl
   |exact ml_end HA.out.1 HA.out.2 (((Wr.refl Nil w).alloc _).drew) HR.out.1 HR.out.2.1 HR.out.2.2 ((Wr.refl Nil w2).alloc _) ((blk_alloc_lt w2 _ _ (Nat.lt_of_lt_of_le ((by have e:(w.alloc (.cells A 3)).heap.size=w.heap.size+1:=nblk_alloc _ _;show w.heap.size<(w.alloc (.cells A 3)).heap.size;omega)) HR.out.2.2.size)).trans ((HR.out.2.2.block w.heap.size ((by have e:(w.alloc (.cells A 3)).heap.size=w.heap.size+1:=nblk_alloc _ _;show w.heap.size<(w.alloc (.cells A 3)).heap.size;omega)) id).trans (blk_alloc_new w (.cells A 3)))) (blk_alloc_new w2 _) (by exact .inl ⟨Nat.le_refl _,(by have e:(w.alloc (.cells A 3)).heap.size=w.heap.size+1:=nblk_alloc _ _;show w.heap.size<(w.alloc (.cells A 3)).heap.size;omega)⟩) (by exact .inr (Nat.le_refl _)) (by have q1:w.heap.size<(w.alloc (.cells A 3)).heap.size:=(by have e:(w.alloc (.cells A 3)).heap.size=w.heap.size+1:=nblk_alloc _ _;show w.heap.size<(w.alloc (.cells A 3)).heap.size;omega);have q2:=HR.out.2.2.size;have q3:(w.alloc (.cells A 3)).heap.size≤w2.heap.size:=q2;omega) (by simp only [nblk_alloc]) _ rfl
   |exact ml_end HA.out.1 HA.out.2 (((Wr.refl Nil w).drew).alloc _) HR.out.1 HR.out.2.1 HR.out.2.2 ((Wr.refl Nil w2).alloc _) ((blk_alloc_lt w2 _ _ (Nat.lt_of_lt_of_le ((by have e:(w.alloc (.cells A 3)).heap.size=w.heap.size+1:=nblk_alloc _ _;show w.heap.size<(w.alloc (.cells A 3)).heap.size;omega)) HR.out.2.2.size)).trans ((HR.out.2.2.block w.heap.size ((by have e:(w.alloc (.cells A 3)).heap.size=w.heap.size+1:=nblk_alloc _ _;show w.heap.size<(w.alloc (.cells A 3)).heap.size;omega)) id).trans (blk_alloc_new w (.cells A 3)))) (blk_alloc_new w2 _) (by exact .inl ⟨Nat.le_refl _,(by have e:(w.alloc (.cells A 3)).heap.size=w.heap.size+1:=nblk_alloc _ _;show w.heap.size<(w.alloc (.cells A 3)).heap.size;omega)⟩) (by exact .inr (Nat.le_refl _)) (by have q1:w.heap.size<(w.alloc (.cells A 3)).heap.size:=(by have e:(w.alloc (.cells A 3)).heap.size=w.heap.size+1:=nblk_alloc _ _;show w.heap.size<(w.alloc (.cells A 3)).heap.size;omega);have q2:=HR.out.2.2.size;have q3:(w.alloc (.cells A 3)).heap.size≤w2.heap.size:=q2;omega) (by simp only [nblk_alloc]) _ rfl
   |exact ml_end HA.out.1 HA.out.2 (((Wr.refl Nil w).alloc _).drew) HR.out.1 HR.out.2.1 HR.out.2.2 ((Wr.refl Nil w2).alloc _) (blk_alloc_new w2 _) ((blk_alloc_lt w2 _ _ (Nat.lt_of_lt_of_le ((by have e:(w.alloc (.cells B 62)).heap.size=w.heap.size+1:=nblk_alloc _ _;show w.heap.size<(w.alloc (.cells B 62)).heap.size;omega)) HR.out.2.2.size)).trans ((HR.out.2.2.block w.heap.size ((by have e:(w.alloc (.cells B 62)).heap.size=w.heap.size+1:=nblk_alloc _ _;show w.heap.size<(w.alloc (.cells B 62)).heap.size;omega)) id).trans (blk_alloc_new w (.cells B 62)))) (by exact .inr (Nat.le_refl _)) (by exact .inl ⟨Nat.le_refl _,(by have e:(w.alloc (.cells B 62)).heap.size=w.heap.size+1:=nblk_alloc _ _;show w.heap.size<(w.alloc (.cells B 62)).heap.size;omega)⟩) (by have q1:w.heap.size<(w.alloc (.cells B 62)).heap.size:=(by have e:(w.alloc (.cells B 62)).heap.size=w.heap.size+1:=nblk_alloc _ _;show w.heap.size<(w.alloc (.cells B 62)).heap.size;omega);have q2:=HR.out.2.2.size;have q3:(w.alloc (.cells B 62)).heap.size≤w2.heap.size:=q2;omega) (by simp only [nblk_alloc]) _ rfl
   |exact ml_end HA.out.1 HA.out.2 (((Wr.refl Nil w).drew).alloc _) HR.out.1 HR.out.2.1 HR.out.2.2 ((Wr.refl Nil w2).alloc _) (blk_alloc_new w2 _) ((blk_alloc_lt w2 _ _ (Nat.lt_of_lt_of_le ((by have e:(w.alloc (.cells B 62)).heap.size=w.heap.size+1:=nblk_alloc _ _;show w.heap.size<(w.alloc (.cells B 62)).heap.size;omega)) HR.out.2.2.size)).trans ((HR.out.2.2.block w.heap.size ((by have e:(w.alloc (.cells B 62)).heap.size=w.heap.size+1:=nblk_alloc _ _;show w.heap.size<(w.alloc (.cells B 62)).heap.size;omega)) id).trans (blk_alloc_new w (.cells B 62)))) (by exact .inr (Nat.le_refl _)) (by exact .inl ⟨Nat.le_refl _,(by have e:(w.alloc (.cells B 62)).heap.size=w.heap.size+1:=nblk_alloc _ _;show w.heap.size<(w.alloc (.cells B 62)).heap.size;omega)⟩) (by have q1:w.heap.size<(w.alloc (.cells B 62)).heap.size:=(by have e:(w.alloc (.cells B 62)).heap.size=w.heap.size+1:=nblk_alloc _ _;show w.heap.size<(w.alloc (.cells B 62)).heap.size;omega);have q2:=HR.out.2.2.size;have q3:(w.alloc (.cells B 62)).heap.size≤w2.heap.size:=q2;omega) (by simp only [nblk_alloc]) _ rfl
   |exact ml_end HA.out.1 HA.out.2 ((((Wr.refl Nil w).alloc _).alloc _).drew) HR.out.1 HR.out.2.1 HR.out.2.2 (Wr.refl Nil w2) ((HR.out.2.2.block w.heap.size ((by have e:((w.alloc (.cells A 3)).alloc (.cells B 62)).heap.size=w.heap.size+1+1:=(by rw [nblk_alloc,nblk_alloc]);show w.heap.size<((w.alloc (.cells A 3)).alloc (.cells B 62)).heap.size;omega)) id).trans (two_0 w (.cells A 3) (.cells B 62))) ((HR.out.2.2.block (w.heap.size+1) ((by have e:((w.alloc (.cells A 3)).alloc (.cells B 62)).heap.size=w.heap.size+1+1:=(by rw [nblk_alloc,nblk_alloc]);show w.heap.size+1<((w.alloc (.cells A 3)).alloc (.cells B 62)).heap.size;omega)) id).trans (two_1 w (.cells A 3) (.cells B 62))) (by exact .inl ⟨Nat.le_refl _,(by have e:((w.alloc (.cells A 3)).alloc (.cells B 62)).heap.size=w.heap.size+1+1:=(by rw [nblk_alloc,nblk_alloc]);show w.heap.size<((w.alloc (.cells A 3)).alloc (.cells B 62)).heap.size;omega)⟩) (by exact .inl ⟨Nat.le_succ _,(by have e:((w.alloc (.cells A 3)).alloc (.cells B 62)).heap.size=w.heap.size+1+1:=(by rw [nblk_alloc,nblk_alloc]);show w.heap.size+1<((w.alloc (.cells A 3)).alloc (.cells B 62)).heap.size;omega)⟩) (by omega) rfl _ rfl
   |exact ml_end HA.out.1 HA.out.2 ((((Wr.refl Nil w).drew).alloc _).alloc _) HR.out.1 HR.out.2.1 HR.out.2.2 (Wr.refl Nil w2) ((HR.out.2.2.block w.heap.size ((by have e:((w.alloc (.cells A 3)).alloc (.cells B 62)).heap.size=w.heap.size+1+1:=(by rw [nblk_alloc,nblk_alloc]);show w.heap.size<((w.alloc (.cells A 3)).alloc (.cells B 62)).heap.size;omega)) id).trans (two_0 w (.cells A 3) (.cells B 62))) ((HR.out.2.2.block (w.heap.size+1) ((by have e:((w.alloc (.cells A 3)).alloc (.cells B 62)).heap.size=w.heap.size+1+1:=(by rw [nblk_alloc,nblk_alloc]);show w.heap.size+1<((w.alloc (.cells A 3)).alloc (.cells B 62)).heap.size;omega)) id).trans (two_1 w (.cells A 3) (.cells B 62))) (by exact .inl ⟨Nat.le_refl _,(by have e:((w.alloc (.cells A 3)).alloc (.cells B 62)).heap.size=w.heap.size+1+1:=(by rw [nblk_alloc,nblk_alloc]);show w.heap.size<((w.alloc (.cells A 3)).alloc (.cells B 62)).heap.size;omega)⟩) (by exact .inl ⟨Nat.le_succ _,(by have e:((w.alloc (.cells A 3)).alloc (.cells B 62)).heap.size=w.heap.size+1+1:=(by rw [nblk_alloc,nblk_alloc]);show w.heap.size+1<((w.alloc (.cells A 3)).alloc (.cells B 62)).heap.size;omega)⟩) (by omega) rfl _ rfl
   |exact ml_end HA.out.1 HA.out.2 ((((Wr.refl Nil w).alloc _).alloc _).drew) HR.out.1 HR.out.2.1 HR.out.2.2 (Wr.refl Nil w2) ((HR.out.2.2.block (w.heap.size+1) ((by have e:((w.alloc (.cells B 62)).alloc (.cells A 3)).heap.size=w.heap.size+1+1:=(by rw [nblk_alloc,nblk_alloc]);show w.heap.size+1<((w.alloc (.cells B 62)).alloc (.cells A 3)).heap.size;omega)) id).trans (two_1 w (.cells B 62) (.cells A 3))) ((HR.out.2.2.block w.heap.size ((by have e:((w.alloc (.cells B 62)).alloc (.cells A 3)).heap.size=w.heap.size+1+1:=(by rw [nblk_alloc,nblk_alloc]);show w.heap.size<((w.alloc (.cells B 62)).alloc (.cells A 3)).heap.size;omega)) id).trans (two_0 w (.cells B 62) (.cells A 3))) (by exact .inl ⟨Nat.le_succ _,(by have e:((w.alloc (.cells B 62)).alloc (.cells A 3)).heap.size=w.heap.size+1+1:=(by rw [nblk_alloc,nblk_alloc]);show w.heap.size+1<((w.alloc (.cells B 62)).alloc (.cells A 3)).heap.size;omega)⟩) (by exact .inl ⟨Nat.le_refl _,(by have e:((w.alloc (.cells B 62)).alloc (.cells A 3)).heap.size=w.heap.size+1+1:=(by rw [nblk_alloc,nblk_alloc]);show w.heap.size<((w.alloc (.cells B 62)).alloc (.cells A 3)).heap.size;omega)⟩) (by omega) rfl _ rfl
   |exact ml_end HA.out.1 HA.out.2 ((((Wr.refl Nil w).drew).alloc _).alloc _) HR.out.1 HR.out.2.1 HR.out.2.2 (Wr.refl Nil w2) ((HR.out.2.2.block (w.heap.size+1) ((by have e:((w.alloc (.cells B 62)).alloc (.cells A 3)).heap.size=w.heap.size+1+1:=(by rw [nblk_alloc,nblk_alloc]);show w.heap.size+1<((w.alloc (.cells B 62)).alloc (.cells A 3)).heap.size;omega)) id).trans (two_1 w (.cells B 62) (.cells A 3))) ((HR.out.2.2.block w.heap.size ((by have e:((w.alloc (.cells B 62)).alloc (.cells A 3)).heap.size=w.heap.size+1+1:=(by rw [nblk_alloc,nblk_alloc]);show w.heap.size<((w.alloc (.cells B 62)).alloc (.cells A 3)).heap.size;omega)) id).trans (two_0 w (.cells B 62) (.cells A 3))) (by exact .inl ⟨Nat.le_succ _,(by have e:((w.alloc (.cells B 62)).alloc (.cells A 3)).heap.size=w.heap.size+1+1:=(by rw [nblk_alloc,nblk_alloc]);show w.heap.size+1<((w.alloc (.cells B 62)).alloc (.cells A 3)).heap.size;omega)⟩) (by exact .inl ⟨Nat.le_refl _,(by have e:((w.alloc (.cells B 62)).alloc (.cells A 3)).heap.size=w.heap.size+1+1:=(by rw [nblk_alloc,nblk_alloc]);show w.heap.size<((w.alloc (.cells B 62)).alloc (.cells A 3)).heap.size;omega)⟩) (by omega) rfl _ rfl
end Go.Proofs.YtkmikkjjnbikdaaGreat.Kf

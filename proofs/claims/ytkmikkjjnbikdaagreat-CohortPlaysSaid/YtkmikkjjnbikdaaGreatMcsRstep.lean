import Derived.Test.YtkmikkjjnbikdaaGreatMcsRef
import Derived.Test.YtkmikkjjnbikdaaGreatMcsNew
import Derived.Deep.CutBlock
namespace Go.Proofs.YtkmikkjjnbikdaaGreat.Km
set_option maxHeartbeats 8000000
open _root_.Go.Proofs.Tryz Go.Deep
open Go.RowKit Go.BigFrame
set_option linter.unusedVariables false
set_option maxRecDepth 100000
def MsPost (w:World) (M:Mp) (bk:Nat) (dv:Value) (s:SS) (p o:Nat→Int) (ps:PSta) (d:Dd) (e:Ending) (w':World):Prop:=
 e= .returned d.rval∧MlRaw w' M s p o∧RefSt w' M.base M.pr ps∧Wr (MG M bk dv) w w'
structure MsIn (w:World) (M:Mp) (bk:Nat) (so:Option Addr) (cap:Nat) (dv:Value) (s:SS) (p o:Nat→Int) (ps:PSta):Prop where
 raw:MlRaw w M s p o
 ref:RefAt w M.base M.pr bk so cap dv ps
 n1:1≤s.n
 n2:s.n≤64
 hD:ps.D.length<1000000
 hws:ps.ws.length≤4096
 hac:ps.ac.length≤64
 hb:M.base≤w.heap.size
 ha:0≤M.a∧M.a≤4096
theorem foot_lt {w:World} {base r bk:Nat} {so:Option Addr} {cap:Nat} {dv:Value} {ps:PSta} (h:RefAt w base r bk so cap dv ps) {k:Nat} (hk:Foot r bk dv k):base≤k∧k<w.heap.size:=by
 rcases hk with rfl|rfl|hk
 ·exact ⟨h.low.1,blk_lt h.obj⟩
 ·exact ⟨h.low.2.1,h.counts.lt⟩
 ·exact ⟨(h.touched.lt k hk).1,(h.touched.lt k hk).2⟩
theorem MsIn.start {w:World} {M:Mp} {bk:Nat} {so:Option Addr} {cap:Nat} {dv:Value} {s:SS} {p o:Nat→Int} {ps:PSta} (h:MsIn w M bk so cap dv s p o ps):
  Fm w ((w.alloc (.cells #[.int .i64 0,.int .i64 0,.int .i64 0,.int .i64 0] 136)).alloc (.cells #[.int .i64 0,.int .i64 0,.int .i64 0,.int .i64 0] 136)) M bk dv s p o ps w.heap.size (w.heap.size+1) Dd.no∧
  RefAt ((w.alloc (.cells #[.int .i64 0,.int .i64 0,.int .i64 0,.int .i64 0] 136)).alloc (.cells #[.int .i64 0,.int .i64 0,.int .i64 0,.int .i64 0] 136)) M.base M.pr bk so cap dv ps:=by
 have e1:(w.alloc (.cells #[.int .i64 0,.int .i64 0,.int .i64 0,.int .i64 0] 136)).heap.size=w.heap.size+1:=nblk_alloc _ _
 have k:Wr Nil w ((w.alloc (.cells #[.int .i64 0,.int .i64 0,.int .i64 0,.int .i64 0] 136)).alloc (.cells #[.int .i64 0,.int .i64 0,.int .i64 0,.int .i64 0] 136)):=((Wr.refl _ w).alloc _).alloc _
 have hr:=h.ref.after k λ_ _=>id
 refine ⟨⟨h.raw.after k,⟨bk,so,cap,dv,hr⟩,?_,?_,k.mono λ_ _ e=>e.elim,⟨Nat.le_refl _,Nat.le_succ _,by omega⟩,λj hj=> ?_,λj hj=>(foot_lt h.ref hj).1,h.hb⟩,hr⟩
 ·rw [blk_alloc_lt _ _ _ (by rw [e1];omega),blk_alloc_new];rfl
 ·rw [←e1,blk_alloc_new];rfl
 ·rcases hj with hj|hj
  ·exact h.raw.lt hj
  ·exact (foot_lt h.ref hj).2
theorem Fm.dcell {w X:World} {M:Mp} {bk:Nat} {dv:Value} {s:SS} {p o:Nat→Int} {ps:PSta} {R C:Nat} {d:Dd} (h:Fm w X M bk dv s p o ps R C d):
  X.cell? ⟨C,0,none⟩=some (.int .i64 d.ev)∧X.cell? ⟨C,1,none⟩=some (.int .i64 (b2i d.enq))∧X.cell? ⟨C,2,none⟩=some (.int .i64 (b2i d.arr))∧X.cell? ⟨C,3,none⟩=some (.int .i64 (b2i d.lead)):=by
 rw [blk_cell h.did,blk_cell h.did,blk_cell h.did,blk_cell h.did];exact ⟨rfl,rfl,rfl,rfl⟩
theorem Fm.rcell {w X:World} {M:Mp} {bk:Nat} {dv:Value} {s:SS} {p o:Nat→Int} {ps:PSta} {R C:Nat} {d:Dd} (h:Fm w X M bk dv s p o ps R C d):
  X.cell? ⟨R,0,none⟩=some (.int .i64 0)∧X.cell? ⟨R,1,none⟩=some (.int .i64 0)∧X.cell? ⟨R,2,none⟩=some (.int .i64 0)∧X.cell? ⟨R,3,none⟩=some (.int .i64 0):=by
 rw [blk_cell h.res,blk_cell h.res,blk_cell h.res,blk_cell h.res];exact ⟨rfl,rfl,rfl,rfl⟩
theorem Fm.rfrz {w X:World} {M:Mp} {bk:Nat} {dv:Value} {s:SS} {p o:Nat→Int} {ps:PSta} {R C:Nat} {d:Dd} (h:Fm w X M bk dv s p o ps R C d):
  X.frozen? ⟨R,0,none⟩=false∧X.frozen? ⟨R,1,none⟩=false∧X.frozen? ⟨R,2,none⟩=false∧X.frozen? ⟨R,3,none⟩=false:=⟨blk_frozen h.res 0,blk_frozen h.res 1,blk_frozen h.res 2,blk_frozen h.res 3⟩
theorem Fm.told {w X:World} {M:Mp} {bk:Nat} {dv:Value} {s:SS} {p o:Nat→Int} {ps:PSta} {R C:Nat} {d:Dd} (h:Fm w X M bk dv s p o ps R C d):
  MsPost w M bk dv s p o ps d (.returned d.rval) ((((X.setCell ⟨R,0,none⟩ (.int .i64 d.ev)).setCell ⟨R,1,none⟩ (.int .i64 (b2i d.enq))).setCell ⟨R,2,none⟩ (.int .i64 (b2i d.arr))).setCell ⟨R,3,none⟩ (.int .i64 (b2i d.lead))):=by
 have k:=wrote4 X R (.int .i64 d.ev) (.int .i64 (b2i d.enq)) (.int .i64 (b2i d.arr)) (.int .i64 (b2i d.lead))
 have hn:=h.new
 have hC:∀ b,MG M bk dv b→¬ One R b:=λb hb e=>by have:=h.old b hb;cases e;omega
 have hbw:=h.bw
 have hlr:=h.raw.low.1
 exact ⟨rfl,h.raw.wrote k (λe=>by cases e;omega) λj hj=>hC j (.inl hj),ref_off h.ref k h.res,h.wr.trans k λb hb e=>by cases e;omega⟩
theorem i_rid:(prog.info? 136).map (·.size)=some 4:=by kernel_rfl
structure RM where
 v:Int
 o:Nat→Int
 ps:PSta
 d:Dd
def nxR (M:Mp) (k:Nat):Int:=M.a+1+2*(k:Int)
def lkR (M:Mp) (k:Nat):Int:=M.a+2+2*(k:Int)
def rmid (M:Mp) (o:Nat→Int) (ps:PSta) (k:Nat) (u y pk:Int):RM:=
 if y=1∧pk=0 then ⟨1,o,doS ps u 2 (nxR M k) 0 0,Dd.no⟩
 else if y=1∧pk=1 then ⟨2,upd o k (tellS ps u 3 M.a),doS ps u 3 M.a 0 ((k:Int)+1),⟨if tellS ps u 3 M.a=0 then 1 else 0,true,false,false⟩⟩
 else if y=1∧pk=2 then ⟨3,o,doS ps u 2 (lkR M k) 0 1,Dd.no⟩
 else if y=1∧pk=3 then ⟨4,o,doS ps u 2 (M.a+1+2*(o k-1)) 0 ((k:Int)+1),Dd.no⟩
 else if y=1∧pk=4 then ⟨4,o,doS ps u 1 (lkR M k) 0 0,if tellS ps u 1 (lkR M k)=0 then ⟨1,false,false,false⟩ else Dd.no⟩
 else if y=3∧pk=0 then ⟨if tellS ps u 1 (nxR M k)=0 then 1 else 3,upd o k (tellS ps u 1 (nxR M k)),doS ps u 1 (nxR M k) 0 0,Dd.no⟩
 else if y=3∧pk=1 then ⟨2,o,doS ps u 4 M.a ((k:Int)+1) 0,if casT ps u M.a ((k:Int)+1)=true then ⟨3,false,false,false⟩ else Dd.no⟩
 else if y=3∧pk=2 then ⟨if tellS ps u 1 (nxR M k)=0 then 2 else 3,upd o k (tellS ps u 1 (nxR M k)),doS ps u 1 (nxR M k) 0 0,Dd.no⟩
 else if y=3∧pk=3 then ⟨4,o,doS ps u 2 (M.a+2+2*(o k-1)) 0 0,⟨3,false,false,false⟩⟩
 else ⟨1,o,doS ps u 1 (nxR M k) 0 0,if tellS ps u 1 (nxR M k)=0 then ⟨4,false,false,false⟩ else ⟨5,false,false,false⟩⟩
theorem upd_upd {α:Type} (g:Nat→α) (k:Nat) (a b:α):upd (upd g k a) k b=upd g k b:=by
 funext j
 by_cases e:j=k
 ·subst e;rw [upd_same,upd_same]
 ·rw [upd_other _ _ e,upd_other _ _ e,upd_other _ _ e]
def pcR (p:Nat→Int) (s:SS) (k:Nat) (r:RM):Nat→Int:=upd p k (if endI s k r.d.ev=1 then 0 else r.v)
def liveR (y pk:Int):Prop:=(y=1∧(0≤pk∧pk≤4))∨(y=3∧(0≤pk∧pk≤3))∨(y=4∧pk=0)
theorem ml_step {w:World} {M:Mp} {bk:Nat} {so:Option Addr} {cap:Nat} {dv:Value} {s:SS} {p o:Nat→Int} {ps:PSta} (h:MsIn w M bk so cap dv s p o ps) (k:Nat) (hk:k<s.n) (u x:Int)
  (hlv:liveR (s.st k) (p k)) (hot:0≤o k∧o k<4294967296) (hT:∀ K a,0≤tellS ps u K a∧tellS ps u K a<4294967296):
  Calls prog 135 #[.pointer (some ⟨M.r,0,none⟩),.pointer (some ⟨M.pr,0,none⟩),.int .i64 (k:Int),.int .i64 u,.int .i64 x] w (MsPost w M bk dv (s.fin k (rmid M o ps k u (s.st k) (p k)).d.ev) (pcR p s k (rmid M o ps k u (s.st k) (p k))) (rmid M o ps k u (s.st k) (p k)).o (rmid M o ps k u (s.st k) (p k)).ps (rmid M o ps k u (s.st k) (p k)).d):=by
 obtain ⟨hF,hR⟩:=h.start
 have n1:=h.n1
 have n2:=h.n2
 have a0:=h.ha.1
 have a1:=h.ha.2
 have b2:=(h.raw.after ((Wr.refl Nil w).alloc (.cells #[.int .i64 0,.int .i64 0,.int .i64 0,.int .i64 0] 136))).cell2
 have i0:(0:Int)≤(k:Int):=by omega
 have i1:(k:Int)<s.n:=by omega
 have i2:¬ (k:Int)<0:=by omega
 have i3:¬ (s.n:Int)≤(k:Int):=by omega
 have iN:decide (s.n≤k)=false:=decide_eq_false (by omega)
 obtain ⟨y,hy⟩:∃ y,y=s.st k:=⟨_,rfl⟩
 obtain ⟨pk,hpk⟩:∃ pk,pk=p k:=⟨_,rfl⟩
 obtain ⟨r,hr⟩:∃ r,r=rmid M o ps k u (s.st k) (p k):=⟨_,rfl⟩
 rw [←hr]
 unfold rmid at hr
 rw [←hy,←hpk] at hr hlv
 have hyr:(0≤y∧y≤4)∧(0≤pk∧pk≤4):=by unfold liveR at hlv;omega
 have hw1:IntKind.i64.wrap (10*y)=10*y:=by rw [IntKind.wrap_i64];omega
 have hw2:IntKind.i64.wrap (10*y+(pk+1))=10*y+(pk+1):=by rw [IntKind.wrap_i64];omega
 have hw3:IntKind.i64.wrap (pk+1)=pk+1:=by rw [IntKind.wrap_i64];omega
 have hw4:IntKind.i64.wrap (M.a+1)=M.a+1:=by rw [IntKind.wrap_i64];omega
 have hw5:IntKind.i64.wrap (M.a+2)=M.a+2:=by rw [IntKind.wrap_i64];omega
 have hw6:IntKind.i64.wrap (2*(k:Int))=2*(k:Int):=by rw [IntKind.wrap_i64];omega
 have hw7:IntKind.i64.wrap (M.a+1+2*(k:Int))=M.a+1+2*(k:Int):=by rw [IntKind.wrap_i64];omega
 have hw8:IntKind.i64.wrap (M.a+2+2*(k:Int))=M.a+2+2*(k:Int):=by rw [IntKind.wrap_i64];omega
 obtain ⟨Z,hZ⟩:∃ Z,Z=(w.alloc (.cells #[.int .i64 0,.int .i64 0,.int .i64 0,.int .i64 0] 136)).alloc (.cells #[.int .i64 0,.int .i64 0,.int .i64 0,.int .i64 0] 136):=⟨_,rfl⟩
 rw [←hZ] at hF hR
 obtain ⟨g,cg,hgv,hg⟩:=SrAt.stV (hF.drew).raw.seat (by omega)
 have c0:=(hF.drew).raw.cell0
 have c1:=hF.raw.cell1
 have c2:=(hF.drew).raw.cell2
 have cs:=SrAt.cell0 (hF.drew).raw.seat
 rw [hgv] at cs
 have ct:=(hg k _ (stL_at s hk)).1
 have cp:=(hF.drew).raw.pcC hk
 rw [←hy] at ct
 rw [←hpk] at cp
 have HE:=Lib.hid (And.intro h (And.intro hF (And.intro hk (And.intro hR hlv))))
 have HZ:=Lib.hid hZ
 have HY:=Lib.hid (And.intro hy hpk)
 have HT5:=Lib.hid hT
 have HR:=Lib.hid hr
 have HO:=Lib.hid hot
 clear h hF hR hZ hy hpk hr hgv hg hT hlv hot
 go_enter func135,ntmps135
 go_wp2
 rw [←HZ.out]
 clear b2
 go_region_held3 (λw'=>w'.cell? ⟨M.r,1,none⟩=some (.int .i64 M.a)) (exact c1) (fail)
 clear c1 hw1 hw4 hw5 hw6 hw7 hw8
 generalize hYY:Z.drew=Y at*
 have hFY:Fm w Y M bk dv s p o ps w.heap.size (w.heap.size+1) Dd.no:=by rw [←hYY];exact HE.out.2.1.drew
 have hRY:RefAt Y M.base M.pr bk so cap dv ps:=by rw [←hYY];exact HE.out.2.2.2.1.after ((Wr.refl Nil Z).drew) λ_ _=>id
 have bsz:M.base≤Y.heap.size:=Nat.le_trans hFY.bw hFY.wr.size
 have HF:=Lib.hid (And.intro hFY (And.intro hRY bsz))
 clear hFY hRY bsz hYY
 go_upto_block 0 with fail
 clear c0 c2 cs ct cp
 go_cut [14] from 65 to 222 (λv14 wx=>v14= .int .i64 r.v∧Fm w wx M bk dv s p r.o r.ps w.heap.size (w.heap.size+1) r.d)
 case first=>
  have c1:=HF.out.1.raw.cell1
  have c3:=HF.out.1.raw.cell3
  have ca:=HF.out.1.raw.otC HE.out.2.2.1
  have bsz:M.base≤Y.drew.heap.size:=Nat.le_trans HF.out.1.bw HF.out.1.wr.drew.size
  have hRD:=HF.out.2.1.after ((Wr.refl Nil Y).drew) λ_ _=>id
  have HRD:=Lib.hid (And.intro hRD bsz)
  have hwk:IntKind.i64.wrap ((k:Int)+1)=(k:Int)+1:=by rw [IntKind.wrap_i64];omega
  have hwu:IntKind.u32.wrap ((k:Int)+1)=(k:Int)+1:=by rw [IntKind.wrap_u32];omega
  have hot:=HO.out
  have ho1:IntKind.i64.wrap (o k-1)=o k-1:=by rw [IntKind.wrap_i64];omega
  have ho2:IntKind.i64.wrap (2*(o k-1))=2*(o k-1):=by rw [IntKind.wrap_i64];omega
  have ho3:IntKind.i64.wrap (M.a+1+2*(o k-1))=M.a+1+2*(o k-1):=by rw [IntKind.wrap_i64];omega
  have ho4:IntKind.i64.wrap (M.a+2+2*(o k-1))=M.a+2+2*(o k-1):=by rw [IntKind.wrap_i64];omega
  have hm1:IntKind.i64.wrap (M.a+1)=M.a+1:=by rw [IntKind.wrap_i64];omega
  have hm2:IntKind.i64.wrap (M.a+2)=M.a+2:=by rw [IntKind.wrap_i64];omega
  have hr:=HR.out
  unfold nxR lkR at hr
  have hlv:=HE.out.2.2.2.2
  unfold liveR at hlv
  clear hRD bsz
  by_cases q10:y=1∧pk=0
  ·rw [if_pos q10] at hr
   obtain ⟨rfl,rfl⟩:=q10
   clear hlv
   have cA:=ra_store HF.out.2.1 u (M.a+1+2*(k:Int)) 0 (by omega) (by omega) HE.out.1.hD HE.out.1.hws HE.out.1.hac HF.out.2.2
   have HQ:=Lib.hid hr
   clear hr hot ho1 ho2 ho3 ho4
   go_wp2_with (first|(go_at_call 132;(with_reducible refine cA.mono ?_);intro e w2 hq;unfold RaPost at hq;obtain ⟨rfl,hRS,hW⟩:=hq;have hA:=HF.out.1.port hRS hW;have d1:=hA.raw.cell1;have d3:=hA.raw.cell3;have da:=hA.raw.otC HE.out.2.2.1;have dz:=hA.raw.otZ k;have HC:=Lib.hid hA;clear hA hRS hW))
   go_meet
   rw [HQ.out]
   exact ⟨rfl,HC.out⟩
  rw [if_neg q10] at hr
  by_cases q11:y=1∧pk=1
  ·rw [if_pos q11] at hr
   obtain ⟨rfl,rfl⟩:=q11
   clear hlv
   have hv0:=HT5.out 3 M.a
   obtain ⟨v,hv⟩:∃ v,v=tellS ps u 3 M.a:=⟨_,rfl⟩
   rw [←hv] at hv0 hr
   have hwv:IntKind.i64.wrap v=v:=by rw [IntKind.wrap_i64];omega
   have cA:=ra_swap HRD.out.1 u M.a ((k:Int)+1) (by omega) (by omega) HE.out.1.hD HE.out.1.hws HE.out.1.hac HRD.out.2
   rw [←hv] at cA
   by_cases hx:v=0
   ·rw [if_pos hx] at hr
    have HQ:=Lib.hid hr
    subst hx
    clear hr hot ho1 ho2 ho3 ho4 hv hv0
    go_wp2
    go_region_held3 (λw'=>w'.cell? ⟨M.r,1,none⟩=some (.int .i64 M.a)∧w'.cell? ⟨M.r,3,none⟩=some (.slice (some ⟨M.ot,0,none⟩) s.n s.n)) (first|exact ⟨c1,c3⟩|exact ⟨d1,d3⟩|exact ⟨q1,q3⟩) (first|(go_at_call 138;(with_reducible refine cA.mono ?_);intro e w2 hq;unfold RaPost at hq;obtain ⟨rfl,hRS,hW⟩:=hq;have hA:=HF.out.1.drew.port hRS hW;have d1:=hA.raw.cell1;have d3:=hA.raw.cell3;have da:=hA.raw.otC HE.out.2.2.1;have dz:=hA.raw.otZ k;have hB:=hA.setO k 0;have q1:=hB.raw.cell1;have q3:=hB.raw.cell3;have qa:=hB.raw.otC HE.out.2.2.1;rw [upd_same] at qa;have g1:=hB.dcell.2.1;have gz:=blk_frozen hB.did 1;have hD:=hB.setD 1 (.int .i64 1) ⟨0,true,false,false⟩ rfl;have r3:=hD.raw.cell3;have ra:=hD.raw.otC HE.out.2.2.1;rw [upd_same] at ra;have r0:=hD.dcell.1;have rz:=blk_frozen hD.did 0;have HC:=Lib.hid hD;clear hB hD;clear hA hRS hW))
    go_wp2
    go_meet
    rw [HQ.out]
    exact ⟨rfl,HC.out.setD 0 (.int .i64 1) ⟨1,true,false,false⟩ rfl⟩
   ·rw [if_neg hx] at hr
    have HQ:=Lib.hid hr
    have b1:(v==0)=false:=beq_false_of_ne hx
    clear hr hot ho1 ho2 ho3 ho4 hv hv0 hx
    go_wp2
    go_region_held3 (λw'=>w'.cell? ⟨M.r,1,none⟩=some (.int .i64 M.a)∧w'.cell? ⟨M.r,3,none⟩=some (.slice (some ⟨M.ot,0,none⟩) s.n s.n)) (first|exact ⟨c1,c3⟩|exact ⟨d1,d3⟩|exact ⟨q1,q3⟩) (first|(go_at_call 138;(with_reducible refine cA.mono ?_);intro e w2 hq;unfold RaPost at hq;obtain ⟨rfl,hRS,hW⟩:=hq;have hA:=HF.out.1.drew.port hRS hW;have d1:=hA.raw.cell1;have d3:=hA.raw.cell3;have da:=hA.raw.otC HE.out.2.2.1;have dz:=hA.raw.otZ k;have hB:=hA.setO k v;have q1:=hB.raw.cell1;have q3:=hB.raw.cell3;have qa:=hB.raw.otC HE.out.2.2.1;rw [upd_same] at qa;have g1:=hB.dcell.2.1;have gz:=blk_frozen hB.did 1;have hD:=hB.setD 1 (.int .i64 1) ⟨0,true,false,false⟩ rfl;have r3:=hD.raw.cell3;have ra:=hD.raw.otC HE.out.2.2.1;rw [upd_same] at ra;have r0:=hD.dcell.1;have rz:=blk_frozen hD.did 0;have HC:=Lib.hid hD;clear hB hD;clear hA hRS hW))
    go_wp2
    go_meet
    rw [HQ.out]
    exact ⟨rfl,HC.out⟩
  rw [if_neg q11] at hr
  by_cases q12:y=1∧pk=2
  ·rw [if_pos q12] at hr
   obtain ⟨rfl,rfl⟩:=q12
   clear hlv
   have cA:=ra_store HF.out.2.1 u (M.a+2+2*(k:Int)) 1 (by omega) (by omega) HE.out.1.hD HE.out.1.hws HE.out.1.hac HF.out.2.2
   have HQ:=Lib.hid hr
   clear hr hot ho1 ho2 ho3 ho4
   go_wp2_with (first|(go_at_call 132;(with_reducible refine cA.mono ?_);intro e w2 hq;unfold RaPost at hq;obtain ⟨rfl,hRS,hW⟩:=hq;have hA:=HF.out.1.port hRS hW;have d1:=hA.raw.cell1;have d3:=hA.raw.cell3;have da:=hA.raw.otC HE.out.2.2.1;have dz:=hA.raw.otZ k;have HC:=Lib.hid hA;clear hA hRS hW))
   go_meet
   rw [HQ.out]
   exact ⟨rfl,HC.out⟩
  rw [if_neg q12] at hr
  by_cases q13:y=1∧pk=3
  ·rw [if_pos q13] at hr
   obtain ⟨rfl,rfl⟩:=q13
   clear hlv
   have cA:=ra_store HRD.out.1 u (M.a+1+2*(o k-1)) ((k:Int)+1) (by omega) (by omega) HE.out.1.hD HE.out.1.hws HE.out.1.hac HRD.out.2
   have HQ:=Lib.hid hr
   clear hr hot
   go_wp2
   go_region_held3 (λw'=>w'.cell? ⟨M.r,1,none⟩=some (.int .i64 M.a)∧w'.cell? ⟨M.r,3,none⟩=some (.slice (some ⟨M.ot,0,none⟩) s.n s.n)∧w'.cell? ⟨M.ot,k,none⟩=some (.int .i64 (o k))) (first|exact ⟨c1,c3,ca⟩|exact ⟨d1,d3,da⟩) (first|(go_at_call 132;(with_reducible refine cA.mono ?_);intro e w2 hq;unfold RaPost at hq;obtain ⟨rfl,hRS,hW⟩:=hq;have hA:=HF.out.1.drew.port hRS hW;have d1:=hA.raw.cell1;have d3:=hA.raw.cell3;have da:=hA.raw.otC HE.out.2.2.1;have dz:=hA.raw.otZ k;have HC:=Lib.hid hA;clear hA hRS hW))
   go_wp2
   go_meet
   rw [HQ.out]
   exact ⟨rfl,HC.out⟩
  rw [if_neg q13] at hr
  by_cases q14:y=1∧pk=4
  ·rw [if_pos q14] at hr
   obtain ⟨rfl,rfl⟩:=q14
   clear hlv
   have hv0:=HT5.out 1 (M.a+2+2*(k:Int))
   obtain ⟨v,hv⟩:∃ v,v=tellS ps u 1 (M.a+2+2*(k:Int)):=⟨_,rfl⟩
   rw [←hv] at hv0 hr
   have hwv:IntKind.i64.wrap v=v:=by rw [IntKind.wrap_i64];omega
   have cA:=ra_load HF.out.2.1 u (M.a+2+2*(k:Int)) HE.out.1.hD HE.out.1.hws HE.out.1.hac HF.out.2.2
   rw [←hv] at cA
   by_cases hx:v=0
   ·rw [if_pos hx] at hr
    have HQ:=Lib.hid hr
    subst hx
    clear hr hot ho1 ho2 ho3 ho4 hv hv0
    go_wp2_with (first|(go_at_call 131;(with_reducible refine cA.mono ?_);intro e w2 hq;unfold RaPost at hq;obtain ⟨rfl,hRS,hW⟩:=hq;have hA:=HF.out.1.port hRS hW;have d1:=hA.raw.cell1;have d3:=hA.raw.cell3;have da:=hA.raw.otC HE.out.2.2.1;have dz:=hA.raw.otZ k;have e0:=hA.dcell.1;have ez:=blk_frozen hA.did 0;have HC:=Lib.hid hA;clear hA hRS hW))
    go_meet
    rw [HQ.out]
    exact ⟨rfl,HC.out.setD 0 (.int .i64 1) ⟨1,false,false,false⟩ rfl⟩
   ·rw [if_neg hx] at hr
    have HQ:=Lib.hid hr
    have b1:(v==0)=false:=beq_false_of_ne hx
    clear hr hot ho1 ho2 ho3 ho4 hv hv0 hx
    go_wp2_with (first|(go_at_call 131;(with_reducible refine cA.mono ?_);intro e w2 hq;unfold RaPost at hq;obtain ⟨rfl,hRS,hW⟩:=hq;have hA:=HF.out.1.port hRS hW;have d1:=hA.raw.cell1;have d3:=hA.raw.cell3;have da:=hA.raw.otC HE.out.2.2.1;have dz:=hA.raw.otZ k;have e0:=hA.dcell.1;have ez:=blk_frozen hA.did 0;have HC:=Lib.hid hA;clear hA hRS hW))
    go_meet
    rw [HQ.out]
    exact ⟨rfl,HC.out⟩
  rw [if_neg q14] at hr
  by_cases q30:y=3∧pk=0
  ·rw [if_pos q30] at hr
   obtain ⟨rfl,rfl⟩:=q30
   clear hlv
   have hv0:=HT5.out 1 (M.a+1+2*(k:Int))
   obtain ⟨v,hv⟩:∃ v,v=tellS ps u 1 (M.a+1+2*(k:Int)):=⟨_,rfl⟩
   rw [←hv] at hv0 hr
   have hwv:IntKind.i64.wrap v=v:=by rw [IntKind.wrap_i64];omega
   have cA:=ra_load HRD.out.1 u (M.a+1+2*(k:Int)) HE.out.1.hD HE.out.1.hws HE.out.1.hac HRD.out.2
   rw [←hv] at cA
   by_cases hx:v=0
   ·rw [if_pos hx] at hr
    have HQ:=Lib.hid hr
    subst hx
    clear hr hot ho1 ho2 ho3 ho4 hv hv0
    go_wp2
    go_region_held3 (λw'=>w'.cell? ⟨M.r,3,none⟩=some (.slice (some ⟨M.ot,0,none⟩) s.n s.n)) (first|exact c3|exact d3|exact q3) (first|(go_at_call 131;(with_reducible refine cA.mono ?_);intro e w2 hq;unfold RaPost at hq;obtain ⟨rfl,hRS,hW⟩:=hq;have hA:=HF.out.1.drew.port hRS hW;have d1:=hA.raw.cell1;have d3:=hA.raw.cell3;have da:=hA.raw.otC HE.out.2.2.1;have dz:=hA.raw.otZ k;have hB:=hA.setO k 0;have q1:=hB.raw.cell1;have q3:=hB.raw.cell3;have qa:=hB.raw.otC HE.out.2.2.1;rw [upd_same] at qa;have HC:=Lib.hid hB;clear hB;clear hA hRS hW))
    go_wp2
    go_meet
    rw [HQ.out]
    exact ⟨rfl,HC.out⟩
   ·rw [if_neg hx] at hr
    have HQ:=Lib.hid hr
    have b1:(v != 0)=true:=by simpa [bne,BEq.beq] using hx
    clear hr hot ho1 ho2 ho3 ho4 hv hv0 hx
    go_wp2
    go_region_held3 (λw'=>w'.cell? ⟨M.r,3,none⟩=some (.slice (some ⟨M.ot,0,none⟩) s.n s.n)) (first|exact c3|exact d3|exact q3) (first|(go_at_call 131;(with_reducible refine cA.mono ?_);intro e w2 hq;unfold RaPost at hq;obtain ⟨rfl,hRS,hW⟩:=hq;have hA:=HF.out.1.drew.port hRS hW;have d1:=hA.raw.cell1;have d3:=hA.raw.cell3;have da:=hA.raw.otC HE.out.2.2.1;have dz:=hA.raw.otZ k;have hB:=hA.setO k v;have q1:=hB.raw.cell1;have q3:=hB.raw.cell3;have qa:=hB.raw.otC HE.out.2.2.1;rw [upd_same] at qa;have HC:=Lib.hid hB;clear hB;clear hA hRS hW))
    go_wp2
    go_meet
    rw [HQ.out]
    exact ⟨rfl,HC.out⟩
  rw [if_neg q30] at hr
  by_cases q31:y=3∧pk=1
  ·rw [if_pos q31] at hr
   obtain ⟨rfl,rfl⟩:=q31
   clear hlv
   have cA:=ra_cas HF.out.2.1 u M.a ((k:Int)+1) 0 (by omega) (by omega) HE.out.1.hD HE.out.1.hws HE.out.1.hac HF.out.2.2
   obtain ⟨v,hv⟩:∃ v,v=casT ps u M.a ((k:Int)+1):=⟨_,rfl⟩
   rw [←hv] at cA hr
   clear hv
   cases v
   ·rw [if_neg (by decide)] at hr
    have HQ:=Lib.hid hr
    clear hr hot ho1 ho2 ho3 ho4
    go_wp2_with (first|(go_at_call 139;(with_reducible refine cA.mono ?_);intro e w2 hq;unfold RaPost at hq;obtain ⟨rfl,hRS,hW⟩:=hq;have hA:=HF.out.1.port hRS hW;have d1:=hA.raw.cell1;have d3:=hA.raw.cell3;have da:=hA.raw.otC HE.out.2.2.1;have dz:=hA.raw.otZ k;have e0:=hA.dcell.1;have ez:=blk_frozen hA.did 0;have HC:=Lib.hid hA;clear hA hRS hW))
    go_meet
    rw [HQ.out]
    exact ⟨rfl,HC.out⟩
   ·rw [if_pos rfl] at hr
    have HQ:=Lib.hid hr
    clear hr hot ho1 ho2 ho3 ho4
    go_wp2_with (first|(go_at_call 139;(with_reducible refine cA.mono ?_);intro e w2 hq;unfold RaPost at hq;obtain ⟨rfl,hRS,hW⟩:=hq;have hA:=HF.out.1.port hRS hW;have d1:=hA.raw.cell1;have d3:=hA.raw.cell3;have da:=hA.raw.otC HE.out.2.2.1;have dz:=hA.raw.otZ k;have e0:=hA.dcell.1;have ez:=blk_frozen hA.did 0;have HC:=Lib.hid hA;clear hA hRS hW))
    go_meet
    rw [HQ.out]
    exact ⟨rfl,HC.out.setD 0 (.int .i64 3) ⟨3,false,false,false⟩ rfl⟩
  rw [if_neg q31] at hr
  by_cases q32:y=3∧pk=2
  ·rw [if_pos q32] at hr
   obtain ⟨rfl,rfl⟩:=q32
   clear hlv
   have hv0:=HT5.out 1 (M.a+1+2*(k:Int))
   obtain ⟨v,hv⟩:∃ v,v=tellS ps u 1 (M.a+1+2*(k:Int)):=⟨_,rfl⟩
   rw [←hv] at hv0 hr
   have hwv:IntKind.i64.wrap v=v:=by rw [IntKind.wrap_i64];omega
   have cA:=ra_load HRD.out.1 u (M.a+1+2*(k:Int)) HE.out.1.hD HE.out.1.hws HE.out.1.hac HRD.out.2
   rw [←hv] at cA
   by_cases hx:v=0
   ·rw [if_pos hx] at hr
    have HQ:=Lib.hid hr
    subst hx
    clear hr hot ho1 ho2 ho3 ho4 hv hv0
    go_wp2
    go_region_held3 (λw'=>w'.cell? ⟨M.r,3,none⟩=some (.slice (some ⟨M.ot,0,none⟩) s.n s.n)) (first|exact c3|exact d3|exact q3) (first|(go_at_call 131;(with_reducible refine cA.mono ?_);intro e w2 hq;unfold RaPost at hq;obtain ⟨rfl,hRS,hW⟩:=hq;have hA:=HF.out.1.drew.port hRS hW;have d1:=hA.raw.cell1;have d3:=hA.raw.cell3;have da:=hA.raw.otC HE.out.2.2.1;have dz:=hA.raw.otZ k;have hB:=hA.setO k 0;have q1:=hB.raw.cell1;have q3:=hB.raw.cell3;have qa:=hB.raw.otC HE.out.2.2.1;rw [upd_same] at qa;have HC:=Lib.hid hB;clear hB;clear hA hRS hW))
    go_wp2
    go_meet
    rw [HQ.out]
    exact ⟨rfl,HC.out⟩
   ·rw [if_neg hx] at hr
    have HQ:=Lib.hid hr
    have b1:(v==0)=false:=beq_false_of_ne hx
    clear hr hot ho1 ho2 ho3 ho4 hv hv0 hx
    go_wp2
    go_region_held3 (λw'=>w'.cell? ⟨M.r,3,none⟩=some (.slice (some ⟨M.ot,0,none⟩) s.n s.n)) (first|exact c3|exact d3|exact q3) (first|(go_at_call 131;(with_reducible refine cA.mono ?_);intro e w2 hq;unfold RaPost at hq;obtain ⟨rfl,hRS,hW⟩:=hq;have hA:=HF.out.1.drew.port hRS hW;have d1:=hA.raw.cell1;have d3:=hA.raw.cell3;have da:=hA.raw.otC HE.out.2.2.1;have dz:=hA.raw.otZ k;have hB:=hA.setO k v;have q1:=hB.raw.cell1;have q3:=hB.raw.cell3;have qa:=hB.raw.otC HE.out.2.2.1;rw [upd_same] at qa;have HC:=Lib.hid hB;clear hB;clear hA hRS hW))
    go_wp2
    go_meet
    rw [HQ.out]
    exact ⟨rfl,HC.out⟩
  rw [if_neg q32] at hr
  by_cases q33:y=3∧pk=3
  ·rw [if_pos q33] at hr
   obtain ⟨rfl,rfl⟩:=q33
   clear hlv
   have cA:=ra_store HRD.out.1 u (M.a+2+2*(o k-1)) 0 (by omega) (by omega) HE.out.1.hD HE.out.1.hws HE.out.1.hac HRD.out.2
   have HQ:=Lib.hid hr
   clear hr hot
   go_wp2
   go_region_held3 (λw'=>w'.cell? ⟨M.r,1,none⟩=some (.int .i64 M.a)∧w'.cell? ⟨M.r,3,none⟩=some (.slice (some ⟨M.ot,0,none⟩) s.n s.n)∧w'.cell? ⟨M.ot,k,none⟩=some (.int .i64 (o k))) (first|exact ⟨c1,c3,ca⟩|exact ⟨d1,d3,da⟩) (first|(go_at_call 132;(with_reducible refine cA.mono ?_);intro e w2 hq;unfold RaPost at hq;obtain ⟨rfl,hRS,hW⟩:=hq;have hA:=HF.out.1.drew.port hRS hW;have d1:=hA.raw.cell1;have d3:=hA.raw.cell3;have da:=hA.raw.otC HE.out.2.2.1;have dz:=hA.raw.otZ k;have e0:=hA.dcell.1;have ez:=blk_frozen hA.did 0;have HC:=Lib.hid hA;clear hA hRS hW))
   go_wp2
   go_meet
   rw [HQ.out]
   exact ⟨rfl,HC.out.setD 0 (.int .i64 3) ⟨3,false,false,false⟩ rfl⟩
  rw [if_neg q33] at hr
  obtain ⟨rfl,rfl⟩:y=4∧pk=0:=by omega
  clear hlv q10 q11 q12 q13 q14 q30 q31 q32 q33
  have e0:=HF.out.1.dcell.1
  have ez:=blk_frozen HF.out.1.did 0
  have hF2:=HF.out.1.setD 0 (.int .i64 5) ⟨5,false,false,false⟩ rfl
  have hR2:=ref_off_at HF.out.2.1 (((Wr.refl (One (w.heap.size+1)) Y).setCell ⟨w.heap.size+1,0,none⟩ (.int .i64 5)) λ_=>rfl) HF.out.1.did
  obtain ⟨V,hV⟩:∃ V,V=Y.setCell ⟨w.heap.size+1,0,none⟩ (.int .i64 5):=⟨_,rfl⟩
  rw [←hV] at hF2 hR2
  have bsv:M.base≤V.heap.size:=Nat.le_trans hF2.bw hF2.wr.size
  have hv0:=HT5.out 1 (M.a+1+2*(k:Int))
  obtain ⟨v,hv⟩:∃ v,v=tellS ps u 1 (M.a+1+2*(k:Int)):=⟨_,rfl⟩
  have cA:=ra_load hR2 u (M.a+1+2*(k:Int)) HE.out.1.hD HE.out.1.hws HE.out.1.hac bsv
  rw [←hv] at cA hr hv0
  have HV:=Lib.hid (And.intro hV hF2)
  clear hV hF2 hR2 bsv
  by_cases hx:v=0
  ·rw [if_pos hx] at hr
   have HQ:=Lib.hid hr
   subst hx
   clear hr hot ho1 ho2 ho3 ho4 hv hv0
   go_wp2_with (first|(go_at_call 131;rw [←HV.out.1];(with_reducible refine cA.mono ?_);intro e w2 hq;unfold RaPost at hq;obtain ⟨rfl,hRS,hW⟩:=hq;have hA:=HV.out.2.port hRS hW;have k0:=hA.dcell.1;have kz:=blk_frozen hA.did 0;have HC:=Lib.hid hA;clear hA hRS hW))
   go_meet
   rw [HQ.out]
   exact ⟨rfl,HC.out.setD 0 (.int .i64 4) ⟨4,false,false,false⟩ rfl⟩
  ·rw [if_neg hx] at hr
   have HQ:=Lib.hid hr
   have b1:(v==0)=false:=beq_false_of_ne hx
   clear hr hot ho1 ho2 ho3 ho4 hv hv0 hx
   go_wp2_with (first|(go_at_call 131;rw [←HV.out.1];(with_reducible refine cA.mono ?_);intro e w2 hq;unfold RaPost at hq;obtain ⟨rfl,hRS,hW⟩:=hq;have hA:=HV.out.2.port hRS hW;have k0:=hA.dcell.1;have kz:=blk_frozen hA.did 0;have HC:=Lib.hid hA;clear hA hRS hW))
   go_meet
   rw [HQ.out]
   exact ⟨rfl,HC.out⟩
 case rest=>
  obtain ⟨rfl,hF2⟩:=hcut
  have m2:=hF2.raw.cell2
  have mz:=hF2.raw.pcZ k
  have mp:=hF2.raw.pcC HE.out.2.2.1
  have hP:=hF2.setP k r.v
  have n0:=hP.raw.cell0
  have e0:=hP.dcell.1
  have cE:=rs_end hP.drew.raw.seat n1 n2 (k:Int) r.d.ev
  have HX:=Lib.hid hP
  clear hF2 hP HF HR HT5 HZ
  generalize hex:endI s (k:Int) r.d.ev=ex at*
  have HEX:=Lib.hid hex
  clear hex
  by_cases hx:ex=1
  ·have ep:pcR p s k r=upd p k 0:=by unfold pcR;rw [HEX.out,if_pos hx]
   have HP:=Lib.hid ep
   subst hx
   clear ep
   go_wp2
   go_region_held3 (λw'=>w'.cell? ⟨M.r,0,none⟩=some (.pointer (some ⟨M.sr,0,none⟩))∧w'.cell? ⟨w.heap.size+1,0,none⟩=some (.int .i64 r.d.ev)) (first|exact ⟨n0,e0⟩|exact ⟨d0,p0⟩) (first|(go_at_call 128;(with_reducible refine cE.mono ?_);intro e w4 hq;have hF4:=HX.out.drew.ends (s':=s.fin (k:Int) r.d.ev) (SS.fin_n _ _ _) hq;unfold RsPost at hq;obtain ⟨rfl,_,_⟩:=hq;have d0:=hF4.raw.cell0;obtain ⟨p0,p1,p2,p3⟩:=hF4.dcell;have l2:=hF4.raw.cell2;rw [SS.fin_n] at l2;have lz:=hF4.raw.pcZ k;have lp:=hF4.raw.pcC (k:=k) (by rw [SS.fin_n];exact HE.out.2.2.1);have hF5:=hF4.setP k 0;rw [upd_upd] at hF5;obtain ⟨g0,g1,g2,g3⟩:=hF5.dcell;obtain ⟨v0,v1,v2,v3⟩:=hF5.rcell;obtain ⟨x0,x1,x2,x3⟩:=hF5.rfrz;have HT:=Lib.hid hF5;clear hF4 hF5))
   go_wp2
   refine bodyPost_ret (v:=Dd.rval r.d) (results_cell_row rfl _ _ w.heap.size 136 _ (0,0) _ rfl (set4 HT.out.res rfl _ _ _ _) underlying136 rfl i_rid) rfl (by rw [HP.out];exact HT.out.told)
  ·have ep:pcR p s k r=upd p k r.v:=by unfold pcR;rw [HEX.out,if_neg hx]
   have HP:=Lib.hid ep
   have b1:(ex==1)=false:=beq_false_of_ne hx
   clear ep hx
   go_wp2
   go_region_held3 (λw'=>w'.cell? ⟨M.r,0,none⟩=some (.pointer (some ⟨M.sr,0,none⟩))∧w'.cell? ⟨w.heap.size+1,0,none⟩=some (.int .i64 r.d.ev)) (first|exact ⟨n0,e0⟩|exact ⟨d0,p0⟩) (first|(go_at_call 128;(with_reducible refine cE.mono ?_);intro e w4 hq;have hF4:=HX.out.drew.ends (s':=s.fin (k:Int) r.d.ev) (SS.fin_n _ _ _) hq;unfold RsPost at hq;obtain ⟨rfl,_,_⟩:=hq;have d0:=hF4.raw.cell0;obtain ⟨p0,p1,p2,p3⟩:=hF4.dcell;obtain ⟨v0,v1,v2,v3⟩:=hF4.rcell;obtain ⟨x0,x1,x2,x3⟩:=hF4.rfrz;have HT:=Lib.hid hF4;clear hF4))
   go_wp2
   refine bodyPost_ret (v:=Dd.rval r.d) (results_cell_row rfl _ _ w.heap.size 136 _ (0,0) _ rfl (set4 HT.out.res rfl _ _ _ _) underlying136 rfl i_rid) rfl (by rw [HP.out];exact HT.out.told)
end Go.Proofs.YtkmikkjjnbikdaaGreat.Km

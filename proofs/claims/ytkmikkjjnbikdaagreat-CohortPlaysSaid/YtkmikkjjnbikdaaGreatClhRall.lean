
import Derived.Test.YtkmikkjjnbikdaaGreatMcsRef
import Derived.Test.YtkmikkjjnbikdaaGreatClhNew
import Derived.Deep.CutBlock
namespace Go.Proofs.YtkmikkjjnbikdaaGreat.Kc
set_option maxHeartbeats 8000000
open _root_.Go.Proofs.Tryz Go.Deep
open Go.RowKit Go.BigFrame
set_option linter.unusedVariables false
set_option maxRecDepth 100000
def MsPost (w:World) (M:Mp) (bk:Nat) (dv:Value) (s:SS) (p nd ah:Nat→Int) (ps:PSta) (d:Dd) (e:Ending) (w':World):Prop:=
 e= .returned d.rval∧MlRaw w' M s p nd ah∧RefSt w' M.base M.pr ps∧Wr (MG M bk dv) w w'
structure MsIn (w:World) (M:Mp) (bk:Nat) (so:Option Addr) (cap:Nat) (dv:Value) (s:SS) (p nd ah:Nat→Int) (ps:PSta):Prop where
 raw:MlRaw w M s p nd ah
 ref:RefAt w M.base M.pr bk so cap dv ps
 n1:1≤s.n
 n2:s.n≤64
 hD:ps.D.length<1000000
 hws:ps.ws.length≤4096
 hac:ps.ac.length≤64
 hb:M.base≤w.heap.size
 ha:0≤M.a∧M.a≤4096
theorem foot_lt {w:World} {base r bk:Nat} {so:Option Addr} {cap:Nat} {dv:Value} {ps:PSta} (h:RefAt w base r bk so cap dv ps) {k:Nat} (hk:Foot r bk dv k):base≤k∧k<w.heap.size:=by
 rcases hk with rfl|rfl|hk
 ·exact ⟨h.low.1,blk_lt h.obj⟩
 ·exact ⟨h.low.2.1,h.counts.lt⟩
 ·exact ⟨(h.touched.lt k hk).1,(h.touched.lt k hk).2⟩
theorem MsIn.start {w:World} {M:Mp} {bk:Nat} {so:Option Addr} {cap:Nat} {dv:Value} {s:SS} {p nd ah:Nat→Int} {ps:PSta} (h:MsIn w M bk so cap dv s p nd ah ps):
  Fm w ((w.alloc (.cells #[.int .i64 0,.int .i64 0,.int .i64 0,.int .i64 0] 136)).alloc (.cells #[.int .i64 0,.int .i64 0,.int .i64 0,.int .i64 0] 136)) M bk dv s p nd ah ps w.heap.size (w.heap.size+1) Dd.no∧
  RefAt ((w.alloc (.cells #[.int .i64 0,.int .i64 0,.int .i64 0,.int .i64 0] 136)).alloc (.cells #[.int .i64 0,.int .i64 0,.int .i64 0,.int .i64 0] 136)) M.base M.pr bk so cap dv ps:=by
 have e1:(w.alloc (.cells #[.int .i64 0,.int .i64 0,.int .i64 0,.int .i64 0] 136)).heap.size=w.heap.size+1:=nblk_alloc _ _
 have k:Wr Nil w ((w.alloc (.cells #[.int .i64 0,.int .i64 0,.int .i64 0,.int .i64 0] 136)).alloc (.cells #[.int .i64 0,.int .i64 0,.int .i64 0,.int .i64 0] 136)):=((Wr.refl _ w).alloc _).alloc _
 have hr:=h.ref.after k λ_ _=>id
 refine ⟨⟨h.raw.after k,⟨bk,so,cap,dv,hr⟩,?_,?_,k.mono λ_ _ e=>e.elim,⟨Nat.le_refl _,Nat.le_succ _,by omega⟩,λj hj=> ?_,λj hj=>(foot_lt h.ref hj).1,h.hb⟩,hr⟩
 ·rw [blk_alloc_lt _ _ _ (by rw [e1];omega),blk_alloc_new];rfl
 ·rw [←e1,blk_alloc_new];rfl
 ·rcases hj with hj|hj
  ·exact h.raw.lt hj
  ·exact (foot_lt h.ref hj).2
theorem Fm.dcell {w X:World} {M:Mp} {bk:Nat} {dv:Value} {s:SS} {p nd ah:Nat→Int} {ps:PSta} {R C:Nat} {d:Dd} (h:Fm w X M bk dv s p nd ah ps R C d):
  X.cell? ⟨C,0,none⟩=some (.int .i64 d.ev)∧X.cell? ⟨C,1,none⟩=some (.int .i64 (b2i d.enq))∧X.cell? ⟨C,2,none⟩=some (.int .i64 (b2i d.arr))∧X.cell? ⟨C,3,none⟩=some (.int .i64 (b2i d.lead)):=by
 rw [blk_cell h.did,blk_cell h.did,blk_cell h.did,blk_cell h.did];exact ⟨rfl,rfl,rfl,rfl⟩
theorem Fm.rcell {w X:World} {M:Mp} {bk:Nat} {dv:Value} {s:SS} {p nd ah:Nat→Int} {ps:PSta} {R C:Nat} {d:Dd} (h:Fm w X M bk dv s p nd ah ps R C d):
  X.cell? ⟨R,0,none⟩=some (.int .i64 0)∧X.cell? ⟨R,1,none⟩=some (.int .i64 0)∧X.cell? ⟨R,2,none⟩=some (.int .i64 0)∧X.cell? ⟨R,3,none⟩=some (.int .i64 0):=by
 rw [blk_cell h.res,blk_cell h.res,blk_cell h.res,blk_cell h.res];exact ⟨rfl,rfl,rfl,rfl⟩
theorem Fm.rfrz {w X:World} {M:Mp} {bk:Nat} {dv:Value} {s:SS} {p nd ah:Nat→Int} {ps:PSta} {R C:Nat} {d:Dd} (h:Fm w X M bk dv s p nd ah ps R C d):
  X.frozen? ⟨R,0,none⟩=false∧X.frozen? ⟨R,1,none⟩=false∧X.frozen? ⟨R,2,none⟩=false∧X.frozen? ⟨R,3,none⟩=false:=⟨blk_frozen h.res 0,blk_frozen h.res 1,blk_frozen h.res 2,blk_frozen h.res 3⟩
theorem Fm.told {w X:World} {M:Mp} {bk:Nat} {dv:Value} {s:SS} {p nd ah:Nat→Int} {ps:PSta} {R C:Nat} {d:Dd} (h:Fm w X M bk dv s p nd ah ps R C d):
  MsPost w M bk dv s p nd ah ps d (.returned d.rval) ((((X.setCell ⟨R,0,none⟩ (.int .i64 d.ev)).setCell ⟨R,1,none⟩ (.int .i64 (b2i d.enq))).setCell ⟨R,2,none⟩ (.int .i64 (b2i d.arr))).setCell ⟨R,3,none⟩ (.int .i64 (b2i d.lead))):=by
 have k:=wrote4 X R (.int .i64 d.ev) (.int .i64 (b2i d.enq)) (.int .i64 (b2i d.arr)) (.int .i64 (b2i d.lead))
 have hn:=h.new
 have hC:∀ b,MG M bk dv b→¬ One R b:=λb hb e=>by have:=h.old b hb;cases e;omega
 have hbw:=h.bw
 have hlr:=h.raw.low.1
 exact ⟨rfl,h.raw.wrote k (λe=>by cases e;omega) λj hj=>hC j (.inl hj),ref_off h.ref k h.res,h.wr.trans k λb hb e=>by cases e;omega⟩
theorem i_rid:(prog.info? 136).map (·.size)=some 4:=by kernel_rfl
structure RM where
 p:Nat→Int
 nd:Nat→Int
 ah:Nat→Int
 ps:PSta
 d:Dd
def rmid (M:Mp) (s:SS) (p nd ah:Nat→Int) (ps:PSta) (k:Nat) (u:Int):RM:=
 if s.st k=1∧p k=0 then ⟨upd p k 1,nd,ah,doS ps u 2 (M.a+1+nd k) 0 1,Dd.no⟩
 else if s.st k=1∧p k=1 then ⟨upd p k 2,nd,upd ah k (tellS ps u 3 M.a),doS ps u 3 M.a 0 (nd k),⟨0,true,false,false⟩⟩
 else if s.st k=1∧p k=2 then ⟨p,nd,ah,doS ps u 1 (M.a+1+ah k) 0 0,if tellS ps u 1 (M.a+1+ah k)=0 then ⟨1,false,false,false⟩ else Dd.no⟩
 else if s.st k=3∧p k=2 then ⟨upd p k 0,upd nd k (ah k),ah,doS ps u 2 (M.a+1+nd k) 0 0,⟨3,false,false,false⟩⟩
 else if s.st k=4∧p k=2 then ⟨p,nd,ah,doS ps u 1 M.a 0 0,if tellS ps u 1 M.a=nd k then ⟨4,false,false,false⟩ else ⟨5,false,false,false⟩⟩
 else ⟨p,nd,ah,ps,Dd.no⟩
theorem ml_step {w:World} {M:Mp} {bk:Nat} {so:Option Addr} {cap:Nat} {dv:Value} {s:SS} {p nd ah:Nat→Int} {ps:PSta} (h:MsIn w M bk so cap dv s p nd ah ps) (k:Nat) (hk:k<s.n) (u x:Int)
  (hp:p k=0∨p k=1∨p k=2) (hy4:0≤s.st k∧s.st k≤4) (hnd:0≤nd k∧nd k<4294967296) (hah:p k=2→0≤ah k∧ah k<4294967296) (hT:∀ K a,0≤tellS ps u K a∧tellS ps u K a<4294967296):
  Calls prog 134 #[.pointer (some ⟨M.r,0,none⟩),.pointer (some ⟨M.pr,0,none⟩),.int .i64 (k:Int),.int .i64 u,.int .i64 x] w (MsPost w M bk dv (s.fin k (rmid M s p nd ah ps k u).d.ev) (rmid M s p nd ah ps k u).p (rmid M s p nd ah ps k u).nd (rmid M s p nd ah ps k u).ah (rmid M s p nd ah ps k u).ps (rmid M s p nd ah ps k u).d):=by
 obtain ⟨hF,hR⟩:=h.start
 have n1:=h.n1
 have n2:=h.n2
 have a0:=h.ha.1
 have a1:=h.ha.2
 have b2:=(h.raw.after ((Wr.refl Nil w).alloc (.cells #[.int .i64 0,.int .i64 0,.int .i64 0,.int .i64 0] 136))).cell2
 have i0:(0:Int)≤(k:Int):=by omega
 have i1:(k:Int)<s.n:=by omega
 have i2:¬ (k:Int)<0:=by omega
 have i3:¬ (s.n:Int)≤(k:Int):=by omega
 have iN:decide (s.n≤k)=false:=decide_eq_false (by omega)
 obtain ⟨y,hy⟩:∃ y,y=s.st k:=⟨_,rfl⟩
 obtain ⟨pk,hpk⟩:∃ pk,pk=p k:=⟨_,rfl⟩
 obtain ⟨r,hr⟩:∃ r,r=rmid M s p nd ah ps k u:=⟨_,rfl⟩
 rw [←hr]
 unfold rmid at hr
 rw [←hy] at hr hy4
 rw [←hpk] at hr hp hah
 have hw1:IntKind.i64.wrap (10*y)=10*y:=by rw [IntKind.wrap_i64];omega
 have hw2:IntKind.i64.wrap (10*y+pk)=10*y+pk:=by rw [IntKind.wrap_i64];omega
 obtain ⟨Z,hZ⟩:∃ Z,Z=(w.alloc (.cells #[.int .i64 0,.int .i64 0,.int .i64 0,.int .i64 0] 136)).alloc (.cells #[.int .i64 0,.int .i64 0,.int .i64 0,.int .i64 0] 136):=⟨_,rfl⟩
 have hbz:M.base≤Z.drew.heap.size:=by rw [hZ];exact Nat.le_trans hF.bw (((Wr.refl Nil w).alloc _).alloc _).drew.size
 rw [←hZ] at hF hR
 obtain ⟨g,cg,hgv,hg⟩:=SrAt.stV hF.raw.seat (by omega)
 have c0:=hF.raw.cell0
 have c2:=hF.raw.cell2
 have cs:=SrAt.cell0 hF.raw.seat
 rw [hgv] at cs
 have ct:=(hg k _ (stL_at s hk)).1
 have cp:=hF.raw.pcC hk
 rw [←hy] at ct
 rw [←hpk] at cp
 have HE:=Lib.hid (And.intro h (And.intro hF (And.intro hk (And.intro hR (And.intro hbz hgv)))))
 have HZ:=Lib.hid hZ
 have HY:=Lib.hid (And.intro hy hpk)
 have HT5:=Lib.hid hT
 have HR:=Lib.hid hr
 clear h hF hR hZ hy hpk hr hgv hg hbz hT
 go_enter func134,ntmps134
 go_wp2
 rw [←HZ.out]
 go_big_quiet (fail)
 generalize hYY:Z.drewN _=Y
 have hFY:Fm w Y M bk dv s p nd ah ps w.heap.size (w.heap.size+1) Dd.no:=by rw [←hYY];exact HE.out.2.1.drewN _
 have hRY:RefAt Y M.base M.pr bk so cap dv ps:=by rw [←hYY];exact HE.out.2.2.2.1.after ((Wr.refl Nil Z).drewN _) λ_ _=>id
 have HF:=Lib.hid (And.intro hFY hRY)
 clear hFY hRY hYY c0 c2 cs ct cp b2
 go_upto_block 0 with fail
 go_cut [] from 44 to 176 (λwx=>Fm w wx M bk dv s r.p r.nd r.ah r.ps w.heap.size (w.heap.size+1) r.d)
 case first=>
  have c1:=HF.out.1.raw.cell1
  have c2:=HF.out.1.raw.cell2
  have c3:=HF.out.1.raw.cell3
  have c4:=HF.out.1.raw.cell4
  have cn:=HF.out.1.raw.ndC HE.out.2.2.1
  have ca:=HF.out.1.raw.ahC HE.out.2.2.1
  have bsz:M.base≤Y.drew.heap.size:=Nat.le_trans HF.out.1.bw HF.out.1.wr.drew.size
  have hwa:IntKind.i64.wrap (M.a+1)=M.a+1:=by rw [IntKind.wrap_i64];omega
  have hwn:IntKind.i64.wrap (M.a+1+nd k)=M.a+1+nd k:=by rw [IntKind.wrap_i64];omega
  have hwu:IntKind.u32.wrap (nd k)=nd k:=by show nd k%4294967296=nd k;omega
  have hRD:=HF.out.2.after ((Wr.refl Nil Y).drew) λ_ _=>id
  have HRD:=Lib.hid (And.intro hRD bsz)
  have hr:=HR.out
  clear hRD bsz
  by_cases q10:y=1∧pk=0
  ·rw [if_pos q10] at hr
   obtain ⟨rfl,rfl⟩:=q10
   have cA:=ra_store HRD.out.1 u (M.a+1+nd k) 1 (by omega) (by omega) HE.out.1.hD HE.out.1.hws HE.out.1.hac HRD.out.2
   have HQ:=Lib.hid hr
   clear hr c4 ca
   go_wp2
   go_region_held3 (λw'=>w'.cell? ⟨M.r,1,none⟩=some (.int .i64 M.a)∧w'.cell? ⟨M.r,3,none⟩=some (.slice (some ⟨M.nd,0,none⟩) s.n M.nc)∧w'.cell? ⟨M.nd,k,none⟩=some (.int .i64 (nd k))) (first|exact ⟨c1,c3,cn⟩|exact ⟨d1,d3,dn⟩) (first|(go_at_call 132;(with_reducible refine cA.mono ?_);intro e w2 hq;unfold RaPost at hq;obtain ⟨rfl,hRS,hW⟩:=hq;have hA:=HF.out.1.drew.port hRS hW;have d1:=hA.raw.cell1;have d2:=hA.raw.cell2;have d3:=hA.raw.cell3;have d4:=hA.raw.cell4;have dn:=hA.raw.ndC HE.out.2.2.1;have da:=hA.raw.ahC HE.out.2.2.1;have dp:=hA.raw.pcC HE.out.2.2.1;have zp:=hA.raw.pcZ k;have zn:=hA.raw.ndZ k;have za:=hA.raw.ahZ k;have k0:=hA.dcell.1;have k1:=hA.dcell.2.1;have kz0:=blk_frozen hA.did 0;have kz1:=blk_frozen hA.did 1;have HC:=Lib.hid hA;clear hA hRS hW))
   go_wp2
   go_meet
   rw [HQ.out]
   exact HC.out.setP k 1
  rw [if_neg q10] at hr
  by_cases q11:y=1∧pk=1
  ·rw [if_pos q11] at hr
   obtain ⟨rfl,rfl⟩:=q11
   have hv0:=HT5.out 3 M.a
   obtain ⟨v,hv⟩:∃ v,v=tellS ps u 3 M.a:=⟨_,rfl⟩
   have cA:=ra_swap HRD.out.1 u M.a (nd k) hnd.1 hnd.2 HE.out.1.hD HE.out.1.hws HE.out.1.hac HRD.out.2
   rw [←hv] at cA hv0 hr
   have hwv:IntKind.i64.wrap v=v:=by rw [IntKind.wrap_i64];omega
   have HQ:=Lib.hid hr
   clear hr ca hv
   go_wp2
   go_region_held3 (λw'=>w'.cell? ⟨M.r,1,none⟩=some (.int .i64 M.a)∧w'.cell? ⟨M.r,3,none⟩=some (.slice (some ⟨M.nd,0,none⟩) s.n M.nc)∧w'.cell? ⟨M.r,4,none⟩=some (.slice (some ⟨M.ah,0,none⟩) s.n s.n)∧w'.cell? ⟨M.nd,k,none⟩=some (.int .i64 (nd k))) (first|exact ⟨c1,c3,c4,cn⟩|exact ⟨d1,d3,d4,dn⟩|exact ⟨q1,q3,q4,qn⟩) (first|(go_at_call 138;(with_reducible refine cA.mono ?_);intro e w2 hq;unfold RaPost at hq;obtain ⟨rfl,hRS,hW⟩:=hq;have hA:=HF.out.1.drew.port hRS hW;have d1:=hA.raw.cell1;have d2:=hA.raw.cell2;have d3:=hA.raw.cell3;have d4:=hA.raw.cell4;have dn:=hA.raw.ndC HE.out.2.2.1;have da:=hA.raw.ahC HE.out.2.2.1;have dp:=hA.raw.pcC HE.out.2.2.1;have zp:=hA.raw.pcZ k;have zn:=hA.raw.ndZ k;have za:=hA.raw.ahZ k;have k0:=hA.dcell.1;have k1:=hA.dcell.2.1;have kz0:=blk_frozen hA.did 0;have kz1:=blk_frozen hA.did 1;have hB:=hA.setA k v;have q1:=hB.raw.cell1;have q2:=hB.raw.cell2;have q3:=hB.raw.cell3;have q4:=hB.raw.cell4;have qn:=hB.raw.ndC HE.out.2.2.1;have qp:=hB.raw.pcC HE.out.2.2.1;have qz:=hB.raw.pcZ k;have hC:=hB.setP k 2;have m1:=hC.dcell.2.1;have mz:=blk_frozen hC.did 1;have HC:=Lib.hid hC;clear hB hC;clear hA hRS hW))
   go_wp2
   go_meet
   rw [HQ.out]
   exact HC.out.setD 1 (.int .i64 1) ⟨0,true,false,false⟩ rfl
  rw [if_neg q11] at hr
  by_cases q12:y=1∧pk=2
  ·rw [if_pos q12] at hr
   obtain ⟨rfl,rfl⟩:=q12
   have hab:=hah rfl
   have hwh:IntKind.i64.wrap (M.a+1+ah k)=M.a+1+ah k:=by rw [IntKind.wrap_i64];omega
   obtain ⟨v,hv⟩:∃ v,v=tellS ps u 1 (M.a+1+ah k):=⟨_,rfl⟩
   have cA:=ra_load HRD.out.1 u (M.a+1+ah k) HE.out.1.hD HE.out.1.hws HE.out.1.hac HRD.out.2
   rw [←hv] at cA hr
   clear hv c3 cn
   by_cases hv0:v=0
   ·rw [if_pos hv0] at hr
    have HQ:=Lib.hid hr
    subst hv0
    clear hr
    go_wp2
    go_region_held3 (λw'=>w'.cell? ⟨M.r,1,none⟩=some (.int .i64 M.a)∧w'.cell? ⟨M.r,4,none⟩=some (.slice (some ⟨M.ah,0,none⟩) s.n s.n)∧w'.cell? ⟨M.ah,k,none⟩=some (.int .i64 (ah k))) (first|exact ⟨c1,c4,ca⟩|exact ⟨d1,d4,da⟩) (first|(go_at_call 131;(with_reducible refine cA.mono ?_);intro e w2 hq;unfold RaPost at hq;obtain ⟨rfl,hRS,hW⟩:=hq;have hA:=HF.out.1.drew.port hRS hW;have d1:=hA.raw.cell1;have d2:=hA.raw.cell2;have d3:=hA.raw.cell3;have d4:=hA.raw.cell4;have dn:=hA.raw.ndC HE.out.2.2.1;have da:=hA.raw.ahC HE.out.2.2.1;have dp:=hA.raw.pcC HE.out.2.2.1;have zp:=hA.raw.pcZ k;have zn:=hA.raw.ndZ k;have za:=hA.raw.ahZ k;have k0:=hA.dcell.1;have k1:=hA.dcell.2.1;have kz0:=blk_frozen hA.did 0;have kz1:=blk_frozen hA.did 1;have HC:=Lib.hid hA;clear hA hRS hW))
    go_wp2
    go_meet
    rw [HQ.out]
    exact HC.out.setD 0 (.int .i64 1) ⟨1,false,false,false⟩ rfl
   ·rw [if_neg hv0] at hr
    have HQ:=Lib.hid hr
    have b1:(v==0)=false:=beq_false_of_ne hv0
    clear hr hv0
    go_wp2
    go_region_held3 (λw'=>w'.cell? ⟨M.r,1,none⟩=some (.int .i64 M.a)∧w'.cell? ⟨M.r,4,none⟩=some (.slice (some ⟨M.ah,0,none⟩) s.n s.n)∧w'.cell? ⟨M.ah,k,none⟩=some (.int .i64 (ah k))) (first|exact ⟨c1,c4,ca⟩|exact ⟨d1,d4,da⟩) (first|(go_at_call 131;(with_reducible refine cA.mono ?_);intro e w2 hq;unfold RaPost at hq;obtain ⟨rfl,hRS,hW⟩:=hq;have hA:=HF.out.1.drew.port hRS hW;have d1:=hA.raw.cell1;have d2:=hA.raw.cell2;have d3:=hA.raw.cell3;have d4:=hA.raw.cell4;have dn:=hA.raw.ndC HE.out.2.2.1;have da:=hA.raw.ahC HE.out.2.2.1;have dp:=hA.raw.pcC HE.out.2.2.1;have zp:=hA.raw.pcZ k;have zn:=hA.raw.ndZ k;have za:=hA.raw.ahZ k;have k0:=hA.dcell.1;have k1:=hA.dcell.2.1;have kz0:=blk_frozen hA.did 0;have kz1:=blk_frozen hA.did 1;have HC:=Lib.hid hA;clear hA hRS hW))
    go_wp2
    go_meet
    rw [HQ.out]
    exact HC.out
  rw [if_neg q12] at hr
  by_cases q32:y=3∧pk=2
  ·rw [if_pos q32] at hr
   obtain ⟨rfl,rfl⟩:=q32
   have cA:=ra_store HRD.out.1 u (M.a+1+nd k) 0 (by omega) (by omega) HE.out.1.hD HE.out.1.hws HE.out.1.hac HRD.out.2
   have HQ:=Lib.hid hr
   clear hr c4 ca
   go_wp2
   go_region_held3 (λw'=>w'.cell? ⟨M.r,1,none⟩=some (.int .i64 M.a)∧w'.cell? ⟨M.r,3,none⟩=some (.slice (some ⟨M.nd,0,none⟩) s.n M.nc)∧w'.cell? ⟨M.nd,k,none⟩=some (.int .i64 (nd k))) (first|exact ⟨c1,c3,cn⟩|exact ⟨d1,d3,dn⟩) (first|(go_at_call 132;(with_reducible refine cA.mono ?_);intro e w2 hq;unfold RaPost at hq;obtain ⟨rfl,hRS,hW⟩:=hq;have hA:=HF.out.1.drew.port hRS hW;have d1:=hA.raw.cell1;have d2:=hA.raw.cell2;have d3:=hA.raw.cell3;have d4:=hA.raw.cell4;have dn:=hA.raw.ndC HE.out.2.2.1;have da:=hA.raw.ahC HE.out.2.2.1;have dp:=hA.raw.pcC HE.out.2.2.1;have zp:=hA.raw.pcZ k;have zn:=hA.raw.ndZ k;have za:=hA.raw.ahZ k;have k0:=hA.dcell.1;have k1:=hA.dcell.2.1;have kz0:=blk_frozen hA.did 0;have kz1:=blk_frozen hA.did 1;have hB:=hA.setN k (ah k);have q3:=hB.raw.cell3;have q4:=hB.raw.cell4;have q2:=hB.raw.cell2;have qa:=hB.raw.ahC HE.out.2.2.1;have qp:=hB.raw.pcC HE.out.2.2.1;have qz:=hB.raw.pcZ k;have hC:=hB.setP k 0;have m0:=hC.dcell.1;have mz:=blk_frozen hC.did 0;have HC:=Lib.hid hC;clear hB hC;clear hA hRS hW))
   go_wp2
   go_region_held3 (λw'=>w'.cell? ⟨M.r,3,none⟩=some (.slice (some ⟨M.nd,0,none⟩) s.n M.nc)∧w'.cell? ⟨M.r,4,none⟩=some (.slice (some ⟨M.ah,0,none⟩) s.n s.n)∧w'.cell? ⟨M.ah,k,none⟩=some (.int .i64 (ah k))) (first|exact ⟨d3,d4,da⟩|exact ⟨q3,q4,qa⟩) (fail)
   go_wp2
   go_meet
   rw [HQ.out]
   exact (HC.out.setD 0 (.int .i64 3) ⟨3,false,false,false⟩ rfl).drew
  rw [if_neg q32] at hr
  by_cases q42:y=4∧pk=2
  ·rw [if_pos q42] at hr
   obtain ⟨rfl,rfl⟩:=q42
   have e0:=HF.out.1.dcell.1
   have ez:=blk_frozen HF.out.1.did 0
   have hF2:=HF.out.1.setD 0 (.int .i64 5) ⟨5,false,false,false⟩ rfl
   have hR2:=ref_off_at HF.out.2 (((Wr.refl (One (w.heap.size+1)) Y).setCell ⟨w.heap.size+1,0,none⟩ (.int .i64 5)) λ_=>rfl) HF.out.1.did
   obtain ⟨V,hV⟩:∃ V,V=Y.setCell ⟨w.heap.size+1,0,none⟩ (.int .i64 5):=⟨_,rfl⟩
   rw [←hV] at hF2 hR2
   have bsv:M.base≤V.drew.heap.size:=Nat.le_trans hF2.bw hF2.wr.drew.size
   have g1:=hF2.raw.cell1
   have g3:=hF2.raw.cell3
   have gn:=hF2.raw.ndC HE.out.2.2.1
   obtain ⟨v,hv⟩:∃ v,v=tellS ps u 1 M.a:=⟨_,rfl⟩
   have hv0:=HT5.out 1 M.a
   have cA:=ra_load (hR2.after ((Wr.refl Nil V).drew) λ_ _=>id) u M.a HE.out.1.hD HE.out.1.hws HE.out.1.hac bsv
   rw [←hv] at cA hr hv0
   have hwv:IntKind.i64.wrap v=v:=by rw [IntKind.wrap_i64];omega
   have HV:=Lib.hid (And.intro hV hF2)
   clear hv hV hF2 hR2 bsv hv0 c1 c2 c3 c4 cn ca
   by_cases hx:v=nd k
   ·rw [if_pos hx] at hr
    have HQ:=Lib.hid hr
    have b1:(v==nd k)=true:=by rw [hx];simp
    clear hr hx
    go_upto_region 22 with fail
    rw [←HV.out.1]
    clear e0 ez
    go_region_held3 (λw'=>w'.cell? ⟨M.r,1,none⟩=some (.int .i64 M.a)∧w'.cell? ⟨M.r,3,none⟩=some (.slice (some ⟨M.nd,0,none⟩) s.n M.nc)∧w'.cell? ⟨M.nd,k,none⟩=some (.int .i64 (nd k))) (first|exact ⟨g1,g3,gn⟩|exact ⟨d1,d3,dn⟩) (first|(go_at_call 131;(with_reducible refine cA.mono ?_);intro e w2 hq;unfold RaPost at hq;obtain ⟨rfl,hRS,hW⟩:=hq;have hA:=HV.out.2.drew.port hRS hW;have d1:=hA.raw.cell1;have d2:=hA.raw.cell2;have d3:=hA.raw.cell3;have d4:=hA.raw.cell4;have dn:=hA.raw.ndC HE.out.2.2.1;have da:=hA.raw.ahC HE.out.2.2.1;have dp:=hA.raw.pcC HE.out.2.2.1;have zp:=hA.raw.pcZ k;have zn:=hA.raw.ndZ k;have za:=hA.raw.ahZ k;have k0:=hA.dcell.1;have k1:=hA.dcell.2.1;have kz0:=blk_frozen hA.did 0;have kz1:=blk_frozen hA.did 1;have HC:=Lib.hid hA;clear hA hRS hW))
    go_wp2
    go_meet
    rw [HQ.out]
    exact HC.out.setD 0 (.int .i64 4) ⟨4,false,false,false⟩ rfl
   ·rw [if_neg hx] at hr
    have HQ:=Lib.hid hr
    have b1:(v==nd k)=false:=beq_false_of_ne hx
    clear hr hx
    go_upto_region 22 with fail
    rw [←HV.out.1]
    clear e0 ez
    go_region_held3 (λw'=>w'.cell? ⟨M.r,1,none⟩=some (.int .i64 M.a)∧w'.cell? ⟨M.r,3,none⟩=some (.slice (some ⟨M.nd,0,none⟩) s.n M.nc)∧w'.cell? ⟨M.nd,k,none⟩=some (.int .i64 (nd k))) (first|exact ⟨g1,g3,gn⟩|exact ⟨d1,d3,dn⟩) (first|(go_at_call 131;(with_reducible refine cA.mono ?_);intro e w2 hq;unfold RaPost at hq;obtain ⟨rfl,hRS,hW⟩:=hq;have hA:=HV.out.2.drew.port hRS hW;have d1:=hA.raw.cell1;have d2:=hA.raw.cell2;have d3:=hA.raw.cell3;have d4:=hA.raw.cell4;have dn:=hA.raw.ndC HE.out.2.2.1;have da:=hA.raw.ahC HE.out.2.2.1;have dp:=hA.raw.pcC HE.out.2.2.1;have zp:=hA.raw.pcZ k;have zn:=hA.raw.ndZ k;have za:=hA.raw.ahZ k;have k0:=hA.dcell.1;have k1:=hA.dcell.2.1;have kz0:=blk_frozen hA.did 0;have kz1:=blk_frozen hA.did 1;have HC:=Lib.hid hA;clear hA hRS hW))
    go_wp2
    go_meet
    rw [HQ.out]
    exact HC.out
  rw [if_neg q42] at hr
  have HQ:=Lib.hid hr
  have b10:(10*y+pk==10)=false:=beq_false_of_ne (by omega)
  have b11:(10*y+pk==11)=false:=beq_false_of_ne (by omega)
  have b12:(10*y+pk==12)=false:=beq_false_of_ne (by omega)
  have b32:(10*y+pk==32)=false:=beq_false_of_ne (by omega)
  have b42:(10*y+pk==42)=false:=beq_false_of_ne (by omega)
  clear hr q10 q11 q12 q32 q42 c1 c2 c3 c4 cn ca
  go_wp2
  go_meet
  rw [HQ.out]
  exact HF.out.1
 case rest=>
  have hF2:=hcut
  clear hcut
  have n0:=hF2.raw.cell0
  have e0:=hF2.dcell.1
  have cE:=rs_end hF2.drew.raw.seat n1 n2 (k:Int) r.d.ev
  have HX:=Lib.hid hF2
  clear hF2 HF HR HT5 HZ
  generalize endI s (k:Int) r.d.ev=ex at*
  go_wp2
  go_region_held3 (λw'=>w'.cell? ⟨M.r,0,none⟩=some (.pointer (some ⟨M.sr,0,none⟩))∧w'.cell? ⟨w.heap.size+1,0,none⟩=some (.int .i64 r.d.ev)) (first|exact ⟨n0,e0⟩|exact ⟨d0,p0⟩) (first|(go_at_call 128;(with_reducible refine cE.mono ?_);intro e w4 hq;have hF4:=HX.out.drew.ends (s':=s.fin (k:Int) r.d.ev) (SS.fin_n _ _ _) hq;unfold RsPost at hq;obtain ⟨rfl,_,_⟩:=hq;obtain ⟨p0,p1,p2,p3⟩:=hF4.dcell;obtain ⟨v0,v1,v2,v3⟩:=hF4.rcell;obtain ⟨x0,x1,x2,x3⟩:=hF4.rfrz;have d0:=hF4.raw.cell0;have HT:=Lib.hid hF4;clear hF4))
  go_wp2
  refine bodyPost_ret (v:=Dd.rval r.d) (results_cell_row rfl _ _ w.heap.size 136 _ (0,0) _ rfl (set4 HT.out.res rfl _ _ _ _) underlying136 rfl i_rid) rfl HT.out.told
def MmPost (w:World) (M:Mp) (bk:Nat) (dv:Value) (f:FL) (d:Dd) (e:Ending) (w':World):Prop:=
 e= .returned d.rval∧MlAt w' M f∧RefSt w' M.base M.pr f.ps∧Wr (MG M bk dv) w w'
structure MmIn (w:World) (M:Mp) (bk:Nat) (so:Option Addr) (cap:Nat) (dv:Value) (f:FL) (L:Lp):Prop where
 ml:MlAt w M f
 ref:RefAt w M.base M.pr bk so cap dv f.ps
 n1:1≤f.s.n
 n2:f.s.n≤64
 hD:f.ps.D.length<1000000
 hws:f.ps.ws.length≤4096
 hac:f.ps.ac.length≤64
 hb:M.base≤w.heap.size
 ha:0≤M.a∧M.a≤4096
 l1:L.a1=M.a
 l2:L.a2=M.a+1
 prg:∀ k,f.pc k=0∨f.pc k=1∨f.pc k=2
 st4:∀ k,k<f.s.n→0≤f.s.st k∧f.s.st k≤4
 dr:∀ k,k<f.s.n→f.s.st k=3∨f.s.st k=4→f.pc k=2
 nrg:∀ k,0≤f.node k∧f.node k<4294967296
 arg:∀ k,0≤f.ahd k∧f.ahd k<4294967296
 tell:∀ u K a,0≤tellS f.ps u K a∧tellS f.ps u K a<4294967296
theorem mid_ref {w:World} {M:Mp} {bk:Nat} {so:Option Addr} {cap:Nat} {dv:Value} {f:FL} {L:Lp} (h:MmIn w M bk so cap dv f L) {ah:Nat→Int} (hag:∀ k,k<f.s.n→f.pc k=2→ah k=f.ahd k) {k:Nat} (hk:k<f.s.n) (u:Int):
  (rmid M f.s f.pc f.node ah f.ps k u).d=f.did L k u∧(rmid M f.s f.pc f.node ah f.ps k u).ps=(f.mid L k u).ps∧(rmid M f.s f.pc f.node ah f.ps k u).p=(f.mid L k u).pc∧(rmid M f.s f.pc f.node ah f.ps k u).nd=(f.mid L k u).node∧∀ j,j<f.s.n→(f.mid L k u).pc j=2→(rmid M f.s f.pc f.node ah f.ps k u).ah j=(f.mid L k u).ahd j:=by
 have ht:(0:Int)≤(k:Int)∧(k:Int)<f.s.n:=by omega
 unfold FL.did FL.mid rmid
 rw [if_pos ht,if_pos ht,Int.toNat_natCast]
 by_cases s3:f.s.st k=3
 ·have p2:=h.dr k hk (.inl s3)
  have s1:¬ f.s.st k=1:=by omega
  have e:=hag k hk p2
  rw [if_neg (λq=>s1 q.1),if_neg (λq=>s1 q.1),if_neg (λq=>s1 q.1),if_pos ⟨s3,p2⟩,if_neg s1,if_pos s3,if_neg s1,if_pos s3]
  unfold FL.rel
  refine ⟨rfl,?_,rfl,?_,λj hj hp=> ?_⟩
  ·show doS f.ps u 2 (M.a+1+f.node k) 0 0=doS f.ps u 2 (L.a2+f.node k) 0 0
   rw [h.l2]
  ·show upd f.node k (ah k)=upd f.node k (f.ahd k)
   rw [e]
  ·replace hp:upd f.pc k 0 j=2:=hp
   show ah j=upd f.ahd k 0 j
   by_cases e:j=k
   ·subst e;rw [upd_same] at hp;omega
   ·rw [upd_other _ _ e] at hp ⊢;exact hag j hj hp
 ·by_cases s4:f.s.st k=4
  ·have p2:=h.dr k hk (.inr s4)
   have s1:¬ f.s.st k=1:=by omega
   rw [if_neg (λq=>s1 q.1),if_neg (λq=>s1 q.1),if_neg (λq=>s1 q.1),if_neg (λq=>s3 q.1),if_pos ⟨s4,p2⟩,if_neg s1,if_neg s3,if_pos s4,if_neg s1,if_neg s3,if_pos s4]
   unfold FL.ask FL.askD
   rw [h.l1]
   exact ⟨rfl,rfl,rfl,rfl,hag⟩
  ·by_cases s1:f.s.st k=1
   ·rw [if_pos s1,if_pos s1]
    unfold FL.acq FL.acqD
    by_cases p0:f.pc k=0
    ·rw [if_pos ⟨s1,p0⟩,if_pos p0,if_pos p0,h.l2]
     refine ⟨rfl,rfl,rfl,rfl,λj hj hp=> ?_⟩
     replace hp:upd f.pc k 1 j=2:=hp
     by_cases e:j=k
     ·subst e;rw [upd_same] at hp;omega
     ·rw [upd_other _ _ e] at hp;exact hag j hj hp
    ·rw [if_neg (λq=>p0 q.2),if_neg p0,if_neg p0]
     by_cases p1:f.pc k=1
     ·rw [if_pos ⟨s1,p1⟩,if_pos p1,if_pos p1,h.l1]
      refine ⟨rfl,rfl,rfl,rfl,λj hj hp=> ?_⟩
      replace hp:upd f.pc k 2 j=2:=hp
      show upd ah k _ j=upd f.ahd k _ j
      by_cases e:j=k
      ·subst e;rw [upd_same,upd_same]
      ·rw [upd_other _ _ e] at hp;rw [upd_other _ _ e,upd_other _ _ e];exact hag j hj hp
     ·have p2:f.pc k=2:=by have:=h.prg k;omega
      have e:=hag k hk p2
      rw [if_neg (λq=>p1 q.2),if_pos ⟨s1,p2⟩,if_neg p1,if_neg p1,e,h.l2]
      exact ⟨rfl,rfl,rfl,rfl,hag⟩
   ·rw [if_neg (λq=>s1 q.1),if_neg (λq=>s1 q.1),if_neg (λq=>s1 q.1),if_neg (λq=>s3 q.1),if_neg (λq=>s4 q.1),if_neg s1,if_neg s3,if_neg s4,if_neg s1,if_neg s3,if_neg s4]
    exact ⟨rfl,rfl,rfl,rfl,hag⟩
theorem ml_out {w:World} {M:Mp} {bk:Nat} {so:Option Addr} {cap:Nat} {dv:Value} {s:SS} {p nd ah:Nat→Int} {ps:PSta} (h:MsIn w M bk so cap dv s p nd ah ps) (t:Int) (ht:¬ (0≤t∧t<s.n)) (u x:Int):
  Calls prog 134 #[.pointer (some ⟨M.r,0,none⟩),.pointer (some ⟨M.pr,0,none⟩),.int .i64 t,.int .i64 u,.int .i64 x] w (MsPost w M bk dv s p nd ah ps Dd.no):=by
 have n2:=h.n2
 have kk:Wr Nil w (w.alloc (.cells #[.int .i64 0,.int .i64 0,.int .i64 0,.int .i64 0] 136)):=(Wr.refl _ w).alloc _
 have b2:=(h.raw.after kk).cell2
 have hB:=blk_alloc_new w (.cells #[.int .i64 0,.int .i64 0,.int .i64 0,.int .i64 0] 136)
 have HE:=Lib.hid (And.intro (h.raw.after kk) (And.intro (h.ref.after kk λ_ _=>id) (And.intro hB kk)))
 clear h kk hB
 by_cases h0:t<0
 ·go_enter func134,ntmps134
  go_wp2
  refine bodyPost_ret (v:=Dd.rval Dd.no) (results_cell_row rfl _ _ w.heap.size 136 _ (0,0) _ rfl HE.out.2.2.1 underlying136 rfl i_rid) rfl ⟨rfl,HE.out.1,⟨bk,so,cap,dv,HE.out.2.1⟩,HE.out.2.2.2.mono λ_ _ e=>e.elim⟩
 ·have h1:(s.n:Int)≤t:=by omega
  clear ht
  generalize s.n=n at*
  go_enter func134,ntmps134
  go_wp2
  refine bodyPost_ret (v:=Dd.rval Dd.no) (results_cell_row rfl _ _ w.heap.size 136 _ (0,0) _ rfl HE.out.2.2.1 underlying136 rfl i_rid) rfl ⟨rfl,HE.out.1,⟨bk,so,cap,dv,HE.out.2.1⟩,HE.out.2.2.2.mono λ_ _ e=>e.elim⟩
theorem mm_step {w:World} {M:Mp} {bk:Nat} {so:Option Addr} {cap:Nat} {dv:Value} {f:FL} {L:Lp} (h:MmIn w M bk so cap dv f L) (t u x:Int):
  Calls prog 134 #[.pointer (some ⟨M.r,0,none⟩),.pointer (some ⟨M.pr,0,none⟩),.int .i64 t,.int .i64 u,.int .i64 x] w (MmPost w M bk dv (f.step L t u) (f.did L t u)):=by
 obtain ⟨ah,hraw,hag⟩:=h.ml.raw
 have hin:MsIn w M bk so cap dv f.s f.pc f.node ah f.ps:=⟨hraw,h.ref,h.n1,h.n2,h.hD,h.hws,h.hac,h.hb,h.ha⟩
 by_cases ht:0≤t∧t<f.s.n
 ·obtain ⟨k,rfl⟩:=Int.eq_ofNat_of_zero_le ht.1
  have hk:k<f.s.n:=by omega
  obtain ⟨q1,q2,q3,q4,q5⟩:=mid_ref h hag hk u
  refine (ml_step hin k hk u x (h.prg k) (h.st4 k hk) (h.nrg k) (λe=>by rw [hag k hk e];exact h.arg k) (h.tell u)).mono ?_
  rintro e w' ⟨rfl,a,b,c⟩
  rw [q1,q3,q4] at a
  rw [q2] at b
  rw [q1]
  exact ⟨rfl,⟨_,a,λj hj hp=>q5 j (by have hj:j<(f.s.fin k (f.did L k u).ev).n:=hj;rw [SS.fin_n] at hj;exact hj) hp⟩,b,c⟩
 ·have ed:f.did L t u=Dd.no:=by unfold FL.did;rw [if_neg ht]
  have es:f.step L t u=f:=by
   unfold FL.step
   have e0:endO f.s t Dd.no.ev=none:=by unfold endO;rw [if_neg ht]
   have e1:f.s.fin t Dd.no.ev=f.s:=by unfold SS.fin;rw [e0]
   rw [ed,e1]
   unfold FL.mid
   rw [if_neg ht]
  rw [ed,es]
  refine (ml_out hin t ht u x).mono ?_
  rintro e w' ⟨rfl,a,b,c⟩
  exact ⟨rfl,⟨_,a,hag⟩,b,c⟩
structure MkA (w X:World) (B n:Nat) (a:Int) (r sr:Nat) (hv dv:Value) (pc mn:Nat) (nv:Value):Prop where
 obj:X.heap[r]? =some (.cells #[.pointer (some ⟨sr,0,none⟩),.int .i64 a,.slice (some ⟨pc,0,none⟩) n n,nv,.slice (some ⟨mn,0,none⟩) n n] 161 (0,0))
 seat:RsAt X sr hv dv (newSeat n false true)
 pcs:X.heap[pc]? =some (.cells (rowA n (inV λ_=>0)) 3 (0,0))
 ahs:X.heap[mn]? =some (.cells (rowA n (inV λ_=>0)) 3 (0,0))
 ne:r≠pc∧r≠mn∧pc≠mn
 off:∀ k,SF sr hv dv k→k≠r∧k≠pc∧k≠mn
 new:w.heap.size≤r∧w.heap.size≤pc∧w.heap.size≤mn∧∀ k,SF sr hv dv k→w.heap.size≤k
 low:r<B∧pc<B∧mn<B∧∀ k,SF sr hv dv k→k<B
 wr:Wr Nil w X
namespace MkA
variable {w X Y:World} {B n r sr pc mn:Nat} {a:Int} {hv dv nv:Value}
theorem apart {S:Nat→Prop} (h:MkA w X B n a r sr hv dv pc mn nv) (k:Wr S X Y) (hS:∀ b,b<X.heap.size→S b→B≤b):MkA w Y B n a r sr hv dv pc mn nv:=by
 have l:=h.low
 have nw:=h.new
 have lr:=blk_lt h.obj
 have lp:=blk_lt h.pcs
 have lm:=blk_lt h.ahs
 refine ⟨(k.block _ lr λe=>by have:=hS _ lr e;omega).trans h.obj,h.seat.wrote k λj hj e=>by have:=hS _ (SrAt.lt h.seat hj) e;have:=l.2.2.2 j hj;omega,(k.block _ lp λe=>by have:=hS _ lp e;omega).trans h.pcs,(k.block _ lm λe=>by have:=hS _ lm e;omega).trans h.ahs,h.ne,h.off,h.new,h.low,h.wr.trans k λb hb e=> ?_⟩
 have:=hS b (Nat.lt_of_lt_of_le hb h.wr.size) e
 omega
theorem after (h:MkA w X B n a r sr hv dv pc mn nv) (k:Wr Nil X Y):MkA w Y B n a r sr hv dv pc mn nv:=h.apart k λ_ _ e=>e.elim
theorem cell3 (h:MkA w X B n a r sr hv dv pc mn nv):X.cell? ⟨r,3,none⟩=some nv:=by rw [blk_cell h.obj];rfl
theorem frz (h:MkA w X B n a r sr hv dv pc mn nv):X.frozen? ⟨r,3,none⟩=false:=blk_frozen h.obj 3
theorem set3 (h:MkA w X B n a r sr hv dv pc mn nv) (v:Value):MkA w (X.setCell ⟨r,3,none⟩ v) B n a r sr hv dv pc mn v:=by
 have k:Wr (One r) X (X.setCell ⟨r,3,none⟩ v):=(Wr.refl _ X).setCell _ _ λ_=>rfl
 have nw:=h.new
 have ne:=h.ne
 refine ⟨(blk_setCell h.obj 3 v).trans rfl,h.seat.wrote k λj hj e=>(h.off j hj).1 e,(k.block _ (blk_lt h.pcs) λe=>ne.1 e.symm).trans h.pcs,(k.block _ (blk_lt h.ahs) λe=>ne.2.1 e.symm).trans h.ahs,h.ne,h.off,h.new,h.low,h.wr.trans k λb hb e=> ?_⟩
 have e:b=r:=e
 omega
end MkA
def MkPost (w:World) (n:Nat) (a:Int) (v:Value) (X:World):Prop:=
 ∃ (r sr:Nat) (hv dv:Value) (pc mn:Nat),v= .pointer (some ⟨r,0,none⟩)∧MkA w X X.heap.size n a r sr hv dv pc mn (.slice none 0 0)
theorem two_0 (w:World) (A B:Obj):((w.alloc A).alloc B).heap[w.heap.size]? =some A:=by
 rw [blk_alloc_lt _ _ _ (by rw [nblk_alloc];omega),blk_alloc_new]
theorem two_1 (w:World) (A B:Obj):((w.alloc A).alloc B).heap[w.heap.size+1]? =some B:=by
 rw [←nblk_alloc w A,blk_alloc_new]
theorem mk_end {w Wc w2 W:World} {n:Nat} {a:Int} {r pc mn lb:Nat} {hv dv:Value} {A B:Array Value} (hA:rowA n (inV λ_=>0)=A) (hB:rowA n (inV λ_=>0)=B) (h0:Wr Nil w Wc) (hR:RsAt w2 r hv dv (newSeat n false true)) (hnew:∀ k,SF r hv dv k→Wc.heap.size≤k) (hW:Wr Nil Wc w2) (h2:Wr Nil w2 W)
  (hp:W.heap[pc]? =some (.cells A 3 (0,0))) (hm:W.heap[mn]? =some (.cells B 3 (0,0))) (hpp:(w.heap.size≤pc∧pc<Wc.heap.size)∨w2.heap.size≤pc) (hmm:(w.heap.size≤mn∧mn<Wc.heap.size)∨w2.heap.size≤mn) (hne:pc≠mn) (hlb:lb=W.heap.size)
  (Y:World) (hY:Y=W.alloc (.cells #[.pointer (some ⟨r,0,none⟩),.int .i64 a,.slice (some ⟨pc,0,none⟩) n n,.slice none 0 0,.slice (some ⟨mn,0,none⟩) n n] 161)):MkPost w n a (.pointer (some ⟨lb,0,none⟩)) Y:=by
 subst hlb hY hA hB
 have k:Wr Nil W (W.alloc (.cells #[.pointer (some ⟨r,0,none⟩),.int .i64 a,.slice (some ⟨pc,0,none⟩) n n,.slice none 0 0,.slice (some ⟨mn,0,none⟩) n n] 161)):=(Wr.refl _ W).alloc _
 have e1:(W.alloc (.cells #[.pointer (some ⟨r,0,none⟩),.int .i64 a,.slice (some ⟨pc,0,none⟩) n n,.slice none 0 0,.slice (some ⟨mn,0,none⟩) n n] 161)).heap.size=W.heap.size+1:=nblk_alloc _ _
 have s0:=h0.size
 have s1:=hW.size
 have s2:=h2.size
 have lp:=blk_lt hp
 have lm:=blk_lt hm
 have hsf:∀ k,SF r hv dv k→Wc.heap.size≤k∧k<w2.heap.size:=λk hk=>⟨hnew k hk,SrAt.lt hR hk⟩
 refine ⟨W.heap.size,r,hv,dv,pc,mn,rfl,⟨blk_alloc_new W _,hR.after (h2.nil k),(k.block _ lp id).trans hp,(k.block _ lm id).trans hm,⟨by omega,by omega,hne⟩,λj hj=> ?_,⟨by omega,by omega,by omega,λj hj=> ?_⟩,⟨by omega,by omega,by omega,λj hj=> ?_⟩,((h0.nil hW).nil h2).nil k⟩⟩
 ·have:=hsf j hj
  omega
 ·have:=hsf j hj;omega
 ·have:=hsf j hj;omega
def ones1 (k:Nat):List Value:=(List.range k).map λ(i:Nat)=>Value.int .i64 ((i:Int)+1)
theorem ones1_more (k:Nat):ones1 (k+1)=ones1 k++[.int .i64 ((k:Int)+1)]:=by unfold ones1;rw [List.range_succ,List.map_append];rfl
structure MkL (w X:World) (B n:Nat) (a:Int) (r sr:Nat) (hv dv:Value) (pc mn k:Nat) (v:Value):Prop where
 am:MkA w X B n a r sr hv dv pc mn v
 own:X.ownsRow B 3 1 v k (ones1 k)
 sz:B≤X.heap.size
def NewMlPost (w:World) (n:Nat) (a:Int) (e:Ending) (w':World):Prop:=
 ∃ M:Mp,e= .returned (.pointer (some ⟨M.r,0,none⟩))∧MlRaw w' M (newSeat n false true) (λ_=>0) (nodeK n) (λ_=>0)∧M.a=a∧M.base=w'.heap.size∧(w.heap.size≤M.r∧∀ k,MF M k→w.heap.size≤k)∧Wr Nil w w'
theorem mk_done {w X:World} {B n:Nat} {a:Int} {r sr:Nat} {hv dv:Value} {pc mn:Nat} {v:Value} (h:MkL w X B n a r sr hv dv pc mn n v) (n1:1≤n) (hB:w.heap.size≤B):NewMlPost w n a (.returned (.pointer (some ⟨r,0,none⟩))) X:=by
 have l:=h.am.low
 have nw:=h.am.new
 have ne:=h.am.ne
 have sz:=h.sz
 have hl:=h.own.1
 rcases h.own.2 with ⟨_,h0⟩|⟨g,cap,cur,rfl,hb,hg,hnc,hcm,hcs,ht⟩
 ·omega
 ·have gl:=blk_lt hg
  refine ⟨⟨r,sr,hv,dv,pc,g,cap,mn,a,0,X.heap.size⟩,rfl,⟨h.am.obj,h.am.seat,h.am.pcs,⟨cur,hg,λk hk=> ?_⟩,h.am.ahs,⟨ne.1,by dsimp only;omega,ne.2.1,by dsimp only;omega,ne.2.2,by dsimp only;omega⟩,λj hj=> ?_,?_⟩,rfl,rfl,⟨nw.1,λj hj=> ?_⟩,h.am.wr⟩
  ·have hk:k<n:=hk
   have h2:(cur.toList.take (n*1))[k]? =(ones1 n)[k]? :=by rw [ht]
   rw [List.getElem?_take_of_lt (by omega)] at h2
   rw [←Array.getElem?_toList,h2]
   unfold ones1 inV nodeK
   rw [List.getElem?_map,List.getElem?_range hk,if_pos hk]
   rfl
  ·have o:=h.am.off j hj
   have q:=l.2.2.2 j hj
   dsimp only
   exact ⟨o.1,o.2.1,by omega,o.2.2⟩
  ·dsimp only
   exact ⟨by omega,by omega,by omega,by omega,λj hj=>by have:=l.2.2.2 j hj;omega⟩
  ·rcases hj with rfl|rfl|rfl|hj
   ·(try dsimp only);omega
   ·(try dsimp only);omega
   ·(try dsimp only);omega
   ·exact nw.2.2.2 j hj
theorem ml_new (n:Nat) (n1:1≤n) (n2:n≤64) (a:Int) (w:World):Calls prog 51 #[.int .i64 (n:Int),.int .i64 a] w (NewMlPost w n a):=by
 obtain ⟨i0,hi,hz0,hz1,hz2⟩:=info_parts info_int
 have hmk:∀ w:World,(Instr.makeSlice 22 (.int .i64 (n:Int)) (.int .i64 (n:Int))).run prog w= .ok (.slice (some ⟨w.heap.size,0,none⟩) n n) (w.alloc (.cells (rowA n (inV λ_=>0)) 3)):=by
  intro w
  have h:=Go.run_make (P:=prog) w 22 3 i0 _ underlying22 hi hz0 .i64 .i64 n n (by omega) (by omega) (by rw [hz2];omega) (by omega)
  rw [hz1] at h
  simp only [Int.toNat_natCast] at h
  rw [show madeCells (Value.int .i64 0).cells (n*1)=rowA n (inV λ_=>0) from made_row (.int .i64 0) n] at h
  exact h
 generalize hA:rowA n (inV λ_=>0)=A at hmk
 have cS:=λW=>rs_new n false true n2 W
 have HA:=Lib.hid (And.intro hA hA)
 clear hA
 go_enter func51,ntmps51
 go_upto_region 1 with fail
 go_cut [5] from 7 to 15 (λv5 wx=>MkPost w n a v5 wx)
 case first=>
  go_region_with (go_at_call 32;(with_reducible refine (cS _).mono ?_);intro e w2 hq;unfold RsNewPost at hq;obtain ⟨r,hv,dv,rfl,hR,hnew,hW⟩:=hq;have HR:=Lib.hid (And.intro hR (And.intro hnew hW));clear hR hnew hW cS)
  all_goals
   go_wp2
   go_meet
   first
    |exact mk_end HA.out.1 HA.out.2 ((Wr.refl Nil w).drew) HR.out.1 HR.out.2.1 HR.out.2.2 (((Wr.refl Nil w2).alloc _).alloc _) (two_0 w2 _ _) (two_1 w2 _ _) (by exact .inr (Nat.le_refl _)) (by exact .inr (Nat.le_succ _)) (by omega) (by simp only [nblk_alloc]) _ rfl
    |exact mk_end HA.out.1 HA.out.2 ((Wr.refl Nil w).drew) HR.out.1 HR.out.2.1 HR.out.2.2 (((Wr.refl Nil w2).alloc _).alloc _) (two_1 w2 _ _) (two_0 w2 _ _) (by exact .inr (Nat.le_succ _)) (by exact .inr (Nat.le_refl _)) (by omega) (by simp only [nblk_alloc]) _ rfl
    |exact mk_end HA.out.1 HA.out.2 (((Wr.refl Nil w).alloc _).drew) HR.out.1 HR.out.2.1 HR.out.2.2 ((Wr.refl Nil w2).alloc _) ((blk_alloc_lt w2 _ _ (Nat.lt_of_lt_of_le ((by have e:(w.alloc (.cells A 3)).heap.size=w.heap.size+1:=nblk_alloc _ _;show w.heap.size<(w.alloc (.cells A 3)).heap.size;omega)) HR.out.2.2.size)).trans ((HR.out.2.2.block w.heap.size ((by have e:(w.alloc (.cells A 3)).heap.size=w.heap.size+1:=nblk_alloc _ _;show w.heap.size<(w.alloc (.cells A 3)).heap.size;omega)) id).trans (blk_alloc_new w (.cells A 3)))) (blk_alloc_new w2 _) (by exact .inl ⟨Nat.le_refl _,(by have e:(w.alloc (.cells A 3)).heap.size=w.heap.size+1:=nblk_alloc _ _;show w.heap.size<(w.alloc (.cells A 3)).heap.size;omega)⟩) (by exact .inr (Nat.le_refl _)) (by have q1:w.heap.size<(w.alloc (.cells A 3)).heap.size:=(by have e:(w.alloc (.cells A 3)).heap.size=w.heap.size+1:=nblk_alloc _ _;show w.heap.size<(w.alloc (.cells A 3)).heap.size;omega);have q2:=HR.out.2.2.size;have q3:(w.alloc (.cells A 3)).heap.size≤w2.heap.size:=q2;omega) (by simp only [nblk_alloc]) _ rfl
    |exact mk_end HA.out.1 HA.out.2 (((Wr.refl Nil w).drew).alloc _) HR.out.1 HR.out.2.1 HR.out.2.2 ((Wr.refl Nil w2).alloc _) ((blk_alloc_lt w2 _ _ (Nat.lt_of_lt_of_le ((by have e:(w.alloc (.cells A 3)).heap.size=w.heap.size+1:=nblk_alloc _ _;show w.heap.size<(w.alloc (.cells A 3)).heap.size;omega)) HR.out.2.2.size)).trans ((HR.out.2.2.block w.heap.size ((by have e:(w.alloc (.cells A 3)).heap.size=w.heap.size+1:=nblk_alloc _ _;show w.heap.size<(w.alloc (.cells A 3)).heap.size;omega)) id).trans (blk_alloc_new w (.cells A 3)))) (blk_alloc_new w2 _) (by exact .inl ⟨Nat.le_refl _,(by have e:(w.alloc (.cells A 3)).heap.size=w.heap.size+1:=nblk_alloc _ _;show w.heap.size<(w.alloc (.cells A 3)).heap.size;omega)⟩) (by exact .inr (Nat.le_refl _)) (by have q1:w.heap.size<(w.alloc (.cells A 3)).heap.size:=(by have e:(w.alloc (.cells A 3)).heap.size=w.heap.size+1:=nblk_alloc _ _;show w.heap.size<(w.alloc (.cells A 3)).heap.size;omega);have q2:=HR.out.2.2.size;have q3:(w.alloc (.cells A 3)).heap.size≤w2.heap.size:=q2;omega) (by simp only [nblk_alloc]) _ rfl
    |exact mk_end HA.out.1 HA.out.2 (((Wr.refl Nil w).alloc _).drew) HR.out.1 HR.out.2.1 HR.out.2.2 ((Wr.refl Nil w2).alloc _) (blk_alloc_new w2 _) ((blk_alloc_lt w2 _ _ (Nat.lt_of_lt_of_le ((by have e:(w.alloc (.cells A 3)).heap.size=w.heap.size+1:=nblk_alloc _ _;show w.heap.size<(w.alloc (.cells A 3)).heap.size;omega)) HR.out.2.2.size)).trans ((HR.out.2.2.block w.heap.size ((by have e:(w.alloc (.cells A 3)).heap.size=w.heap.size+1:=nblk_alloc _ _;show w.heap.size<(w.alloc (.cells A 3)).heap.size;omega)) id).trans (blk_alloc_new w (.cells A 3)))) (by exact .inr (Nat.le_refl _)) (by exact .inl ⟨Nat.le_refl _,(by have e:(w.alloc (.cells A 3)).heap.size=w.heap.size+1:=nblk_alloc _ _;show w.heap.size<(w.alloc (.cells A 3)).heap.size;omega)⟩) (by have q1:w.heap.size<(w.alloc (.cells A 3)).heap.size:=(by have e:(w.alloc (.cells A 3)).heap.size=w.heap.size+1:=nblk_alloc _ _;show w.heap.size<(w.alloc (.cells A 3)).heap.size;omega);have q2:=HR.out.2.2.size;have q3:(w.alloc (.cells A 3)).heap.size≤w2.heap.size:=q2;omega) (by simp only [nblk_alloc]) _ rfl
    |exact mk_end HA.out.1 HA.out.2 (((Wr.refl Nil w).drew).alloc _) HR.out.1 HR.out.2.1 HR.out.2.2 ((Wr.refl Nil w2).alloc _) (blk_alloc_new w2 _) ((blk_alloc_lt w2 _ _ (Nat.lt_of_lt_of_le ((by have e:(w.alloc (.cells A 3)).heap.size=w.heap.size+1:=nblk_alloc _ _;show w.heap.size<(w.alloc (.cells A 3)).heap.size;omega)) HR.out.2.2.size)).trans ((HR.out.2.2.block w.heap.size ((by have e:(w.alloc (.cells A 3)).heap.size=w.heap.size+1:=nblk_alloc _ _;show w.heap.size<(w.alloc (.cells A 3)).heap.size;omega)) id).trans (blk_alloc_new w (.cells A 3)))) (by exact .inr (Nat.le_refl _)) (by exact .inl ⟨Nat.le_refl _,(by have e:(w.alloc (.cells A 3)).heap.size=w.heap.size+1:=nblk_alloc _ _;show w.heap.size<(w.alloc (.cells A 3)).heap.size;omega)⟩) (by have q1:w.heap.size<(w.alloc (.cells A 3)).heap.size:=(by have e:(w.alloc (.cells A 3)).heap.size=w.heap.size+1:=nblk_alloc _ _;show w.heap.size<(w.alloc (.cells A 3)).heap.size;omega);have q2:=HR.out.2.2.size;have q3:(w.alloc (.cells A 3)).heap.size≤w2.heap.size:=q2;omega) (by simp only [nblk_alloc]) _ rfl
    |exact mk_end HA.out.1 HA.out.2 ((((Wr.refl Nil w).alloc _).alloc _).drew) HR.out.1 HR.out.2.1 HR.out.2.2 (Wr.refl Nil w2) ((HR.out.2.2.block w.heap.size ((by have e:((w.alloc (.cells A 3)).alloc (.cells A 3)).heap.size=w.heap.size+1+1:=(by rw [nblk_alloc,nblk_alloc]);show w.heap.size<((w.alloc (.cells A 3)).alloc (.cells A 3)).heap.size;omega)) id).trans (two_0 w (.cells A 3) (.cells A 3))) ((HR.out.2.2.block (w.heap.size+1) ((by have e:((w.alloc (.cells A 3)).alloc (.cells A 3)).heap.size=w.heap.size+1+1:=(by rw [nblk_alloc,nblk_alloc]);show w.heap.size+1<((w.alloc (.cells A 3)).alloc (.cells A 3)).heap.size;omega)) id).trans (two_1 w (.cells A 3) (.cells A 3))) (by exact .inl ⟨Nat.le_refl _,(by have e:((w.alloc (.cells A 3)).alloc (.cells A 3)).heap.size=w.heap.size+1+1:=(by rw [nblk_alloc,nblk_alloc]);show w.heap.size<((w.alloc (.cells A 3)).alloc (.cells A 3)).heap.size;omega)⟩) (by exact .inl ⟨Nat.le_succ _,(by have e:((w.alloc (.cells A 3)).alloc (.cells A 3)).heap.size=w.heap.size+1+1:=(by rw [nblk_alloc,nblk_alloc]);show w.heap.size+1<((w.alloc (.cells A 3)).alloc (.cells A 3)).heap.size;omega)⟩) (by omega) rfl _ rfl
    |exact mk_end HA.out.1 HA.out.2 ((((Wr.refl Nil w).drew).alloc _).alloc _) HR.out.1 HR.out.2.1 HR.out.2.2 (Wr.refl Nil w2) ((HR.out.2.2.block w.heap.size ((by have e:((w.alloc (.cells A 3)).alloc (.cells A 3)).heap.size=w.heap.size+1+1:=(by rw [nblk_alloc,nblk_alloc]);show w.heap.size<((w.alloc (.cells A 3)).alloc (.cells A 3)).heap.size;omega)) id).trans (two_0 w (.cells A 3) (.cells A 3))) ((HR.out.2.2.block (w.heap.size+1) ((by have e:((w.alloc (.cells A 3)).alloc (.cells A 3)).heap.size=w.heap.size+1+1:=(by rw [nblk_alloc,nblk_alloc]);show w.heap.size+1<((w.alloc (.cells A 3)).alloc (.cells A 3)).heap.size;omega)) id).trans (two_1 w (.cells A 3) (.cells A 3))) (by exact .inl ⟨Nat.le_refl _,(by have e:((w.alloc (.cells A 3)).alloc (.cells A 3)).heap.size=w.heap.size+1+1:=(by rw [nblk_alloc,nblk_alloc]);show w.heap.size<((w.alloc (.cells A 3)).alloc (.cells A 3)).heap.size;omega)⟩) (by exact .inl ⟨Nat.le_succ _,(by have e:((w.alloc (.cells A 3)).alloc (.cells A 3)).heap.size=w.heap.size+1+1:=(by rw [nblk_alloc,nblk_alloc]);show w.heap.size+1<((w.alloc (.cells A 3)).alloc (.cells A 3)).heap.size;omega)⟩) (by omega) rfl _ rfl
    |exact mk_end HA.out.1 HA.out.2 ((((Wr.refl Nil w).alloc _).alloc _).drew) HR.out.1 HR.out.2.1 HR.out.2.2 (Wr.refl Nil w2) ((HR.out.2.2.block (w.heap.size+1) ((by have e:((w.alloc (.cells A 3)).alloc (.cells A 3)).heap.size=w.heap.size+1+1:=(by rw [nblk_alloc,nblk_alloc]);show w.heap.size+1<((w.alloc (.cells A 3)).alloc (.cells A 3)).heap.size;omega)) id).trans (two_1 w (.cells A 3) (.cells A 3))) ((HR.out.2.2.block w.heap.size ((by have e:((w.alloc (.cells A 3)).alloc (.cells A 3)).heap.size=w.heap.size+1+1:=(by rw [nblk_alloc,nblk_alloc]);show w.heap.size<((w.alloc (.cells A 3)).alloc (.cells A 3)).heap.size;omega)) id).trans (two_0 w (.cells A 3) (.cells A 3))) (by exact .inl ⟨Nat.le_succ _,(by have e:((w.alloc (.cells A 3)).alloc (.cells A 3)).heap.size=w.heap.size+1+1:=(by rw [nblk_alloc,nblk_alloc]);show w.heap.size+1<((w.alloc (.cells A 3)).alloc (.cells A 3)).heap.size;omega)⟩) (by exact .inl ⟨Nat.le_refl _,(by have e:((w.alloc (.cells A 3)).alloc (.cells A 3)).heap.size=w.heap.size+1+1:=(by rw [nblk_alloc,nblk_alloc]);show w.heap.size<((w.alloc (.cells A 3)).alloc (.cells A 3)).heap.size;omega)⟩) (by omega) rfl _ rfl
    |exact mk_end HA.out.1 HA.out.2 ((((Wr.refl Nil w).drew).alloc _).alloc _) HR.out.1 HR.out.2.1 HR.out.2.2 (Wr.refl Nil w2) ((HR.out.2.2.block (w.heap.size+1) ((by have e:((w.alloc (.cells A 3)).alloc (.cells A 3)).heap.size=w.heap.size+1+1:=(by rw [nblk_alloc,nblk_alloc]);show w.heap.size+1<((w.alloc (.cells A 3)).alloc (.cells A 3)).heap.size;omega)) id).trans (two_1 w (.cells A 3) (.cells A 3))) ((HR.out.2.2.block w.heap.size ((by have e:((w.alloc (.cells A 3)).alloc (.cells A 3)).heap.size=w.heap.size+1+1:=(by rw [nblk_alloc,nblk_alloc]);show w.heap.size<((w.alloc (.cells A 3)).alloc (.cells A 3)).heap.size;omega)) id).trans (two_0 w (.cells A 3) (.cells A 3))) (by exact .inl ⟨Nat.le_succ _,(by have e:((w.alloc (.cells A 3)).alloc (.cells A 3)).heap.size=w.heap.size+1+1:=(by rw [nblk_alloc,nblk_alloc]);show w.heap.size+1<((w.alloc (.cells A 3)).alloc (.cells A 3)).heap.size;omega)⟩) (by exact .inl ⟨Nat.le_refl _,(by have e:((w.alloc (.cells A 3)).alloc (.cells A 3)).heap.size=w.heap.size+1+1:=(by rw [nblk_alloc,nblk_alloc]);show w.heap.size<((w.alloc (.cells A 3)).alloc (.cells A 3)).heap.size;omega)⟩) (by omega) rfl _ rfl
 case rest=>
  clear hmk cS HA A
  unfold MkPost at hcut
  obtain ⟨r,sr,hv,dv,pc,mn,rfl,hM⟩:=hcut
  obtain ⟨B,hB⟩:∃ B,B=wc.heap.size:=⟨_,rfl⟩
  rw [←hB] at hM
  have HM:=Lib.hid (And.intro hM hB)
  clear hM hB
  go_wp2
  go_loopw [6] (λv6 wr=>∃ (k:Nat) (v:Value),k≤n∧v6= .int .i64 k∧MkL w wr B n a r sr hv dv pc mn k v) (λv6 _=>n-(intOf v6).toNat)
  case atStart=>exact ⟨0,.slice none 0 0,Nat.zero_le _,rfl,HM.out.1,World.ownsRow_nil _ _ _ _,by rw [HM.out.2];exact Nat.le_refl _⟩
  case round=>
   obtain ⟨k,v,hk,rfl,hL⟩:=hrel
   by_cases hlt:k<n
   ·obtain ⟨so,cp,rfl⟩:=own_form hL.own
    have c3:=hL.am.cell3
    have hown:=hL.own
    have hsz:=hL.sz
    have hwk:IntKind.i64.wrap ((k:Int)+1)=(k:Int)+1:=by rw [IntKind.wrap_i64];omega
    have key:∀ (w1:World) (v':Value),w1.ownsRow B 3 1 v' (k+1) (ones1 k++[.int .i64 ((k:Int)+1)])→(wr.alloc (.cells #[.int .i64 ((k:Int)+1)] 3)).grownBy w1 (Value.slice so k cp).ownBlock→MkA w w1 B n a r sr hv dv pc mn (.slice so k cp)∧MkL w (w1.setCell ⟨r,3,none⟩ v') B n a r sr hv dv pc mn (k+1) v':=λw1 v' ho hg=>by
     have k0:Wr Nil wr (wr.alloc (.cells #[.int .i64 ((k:Int)+1)] 3)):=(Wr.refl _ wr).alloc _
     have hM1:=hL.am.after k0
     have k1:Wr (λb=>(Value.slice so k cp).ownBlock=some b) (wr.alloc (.cells #[.int .i64 ((k:Int)+1)] 3)) w1:=(Wr.refl _ _).grown hg λb hb _=>hb
     have hM2:=hM1.apart k1 λb _ e=>(hL.own.lt b e).1
     refine ⟨hM2,hM2.set3 v',?_,?_⟩
     ·rw [ones1_more]
      refine ownsRow_keep ho λj hj=> ?_
      have hj1:=ho.lt j hj
      have kr:Wr (One r) w1 (w1.setCell ⟨r,3,none⟩ v'):=(Wr.refl _ w1).setCell _ _ λ_=>rfl
      exact kr.block j hj1.2 λe=>by have e:j=r:=e;have:=hM2.low.1;omega
     ·rw [nblk_setCell]
      have:=k0.size
      have:=k1.size
      omega
    have HK:=Lib.hid key
    clear key hL
    go_wp2_with (at_builtin;refine wpList_append_own _ rfl _ _ 22 rfl B 3 i0 (.int .i64 0) 1 8 underlying22 hi hz0 hz1 hz2 rfl (by decide) _ _ _ rfl (hown.alloc _) ⟨wr.heap.size,0,none⟩ 1 1 [.int .i64 ((k:Int)+1)] rfl rfl ?c1 ?c2 ?c3 ?c4 ?c5 ?_)
    case c1=>
     intro j u hj
     match j,hj with
     |0,hj=>simp at hj;subst hj;simp [Addr.add]
    case c2=>intro u hu;simp at hu;subst hu;rfl
    case c3=>unfold maxLen;omega
    case c4=>omega
    case c5=>simp;omega
    ·intro v' w1 hown' hgrow _
     obtain ⟨hM2,hL2⟩:=HK.out _ _ hown' hgrow
     obtain ⟨so',cp',rfl⟩:=own_form hown'
     have f3:=hM2.cell3
     have z3:=hM2.frz
     have HN:=Lib.hid hL2
     clear hM2 hL2 hown' hgrow
     go_wp2
     go_roundw
     case rel=>exact ⟨k+1,_,by omega,by go_num,HN.out⟩
     case measure=>simp [intOf];omega
   ·obtain rfl:k=n:=by omega
    have HN:=Lib.hid (mk_done hL n1 (by rw [HM.out.2];exact HM.out.1.wr.size))
    clear hL HM
    go_wp2
    go_ret
    exact HN.out
theorem lit_two {w W:World} (k:Wr Nil w W) (e:TypeId) (x y:Value):Grow e 1 w w.heap.size (W.alloc (.cells #[x,y] e)) 2 [x,y] (.slice (some ⟨W.heap.size,0,none⟩) 2 2):=
 ⟨World.ownsRow_lit W #[x,y] 2 k.size (by decide) rfl,k.alloc _,by rw [nblk_alloc];have:=k.size;omega,Nat.le_refl _⟩
def HomesNewPost (w:World) (zs:List Int) (n:Nat) (e:Ending) (w':World):Prop:=∃ g cap,e= .returned (.slice (some ⟨g,0,none⟩) (n+2) cap)∧RowAt .i64 w' (some ⟨g,0,none⟩) (n+2) ([zs.getD 0 0]++[zs.getD 0 0]++zs)∧Wr Nil w w'
theorem ml_homes {w:World} {b o n cp:Nat} {zs:List Int} (hr:RowAt .i64 w (some ⟨b,o,none⟩) n zs) (n1:1≤n) (n64:n≤64):Calls prog 53 #[.slice (some ⟨b,o,none⟩) n cp] w (HomesNewPost w zs n):=by
 obtain ⟨i0,hi,hz0,hz1,hz2⟩:=info_parts info_int
 have hc:=hr.cell ⟨b,o,none⟩ rfl 0 (by omega)
 have hc:w.cell? ⟨b,o,none⟩=some (.int .i64 (zs.getD 0 0)):=hc
 obtain ⟨x,hx⟩:∃ x,x=zs.getD 0 0:=⟨_,rfl⟩
 unfold HomesNewPost
 rw [←hx] at hc ⊢
 have HR:=Lib.hid hr
 have n0:(0:Nat)<n:=n1
 have i1:(0:Int)<n:=by omega
 clear hr hx
 go_enter func53,ntmps53
 go_upto_region 1 with fail
 go_cut [3] from 4 to 10 (λv3 wx=>Grow 3 1 w w.heap.size wx 2 [.int .i64 x,.int .i64 x] v3)
 case first=>
  go_region
  all_goals
   go_wp2
   go_meet
   first
    |exact lit_two ((Wr.refl Nil w).drew) _ _ _
    |exact (lit_two (Wr.refl Nil w) _ _ _).after ((Wr.refl Nil _).drew)
 case rest=>
  clear hc
  have hown:=hcut.own
  have HG:=Lib.hid hcut
  have hs:=hcut.wrote.size
  clear hcut
  go_wp2_with (at_builtin;refine wpList_append_own _ rfl _ _ 22 rfl w.heap.size 3 i0 (.int .i64 0) 1 8 underlying22 hi hz0 hz1 hz2 rfl (by decide) _ _ _ rfl hown ⟨b,o,none⟩ n cp (zs.map (.int .i64)) rfl ?c0 ?c1 ?c2 ?c3 ?c4 ?c5 ?_)
  case c0=>rw [List.length_map,HR.out.len];omega
  case c1=>
   intro j u hj
   rw [List.getElem?_map] at hj
   obtain ⟨y,hy,rfl⟩:=Option.map_eq_some_iff.1 hj
   have hjn:j<n:=by rw [←HR.out.len];exact (List.getElem?_eq_some_iff.1 hy).1
   have:=(HR.out.after HG.out.wrote).cell _ rfl j hjn
   rw [this,List.getD_eq_getElem?_getD,hy]
   rfl
  case c2=>intro u hu;obtain ⟨y,_,rfl⟩:=List.mem_map.1 hu;rfl
  case c3=>unfold maxLen;omega
  case c4=>omega
  case c5=>exact hs
  ·intro v' w1 hown' hgrow _
   have hG:=HG.out.more hown' hgrow
   have e:[Value.int .i64 x,.int .i64 x]++zs.map (.int .i64)=([x]++[x]++zs).map (.int .i64):=by simp
   have ho:=hG.own
   rw [e,Nat.add_comm] at ho
   obtain ⟨g,cap,rfl,hrow⟩:=own_row ho (by omega)
   have HX:=Lib.hid (And.intro hrow hG.wrote)
   clear hown' hgrow hG ho hrow e
   go_wp2
   go_ret
   exact ⟨g,cap,by rw [Nat.add_comm n 2];rfl,HX.out.1.2.2.2.1,HX.out.2⟩
end Go.Proofs.YtkmikkjjnbikdaaGreat.Kc

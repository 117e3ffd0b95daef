/- For every input the Go function MachineOne of weighlocklaw18 returns true, and its arguments read afterwards as before. Conditions: none. -/
import Derived.Test.YtmnephejhkfchaaGreatMaOrd
namespace Go.Proofs.YtmnephejhkfchaaGreat.machineOne
set_option maxHeartbeats 8000000
open _root_.Go.Proofs.Tryz
open Go.ChangeShapes Go.WideShapes Go.ChangeAt Go.RowKit
set_option linter.unusedVariables false
theorem own:ownKnob prog.godebug=none:=by kernel_rfl
theorem laidOut:laidOutB prog=true:=by kernel_rfl
set_option maxRecDepth 100000 in
theorem walk (Kj:Int) (Mp:Option Addr) (EZ E8:Nat) (UJ:List Int) (M3:Int) (Kk:Int) (Kl:Int) (Kn:Int) (Ko:Int) (Kq:Int) (s1:Option Addr) (EG Kw:Nat) (z1:Nat->Nat->Int) (w:World) (Yd:(Lit.int .i64 Kj).wf=true) (Vb:EZ<=E8/\E8<=maxLen/\(Mp=none->E8=0)) (Tg:Ad .i64 w Mp EZ UJ) (Ye:∀ z∈UJ,(Lit.int .i64 z).wf=true) (Wh:(Lit.int .u32 M3).wf=true) (Yf:(Lit.int .i64 Kk).wf=true) (Yg:(Lit.int .i64 Kl).wf=true) (Yh:(Lit.int .i64 Kn).wf=true) (Yi:(Lit.int .i64 Ko).wf=true) (Yj:(Lit.int .i64 Kq).wf=true) (l1:EG<=Kw/\Kw<=maxLen/\(s1=none->Kw=0)) (r1:Structs w [.i64,.i64,.i64] s1 EG z1):
  Calls prog 3 #[.agg #[.int .i64 Kj,.slice Mp EZ E8,.int .u32 M3,.int .i64 Kk,.int .i64 Kl,.int .i64 Kn,.int .i64 Ko,.int .i64 Kq],.slice s1 EG Kw] w λe w'=>e= .returned (.bool true)/\Below w.heap.size w w':=by
 have hm0:EZ<=9223372036854775807:=by have:=Vb.1;have:=Vb.2.1;unfold maxLen at this;omega
 obtain ⟨v0,v1⟩:=UA Wh;obtain ⟨X,hX⟩:∃ X,X=w.alloc (.cells #[.int .i64 Kj,.slice Mp EZ E8,.int .u32 M3,.int .i64 Kk,.int .i64 Kl,.int .i64 Kn,.int .i64 Ko,.int .i64 Kq] 25):=⟨_,rfl⟩
 have E_:Wr Nil w X:=by rw [hX];exact (Wr.refl _ w).alloc _
 have hblk:X.heap[w.heap.size]? =some (.cells #[.int .i64 Kj,.slice Mp EZ E8,.int .u32 M3,.int .i64 Kk,.int .i64 Kl,.int .i64 Kn,.int .i64 Ko,.int .i64 Kq] 25 (0,0)):=by rw [hX];exact Go.Deep.blk_alloc_new _ _
 have x0:X.cell? ⟨w.heap.size,0,none⟩=some (.int .i64 Kj):=(A1 hblk 0).trans rfl;have x1:X.cell? ⟨w.heap.size,1,none⟩=some (.slice Mp EZ E8):=(A1 hblk 1).trans rfl;have x2:X.cell? ⟨w.heap.size,2,none⟩=some (.int .u32 M3):=(A1 hblk 2).trans rfl;have x3:X.cell? ⟨w.heap.size,3,none⟩=some (.int .i64 Kk):=(A1 hblk 3).trans rfl;have x4:X.cell? ⟨w.heap.size,4,none⟩=some (.int .i64 Kl):=(A1 hblk 4).trans rfl;have x5:X.cell? ⟨w.heap.size,5,none⟩=some (.int .i64 Kn):=(A1 hblk 5).trans rfl;have x6:X.cell? ⟨w.heap.size,6,none⟩=some (.int .i64 Ko):=(A1 hblk 6).trans rfl;have x7:X.cell? ⟨w.heap.size,7,none⟩=some (.int .i64 Kq):=(A1 hblk 7).trans rfl;have HX:=Qw hX;have rX:=Tg.after E_;have HW:=Qw E_;have fA:=Qw hblk;clear hX hblk;clear Yd Ye Wh Yf Yg Yh Yi Yj E_;have a_:EG<=9223372036854775807:=by have:=l1.1;have:=l1.2.1;unfold maxLen at this;omega
 have hev:=ZX r1;have cF:=Xd (cap:=E8) (kd:=Kj) (v:=M3) (sz:=Kk) (pl:=Kl) (B:=Kn) (G:=Ko) (D:=Kq) rX hm0 s1 EG Kw a_ 400;cases hf:decide (EZ<=8/\Ky Kj EZ UJ Kk Kl Kn Ko Kq=0/\(EG:Int)<=400)
 ·rw [hf] at cF
  clear hf r1 Tg rX hev
  go_in
  go_upto_region 1 with fail
  rw [<-HX.out]
  go_wp2_with (first
   |((with_reducible refine cF.mono ?_);intro e w2 hq;unfold NC at hq;obtain ⟨rfl,Ba⟩:=hq;have H2:=Qw Ba;clear Ba cF)
   |((with_reducible refine (MW _).mono ?_);intro e w9 hq;unfold Kb at hq;obtain ⟨rfl,fZ⟩:=hq))
  go_ret;exact ⟨rfl,(HW.out.nil (H2.out.nil fZ)).law⟩
 obtain ⟨n8,h0,hm⟩:=Xe hf;rw [hf] at cF;clear hf;obtain ⟨ho,n1,n2⟩:=ZR h0;rcases rX.at with e0|⟨b,o,rfl,hc⟩
 ·omega
 have hb:b<X.heap.size:=World.block_lt_of_cell? X _ (hc 0 (by omega));have cN:=λW (k:Wr Nil X W)=>PB (cap:=E8) λW' k'=>Rp (cap:=E8) h0 (by omega) (rX.after (k.nil k')) (Nat.lt_of_lt_of_le hb (k.nil k').size) ⟨v0,v1⟩;have HN:=Qw cN;have HE:=Qw (Qz hev hm);have hlen:EG<=1000:=by omega
 have H8:=Qw (Qz ho (Qz n8 (Qz (Qz v0 v1) rX.len)));clear r1 Tg rX hev hb v0 v1 hc ho n1 n2 h0 cN hm n8 fA
 go_in
 go_upto_region 1 with fail
 rw [<-HX.out]
 go_upto_region 6 with (first
  |((with_reducible refine cF.mono ?_);intro e w2 hq;unfold NC at hq;obtain ⟨rfl,Ba⟩:=hq;have H2:=Qw Ba;have nP:=Ba.old x0;have nR:=Ba.old x1;have nU:=Ba.old x2;have nV:=Ba.old x3;have nW:=Ba.old x4;have nX:=Ba.old x5;have nY:=Ba.old x6;have nZ:=Ba.old x7;clear Ba cF)
  |((with_reducible refine (HN.out _ H2.out).mono ?_);intro e w3 hq;unfold ND at hq;obtain ⟨a,m,sb,rfl,⟨hk,hN⟩,hM⟩:=hq;have Ss:=JN a hN.zero.2.2;have H3:=Qw (Qz hM (Qz Ss (Qz hk hN)));clear hk hN hM Ss))
 have HV:=Qw (HE.out.1.old (HW.out.nil H2.out));have HO:=Qw (HW.out.nil H2.out);have hF:=λk=>H3.out.2.1.runs z1 k;have hls:∀ k,k<=EG->((Gr a).runs z1 k).tr.length<=4000:=λk hk=>by have:=(hF k).tr;omega
 have HF:=Qw (Qz hF hls);obtain ⟨base,hbs⟩:∃ base,base=w3.heap.size:=⟨_,rfl⟩
 have jg:McAt w2 base w3 m sb (Gr a) (.slice none 0 0):=by rw [hbs];exact H3.out.1
 have HM:=Qw jg;clear nP x0 nR x1 nU x2 nV x3 nW x4 nX x5 nY x6 nZ x7 HN HX hF hls hbs jg;have Zm:=λk=>MS.Mo (s:=Gr a) (H3.out.2.2.2.ord H8.out.2.1 H8.out.2.2.2 H8.out.1 H8.out.2.2.1) z1 k;have HOr:=Qw Zm;clear Zm H3;go_wp2;go_loopw [29] (λi wr=>∃ k:Nat,k<=EG/\i= .int .i64 k/\∃ tv,McAt w2 base wr m sb ((Gr a).runs z1 k) tv) (λi _=>EG-(intOf i).toNat)
 case atStart=>exact ⟨0,Nat.zero_le _,rfl,_,HM.out⟩
 case round=>
  clear HM;obtain ⟨k,hk,rfl,tv,hM⟩:=hrel;by_cases hlt:k<EG
  ·have Cy:(k:Int)<EG:=by omega
   rcases HV.out.old hM.lk.wr with e0|⟨gb,go,rfl,hcell⟩
   ·omega
   have y0:wr.cell? ⟨gb,go+k*3,none⟩=some (.int .i64 (z1 k 0)):=hcell k hlt 0 (by decide);have y1:wr.cell? ⟨gb,go+k*3+1,none⟩=some (.int .i64 (z1 k 1)):=hcell k hlt 1 (by decide);have y2:wr.cell? ⟨gb,go+k*3+2,none⟩=some (.int .i64 (z1 k 2)):=hcell k hlt 2 (by decide);obtain ⟨X',NW⟩:∃ X',X'=wr.alloc (.cells #[.int .i64 (z1 k 0),.int .i64 (z1 k 1),.int .i64 (z1 k 2)] 34):=⟨_,rfl⟩
   have E_:Wr Nil wr X':=by rw [NW];exact (Wr.refl _ _).alloc _
   obtain ⟨B',Lv⟩:∃ B',B'=wr.heap.size:=⟨_,rfl⟩
   have hB:X'.heap[B']? =some (.cells #[.int .i64 (z1 k 0),.int .i64 (z1 k 1),.int .i64 (z1 k 2)] 34 (0,0)):=by rw [NW,Lv];exact Go.Deep.blk_alloc_new wr _
   have Yx:=hM.after E_;have lj:base<=B':=by rw [Lv];exact hM.top
   have m9:∀ j,tv.ownBlock=some j->j<B':=λj hj=>by have:=hM.lt j hj;omega
   have ZH:=Qw (Qz NW Lv);have Zx:=HF.out.1 k;have cD:=X_ Yx Zx (by omega) (z1 k 0) (z1 k 1) (z1 k 2);change Calls _ _ _ _ (CE _ _ _ _ ((Gr a).runs z1 (k+1)) _ _ _) at cD;have HB:=Qw hB;clear hcell NW Lv hB hM E_ Zx Yx lj m9;generalize hs2:(Gr a).runs z1 (k+1)=s2' at*;generalize ((Gr a).runs z1 k).ok (z1 k 0) (z1 k 1) (z1 k 2)=bv at*;have HS:=Qw hs2;clear hs2;generalize z1 k 0=K at*;generalize z1 k 1=t at*;generalize z1 k 2=N at*;go_upto_region 9 with fail
   obtain ⟨NW,Lv⟩:=ZH.out;rw [<-NW,<-Lv];clear ZH NW Lv y0 y1 y2;have q0:X'.cell? ⟨B',0,none⟩=some (.int .i64 K):=(A1 HB.out 0).trans rfl;have q1:X'.cell? ⟨B',1,none⟩=some (.int .i64 t):=(A1 HB.out 1).trans rfl;have q2:X'.cell? ⟨B',2,none⟩=some (.int .i64 N):=(A1 HB.out 2).trans rfl
   go_wp2_with (first
    |((with_reducible refine cD.mono ?_);intro e w8 hq;unfold CE at hq;obtain ⟨rfl,ZB,Jr,lh⟩:=hq;have cL:=Xy Jr;have eZ:=Qw Jr;clear Jr lh cD)
    |((with_reducible refine cL.mono ?_);rintro e w9 ⟨rfl,rfl⟩))
   have kC:s2'.a.Ord:=by rw [<-HS.out];exact HOr.out (k+1)
   have hcn:∀ j,j<=s2'.a.s.n->hcn s2'.a.s.st j<=1:=λj hj=>(Ou (λj k hj hk e1 e2=>kC.one hj hk e1 e2) j hj).1;have DL:=eZ.out.lk.seat.n2;have HH:=Qw hcn;clear kC hcn q0 q1 q2;go_loopw [9,38] (λc i wr=>∃ j:Nat,j<=s2'.a.s.n/\i= .int .i64 j/\c= .int .i64 (hcn s2'.a.s.st j)/\wr=w8) (λ_ i _=>s2'.a.s.n-(intOf i).toNat)
   case atStart=>exact ⟨0,Nat.zero_le _,rfl,rfl,rfl⟩
   case round=>
    obtain ⟨j,hj,rfl,rfl,rfl⟩:=hrel;by_cases hjl:j<s2'.a.s.n
    ·have o_:(j:Int)<(s2'.a.s.n:Nat):=by omega
     have cS:=MX eZ.out (j:Int);have e1:s2'.a.s.FD (j:Int)=s2'.a.s.st j:=by unfold SS.FD;rw [Qj (by omega),Int.toNat_natCast]
     rw [e1] at cS;have hc:=HH.out j hj;have hst:hcn s2'.a.s.st (j+1)=hcn s2'.a.s.st j+if s2'.a.s.st j=2 then 1 else 0:=rfl;have HJ:=Qw hst;clear e1 hst;generalize hcn s2'.a.s.st j=cj at*;generalize s2'.a.s.st j=y at*;by_cases hy:y=2
     ·subst hy
      go_wp2_with ((with_reducible refine cS.mono ?_);rintro e nC ⟨rfl,rfl⟩)
      go_roundw
      case rel=>exact ⟨j+1,hjl,by go_num,by rw [HJ.out];rfl,by trivial⟩
      case measure=>simp [intOf];omega
     ·have oK:(y==2)=false:=by simp [hy]
      have HY:=Qw hy;clear hy;go_wp2_with ((with_reducible refine cS.mono ?_);rintro e nC ⟨rfl,rfl⟩)
      go_roundw
      case rel=>exact ⟨j+1,hjl,by go_num,by rw [HJ.out,Qq HY.out];rfl,by trivial⟩
      case measure=>simp [intOf];omega
    have lq:j=s2'.a.s.n:=by omega
    have hc:=HH.out j hj;have hg:¬ ((hcn s2'.a.s.st j:Nat):Int)>1:=by omega
    clear lq;generalize hcn s2'.a.s.st j=cj at*;go_wp2;go_roundw
    case rel=>exact ⟨k+1,hlt,by go_num,_,by rw [HS.out];exact eZ.out⟩
    case measure=>simp [intOf];omega
  have gB:EG=k:=by omega
  subst gB;have HZ:=Qw hM.lk.wr;clear hM;go_wp2_with (first|((with_reducible refine (MW _).mono ?_);intro e w9 hq;unfold Kb at hq;obtain ⟨rfl,fZ⟩:=hq))
  go_ret;exact ⟨rfl,(HO.out.nil (HZ.out.nil fZ)).law⟩
set_option maxRecDepth 100000 in
theorem lifted (os:Os) (started:os.Started) (H:Type) (enc:TypeId×Value->H):
  ReturnsInHanded {} checked os 3 .any (Rows.machineOneSpec.pre6 enc prog f3 Rows.machineOneRow.domain false) (Rows.machineOneSpec.post enc prog f3 false true false false):=by
 refine returnsInHanded_of_change (C:=checked) own started (by kernel_rfl) func3
  (ChangeSpec.witness6 (enc:=enc) (C:=checked) false ⟨#[],#[.agg #[.int .i64 0,.slice none 0 0,.int .u32 0,.int .i64 0,.int .i64 0,.int .i64 0,.int .i64 0,.int .i64 0],.slice none 0 0],[]⟩ 8 (by kernel_rfl) (by kernel_rfl) (by kernel_rfl) (by kernel_rfl)) ?_
 intro W base args ds gs before X5 hW hcnd _;have hval:∀ (j:Nat) t v,f3.params[j]? =some t->args[j]? =some v->Value.okWide prog W .any base t v:=X5;have hW':=hW;obtain ⟨p,q,jZ,hV,rfl,hfz,hnd⟩:=hW;have hA:DataW.TrodAll enc prog W 0 (λ_=>true) true f3.params.toList args.toList ds p:=jZ;rw [params3] at hA hval;obtain ⟨v0,oU,d0,ng,p0,q0,hargs,rfl,rfl,h0,mv⟩:=trodAll_cons hA;obtain ⟨v1,vs1,d1,ds1,p1,q1,rfl,rfl,rfl,h1,my⟩:=trodAll_cons mv;obtain ⟨rfl,rfl,rfl⟩:=trodAll_nil my;obtain rfl:args= #[v0,v1]:=by cases args;simp_all
 obtain ⟨rfl,rfl⟩:=trodVars_none hV;have k0:=h0;have mM:∀ x∈p0,x.block<W.heap.size:=by obtain ⟨m,hm⟩:=k0;exact DataW.trod_lt m _ _ _ hm
 obtain ⟨cs0,rfl,hl0,Ss⟩:=GF (m:=8) underlying25 (by kernel_rfl) (by kernel_rfl) (hval 0 25 v0 rfl rfl) h0;obtain ⟨lB,lC,lD,lF,lG,lI,lJ,lK,rfl⟩:=af hl0;obtain ⟨mP,nE,fI⟩:=Ss 0 _ _ rfl rfl;obtain ⟨Kj,rfl,Yd⟩:=FJ underlying3 fI;obtain ⟨mQ,nG,fJ⟩:=Ss 1 _ _ rfl rfl;obtain ⟨Mp,EZ,E8,rfl,fS⟩:=Q8 underlying22 fJ;obtain ⟨Vb,UJ,Tg,Ye⟩:=JS underlying22 underlying3 (by kernel_rfl) fS;obtain ⟨mR,nH,fK⟩:=Ss 2 _ _ rfl rfl;obtain ⟨M3,rfl,Wh⟩:=FJ underlying23 fK;obtain ⟨mS,nI,fL⟩:=Ss 3 _ _ rfl rfl;obtain ⟨Kk,rfl,Yf⟩:=FJ underlying3 fL;obtain ⟨mU,nJ,fM⟩:=Ss 4 _ _ rfl rfl;obtain ⟨Kl,rfl,Yg⟩:=FJ underlying3 fM;obtain ⟨mV,nK,fN⟩:=Ss 5 _ _ rfl rfl;obtain ⟨Kn,rfl,Yh⟩:=FJ underlying3 fN;obtain ⟨mW,nM,fO⟩:=Ss 6 _ _ rfl rfl;obtain ⟨Ko,rfl,Yi⟩:=FJ underlying3 fO;obtain ⟨mX,nO,fP⟩:=Ss 7 _ _ rfl rfl;obtain ⟨Kq,rfl,Yj⟩:=FJ underlying3 fP;have k1:=h1;have mN:∀ x∈p1,x.block<W.heap.size:=by obtain ⟨m,hm⟩:=k1;exact DataW.trod_lt m _ _ _ hm
 obtain ⟨s1,EG,Kw,rfl⟩:=okWide_slice underlying26 (hval 1 26 v1 rfl rfl);obtain ⟨l1,z1,r1⟩:=Ic (ks:=[.i64,.i64,.i64]) underlying26 underlying34 (by kernel_rfl) (by kernel_rfl) h1;clear jZ X5;refine (walk Kj Mp EZ E8 UJ M3 Kk Kl Kn Ko Kq s1 EG Kw z1 W Yd Vb Tg Ye Wh Yf Yg Yh Yi Yj l1 r1).mono λe W' ⟨he,fG⟩=> ?_;subst he;exact ⟨_,rfl,_,_,_,[],_,[],hW',trodAll_mk1 (shut_bool underlying4 _),(trodAll_cons_mk (Below.trod laidOut (by kernel_rfl) (of_decide_eq_true (by kernel_rfl)) k0 fG mM) (trodAll_cons_mk (Below.trod laidOut (by kernel_rfl) (of_decide_eq_true (by kernel_rfl)) k1 fG mN) trodAll_mk0)),rfl,fG.frame _,λh=>by cases h⟩
theorem over:Rows.machineOneRow.holds Tryz.pinned (OpenSpec.ofChange Rows.machineOneSpec):=
 OpenClaim.holds_of_wide 3 f3 rfl rfl rfl rfl rfl rfl rfl ⟨rfl,rfl,rfl,rfl,rfl⟩ rfl rfl rfl rfl rfl (by kernel_rfl) func3 (by kernel_rfl)
  (of_decide_eq_true (by kernel_rfl)) (by unfold Func.isWrapper;first|(rw [Qj (by decide+kernel)];kernel_rfl)|(rw [Qq (by decide+kernel)];exact ⟨rfl,rfl⟩))
  (λos started H enc _=>lifted os started H enc)
theorem proved:Rows.MachineOneSaid:=over
#print axioms proved
end Go.Proofs.YtmnephejhkfchaaGreat.machineOne

import Derived.Test.YtmnephejhkfchaaGreatMaNew
namespace Go.Proofs.YtmnephejhkfchaaGreat
set_option maxHeartbeats 8000000
open _root_.Go.Proofs.Tryz Go.Deep
open Go.RowKit Go.BigFrame
set_option linter.unusedVariables false
set_option maxRecDepth 100000
def zE (i j:Nat):Int:=([[3,0,-1],[1,0,0],[1,0,0]].getD i []).getD j 0
theorem XV {a:Any} (hk:a.kd=1) (hN:DM 1 [0] 0 0 0 0 0 0 a):
  (Gr a).cnt zE 3=3/\((Gr a).runs zE 3).a.s.FD 0=2/\∃ e0 e1 e2:Ei,((Gr a).runs zE 3).tr=[e0,e1,e2]/\e0.k=1/\e1.k=2/\e2.k=4:=by
 cases a with
 |tk L f=>
  obtain ⟨rfl,h1,h2,_⟩:=hN;cases L;dsimp only at h1 h2;subst h1 h2;exact ⟨by rfl,by rfl,_,_,_,by rfl,by rfl,by rfl,by rfl⟩
 |_=>cases hk
theorem ZO {a:Any} (hN:DM 1 [0] 0 0 0 0 0 0 a):a.ps.D=[]:=hN.zero.2.2
theorem MW (w:World):Calls prog 6 #[] w (Kb w):=by
 have cN:=PB (kd:=1) (sa:=some ⟨w.heap.size,0,none⟩) (n:=1) (cap:=1) (v:=0) (sz:=0) (pl:=0) (B:=0) (G:=0) (D:=0) λX k=>Rp (zs:=[0]) (by rfl) (by decide) ((YJ w).after k) (Nat.lt_of_lt_of_le (by rw [nblk_alloc];exact Nat.lt_succ_self _) k.size) ⟨Int.le_refl 0,by decide⟩
 go_in
 go_upto_region 4 with ((with_reducible refine cN.mono ?_);intro e w2 hq;unfold ND at hq;obtain ⟨a,m,sb,rfl,⟨hk,hN⟩,hM⟩:=hq;have H2:=Qw (Qz hk (Qz hN hM));clear hk hN hM cN)
 obtain ⟨w3,hw3⟩:∃ w3,w3=w2.alloc (.cells #[.int .i64 3,.int .i64 0,.int .i64 (-1),.int .i64 1,.int .i64 0,.int .i64 0,.int .i64 1,.int .i64 0,.int .i64 0] 34):=⟨_,rfl⟩
 obtain ⟨hk,hN,hM⟩:=H2.out;have hW:Wr Nil w2 w3:=by rw [hw3];exact (Wr.refl _ _).alloc _
 have hB:w3.heap[w2.heap.size]? =some (.cells #[.int .i64 3,.int .i64 0,.int .i64 (-1),.int .i64 1,.int .i64 0,.int .i64 0,.int .i64 1,.int .i64 0,.int .i64 0] 34 (0,0)):=by rw [hw3];exact blk_alloc_new _ _
 have NU:=hM.after hW;have MP:a.q.k3<=m/\a.q.k3<=sb/\m≠sb/\m<w2.heap.size/\sb<w2.heap.size:=hM.low;have htop:=hM.lk.top;have hE:∀ W FE s',McAt (w.alloc (.cells #[.int .i64 0] 3)) w2.heap.size W m sb s' FE->Went a.q m sb w3 (.slice none 0 0) W FE->Pe W (some ⟨w2.heap.size,0,none⟩) 3 zE:=λW FE _ _ h=> .inr ⟨w2.heap.size,0,rfl,λi hi j hj=>by
  have hk:=(h.wr.block _ (A2 hB) λe=>by
   rcases e with e|e|e|e
   ·omega
   ·omega
   ·omega
   ·cases e).trans hB
  rw [A1 hk]
  match i,hi,j,hj with
  |0,_,0,_=>rfl
  |0,_,1,_=>rfl
  |0,_,2,_=>rfl
  |1,_,0,_=>rfl
  |1,_,1,_=>rfl
  |1,_,2,_=>rfl
  |2,_,0,_=>rfl
  |2,_,1,_=>rfl
  |2,_,2,_=>rfl⟩
 have cR:=Xz (cap:=3) NU (JN a (ZO hN)) (n:=3) (by decide) hE;obtain ⟨v1,v2,e0,e1,e2,v3,v4,v5,v6⟩:=XV hk hN;rw [v1] at cR;have hF:=(JN a (ZO hN)).runs zE 3;have hWw:=hM.lk.wr.nil hW;have H3:=Qw hw3;have HV:=Qw (Qz v2 (Qz v3 (Qz v4 (Qz v5 (Qz v6 (Qz hF hM.lk.wr))))));clear hw3 hk hN hM hW hB NU MP htop hE v1 v2 v3 v4 v5 v6 hF H2 hWw
 go_upto_region 6 with (first
  |(go_at_call 12;rw [<-H3.out];(with_reducible refine cR.mono ?_);intro e w4 hq;unfold CE at hq;obtain ⟨rfl,FE,hM,GC⟩:=hq;have cT:=TI hM (by have:=HV.out.2.2.2.2.2.1.tr;omega);have H4:=Qw hM;clear hM GC cR)
  |((with_reducible refine cT.mono ?_);intro e w5 hq;unfold Hj at hq;obtain ⟨sa,c,rfl,hr,hc1,fx,hsa,Zp⟩:=hq;have H5:=Qw (Qz hr (Qz Zp (H4.out.after Zp)));clear hr hc1 fx hsa Zp cT))
 obtain ⟨v2,v3,v4,v5,v6,_,hWw⟩:=HV.out;obtain ⟨hr,Zp,fW⟩:=H5.out;rw [v3] at hr;rw [v3];rcases hr.at (λx=>by simp [Ei.cells]) with h0|⟨gb,go,rfl,hcell⟩
 ·cases h0
 have y0:w5.cell? ⟨gb,go,none⟩=some (.int .i64 1):=by have h:=hcell 0 e0 rfl 0 (.int .i64 e0.k) rfl;rw [v4] at h;exact h
 have y1:w5.cell? ⟨gb,go+4,none⟩=some (.int .i64 2):=by have h:=hcell 1 e1 rfl 0 (.int .i64 e1.k) rfl;rw [v5] at h;exact h
 have y2:w5.cell? ⟨gb,go+8,none⟩=some (.int .i64 4):=by have h:=hcell 2 e2 rfl 0 (.int .i64 e2.k) rfl;rw [v6] at h;exact h
 have cS:=MX fW 0;rw [v2] at cS;have HZ:=Qw fW.lk.wr;have l8:=Qw ((Wr.refl Nil w).alloc (.cells #[.int .i64 0] 3));clear v2 v3 v4 v5 v6 hWw hr Zp fW hcell HV H5 H4 H3;go_wp2_with ((with_reducible refine cS.mono ?_);rintro e w6 ⟨rfl,rfl⟩)
 go_ret;exact ⟨rfl,l8.out.nil HZ.out⟩
def NC (w:World) (b:Bool) (e:Ending) (w':World):Prop:=e= .returned (.bool b)/\Wr Nil w w'
theorem Xd {w:World} {n cap:Nat} {sa:Option Addr} {zs:List Int} {kd v sz pl B G D:Int} (hr:Ad .i64 w sa n zs) (hn:n<=9223372036854775807) (s1:Option Addr) (EG Kw:Nat) (h1:EG<=9223372036854775807) (most:Int):
  Calls prog 5 #[.agg #[.int .i64 kd,.slice sa n cap,.int .u32 v,.int .i64 sz,.int .i64 pl,.int .i64 B,.int .i64 G,.int .i64 D],.slice s1 EG Kw,.int .i64 most] w (NC w (decide (n<=8/\Ky kd n zs sz pl B G D=0/\(EG:Int)<=most))):=by
 obtain ⟨X,hX⟩:∃ X,X=w.alloc (.cells #[.int .i64 kd,.slice sa n cap,.int .u32 v,.int .i64 sz,.int .i64 pl,.int .i64 B,.int .i64 G,.int .i64 D] 25):=⟨_,rfl⟩
 have E_:Wr Nil w X:=by rw [hX];exact (Wr.refl _ w).alloc _
 have hblk:X.heap[w.heap.size]? =some (.cells #[.int .i64 kd,.slice sa n cap,.int .u32 v,.int .i64 sz,.int .i64 pl,.int .i64 B,.int .i64 G,.int .i64 D] 25 (0,0)):=by rw [hX];exact blk_alloc_new _ _
 have x0:X.cell? ⟨w.heap.size,0,none⟩=some (.int .i64 kd):=(A1 hblk 0).trans rfl;have x1:X.cell? ⟨w.heap.size,1,none⟩=some (.slice sa n cap):=(A1 hblk 1).trans rfl;have x2:X.cell? ⟨w.heap.size,2,none⟩=some (.int .u32 v):=(A1 hblk 2).trans rfl;have x3:X.cell? ⟨w.heap.size,3,none⟩=some (.int .i64 sz):=(A1 hblk 3).trans rfl;have x4:X.cell? ⟨w.heap.size,4,none⟩=some (.int .i64 pl):=(A1 hblk 4).trans rfl;have x5:X.cell? ⟨w.heap.size,5,none⟩=some (.int .i64 B):=(A1 hblk 5).trans rfl;have x6:X.cell? ⟨w.heap.size,6,none⟩=some (.int .i64 G):=(A1 hblk 6).trans rfl;have x7:X.cell? ⟨w.heap.size,7,none⟩=some (.int .i64 D):=(A1 hblk 7).trans rfl;have rX:=hr.after E_;have cK:=λW (k:Wr Nil X W)=>XY (cap:=cap) (kd:=kd) (v:=v) (sz:=sz) (pl:=pl) (B:=B) (G:=G) (D:=D) (rX.after k) hn;obtain ⟨x,hx⟩:∃ x,x=Ky kd n zs sz pl B G D:=⟨_,rfl⟩
 rw [<-hx] at cK ⊢;have HW:=Qw E_;have HX:=Qw hX;have HK:=Qw cK;clear hX hblk rX hr cK hx E_;by_cases n8:n<=8
 ·have mZ:(n:Int)<=8:=by omega
  by_cases ZC:x=0
  ·by_cases hm:(EG:Int)<=most
   ·rw [decide_eq_true ⟨n8,ZC,hm⟩]
    subst ZC;exact zzv
   ·rw [decide_eq_false λh=>hm h.2.2]
    subst ZC;have hm':decide ((EG:Int)<=most)=false:=decide_eq_false hm;exact zzv
  ·rw [decide_eq_false λh=>ZC h.2.1]
   have hne:(x==0)=false:=by simp [ZC]
   have hnd:decide (x=0)=false:=decide_eq_false ZC;exact zzv
 ·rw [decide_eq_false λh=>n8 h.1]
  have mZ:¬ (n:Int)<=8:=by omega
  clear x0 x2 x3 x4 x5 x6 x7 HK
  go_in
  go_upto_region 1 with fail
  rw [<-HX.out];go_wp2;go_ret;exact ⟨rfl,HW.out⟩
theorem Xe {n:Nat} {x m most:Int} (h:decide (n<=8/\x=0/\m<=most)=true):n<=8/\x=0/\m<=most:=of_decide_eq_true h
end Go.Proofs.YtmnephejhkfchaaGreat

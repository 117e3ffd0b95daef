import Derived.Test.YtmnephejhkfchaaGreatMaEv
namespace Go.Proofs.YtmnephejhkfchaaGreat
set_option maxHeartbeats 8000000
open _root_.Go.Proofs.Tryz Go.Deep
open Go.RowKit Go.BigFrame
set_option linter.unusedVariables false
set_option maxRecDepth 100000
namespace Any
theorem At.up {X W0 w:World} {a:Any} (h:a.At W0 w) (hX:Wr Nil X W0):a.At X w:=by
 have hs:=hX.size;have hwr:Wr Nil X w:=hX.nil h.wr;cases a with
 |tk L f=>have hl:=Kf.LkS.low h;exact ⟨(Kf.LkS.lk h),⟨by omega,by omega,by omega,by omega,by omega⟩,hwr⟩
 |sl L f=>have hl:=Ks.LkS.low h;exact ⟨(Ks.LkS.lk h),⟨by omega,by omega,by omega,by omega,by omega⟩,hwr⟩
 |cl L f=>have hl:=Kc.LkS.low h;exact ⟨(Kc.LkS.lk h),⟨by omega,by omega,by omega,by omega,by omega⟩,hwr⟩
 |mc L f=>have hl:=Km.LkS.low h;exact ⟨(Km.LkS.lk h),⟨by omega,by omega,by omega,by omega,by omega⟩,hwr⟩
 |ab L f=>have hl:=Ka.LkS.low h;exact ⟨(Ka.LkS.lk h),⟨by omega,by omega,by omega,by omega,by omega⟩,hwr⟩
 |hi L f=>have hl:=Kh.LkS.low h;exact ⟨(Kh.LkS.lk h),⟨by omega,by omega,by omega,by omega,by omega⟩,hwr⟩
 |co L f=>have hl:W0.heap.size<=L.lo:=LkS.low h;exact ⟨(LkS.lk h),by omega,hwr⟩
end Any
def Gr (a:Any):MS:=⟨a,0,[],List.replicate a.s.n 0,0⟩
theorem JN (a:Any) (h:a.ps.D=[]):(Gr a).Hk 0:=by
 refine ⟨by show a.ps.D.length<=0;rw [h];exact Nat.le_refl 0,Nat.le_refl 0,λi=> ?_,⟨Int.le_refl 0,Int.le_refl 0⟩,⟨Int.le_refl 0,Int.le_refl 0⟩⟩;have e:(Gr a).st.getD i 0=0:=by
  show (List.replicate a.s.n (0:Int)).getD i 0=0;exact zz2t
 rw [e];exact ⟨Int.le_refl 0,Int.le_refl 0⟩
def ND (w0:World) (P:Any->Prop) (e:Ending) (w':World):Prop:=
 ∃ (a:Any) (m sb:Nat),e= .returned (.tuple #[.pointer (some ⟨m,0,none⟩),.int .i64 0])/\P a/\McAt w0 w'.heap.size w' m sb (Gr a) (.slice none 0 0)
theorem Vu {n:Nat} (hn:n<=64) (w:World):(Instr.makeSlice 22 (.int .i64 (n:Int)) (.int .i64 (n:Int))).run prog w= .ok (.slice (some ⟨w.heap.size,0,none⟩) n n) (w.alloc (.cells ((List.replicate n (0:Int)).map (Value.int .i64)).toArray 3)):=by
 obtain ⟨i1,gi,VO,VP,VQ⟩:=info_parts JB;have h:=Go.run_make (P:=prog) w 22 3 i1 _ underlying22 gi VO .i64 .i64 n n (by omega) (by omega) (by rw [VQ];omega) (by omega);rw [VP] at h;simp only [Int.toNat_natCast] at h;rw [JL] at h;rw [h];simp
theorem b_ {w0 w2 w3 w4:World} {a:Any} (hA:a.At w0 w2) (h3:w3=w2.alloc (.cells ((List.replicate a.s.n (0:Int)).map (Value.int .i64)).toArray 3))
  (h4:w4=w3.alloc (.cells #[.pointer (some ⟨a.q.p,0,none⟩),.iface a.ty (.pointer (some ⟨a.lb,0,none⟩)),.int .i64 0,.slice none 0 0,.slice (some ⟨w2.heap.size,0,none⟩) a.s.n a.s.n,.int .i64 0] 55)):
  McAt w0 w4.heap.size w4 (w2.heap.size+1) w2.heap.size (Gr a) (.slice none 0 0):=by
 have e3:w3.heap.size=w2.heap.size+1:=by rw [h3,nblk_alloc]
 have e4:w4.heap.size=w2.heap.size+2:=by rw [h4,nblk_alloc,e3]
 have k3:Wr Nil w2 w3:=by rw [h3];exact (Wr.refl _ _).alloc _
 have k4:Wr Nil w3 w4:=by rw [h4];exact (Wr.refl _ _).alloc _
 have b3:=blk_alloc_new w2 (.cells ((List.replicate a.s.n (0:Int)).map (Value.int .i64)).toArray 3);have b4:=blk_alloc_new w3 (.cells #[.pointer (some ⟨a.q.p,0,none⟩),.iface a.ty (.pointer (some ⟨a.lb,0,none⟩)),.int .i64 0,.slice none 0 0,.slice (some ⟨w2.heap.size,0,none⟩) a.s.n a.s.n,.int .i64 0] 55);rw [<-h3] at b3;rw [<-h4,e3] at b4;have ht:=hA.top;refine ⟨hA.after (k3.nil k4),?_,World.ownsRow_nil _ _ _ _,(k4.block _ (by omega) id).trans b3,List.length_replicate,⟨?_,ht,by omega,by omega,by omega⟩,Nat.le_refl _⟩
 ·show w4.heap[w2.heap.size+1]? =some (Obj.cells #[_,_,_,_,.slice _ (List.replicate a.s.n (0:Int)).length (List.replicate a.s.n (0:Int)).length,_] _ _)
  rw [List.length_replicate];exact b4
 ·show a.q.k3<=w2.heap.size+1
  omega
theorem PB {w0:World} {n cap:Nat} {sa:Option Addr} {kd v sz pl B G D:Int} {P:Any->Prop}
  (hl:∀ X,Wr Nil w0 X->Calls prog 17 #[.agg #[.int .i64 kd,.slice sa n cap,.int .u32 v,.int .i64 sz,.int .i64 pl,.int .i64 B,.int .i64 G,.int .i64 D]] X (Ki X P)):
  Calls prog 7 #[.agg #[.int .i64 kd,.slice sa n cap,.int .u32 v,.int .i64 sz,.int .i64 pl,.int .i64 B,.int .i64 G,.int .i64 D]] w0 (ND w0 P):=by
 obtain ⟨X,hX⟩:∃ X,X=w0.alloc (.cells #[.int .i64 kd,.slice sa n cap,.int .u32 v,.int .i64 sz,.int .i64 pl,.int .i64 B,.int .i64 G,.int .i64 D] 25):=⟨_,rfl⟩
 have E_:Wr Nil w0 X:=by rw [hX];exact (Wr.refl _ w0).alloc _
 have hblk:X.heap[w0.heap.size]? =some (.cells #[.int .i64 kd,.slice sa n cap,.int .u32 v,.int .i64 sz,.int .i64 pl,.int .i64 B,.int .i64 G,.int .i64 D] 25 (0,0)):=by rw [hX];exact blk_alloc_new _ _
 have HW:=Qw E_;have HX:=Qw hX;clear hX;have x0:X.cell? ⟨w0.heap.size,0,none⟩=some (.int .i64 kd):=(A1 hblk 0).trans rfl;have x1:X.cell? ⟨w0.heap.size,1,none⟩=some (.slice sa n cap):=(A1 hblk 1).trans rfl;have x2:X.cell? ⟨w0.heap.size,2,none⟩=some (.int .u32 v):=(A1 hblk 2).trans rfl;have x3:X.cell? ⟨w0.heap.size,3,none⟩=some (.int .i64 sz):=(A1 hblk 3).trans rfl;have x4:X.cell? ⟨w0.heap.size,4,none⟩=some (.int .i64 pl):=(A1 hblk 4).trans rfl;have x5:X.cell? ⟨w0.heap.size,5,none⟩=some (.int .i64 B):=(A1 hblk 5).trans rfl;have x6:X.cell? ⟨w0.heap.size,6,none⟩=some (.int .i64 G):=(A1 hblk 6).trans rfl;have x7:X.cell? ⟨w0.heap.size,7,none⟩=some (.int .i64 D):=(A1 hblk 7).trans rfl;have cN:=hl X E_;clear hl
 go_in
 go_upto_region 1 with fail
 rw [<-HX.out];go_upto_region 4 with ((with_reducible refine cN.mono ?_);intro e w2 hq;unfold Ki at hq;obtain ⟨a,rfl,hA,Zn⟩:=hq;have vN:=Any.CC hA.cell0;have nN:=a.PA;have cL:=Any.OW hA;have hmk:=Vu hA.seat.n2;have HA:=Qw (Qz (hA.up HW.out) Zn);clear hA Zn cN;unfold Any.val)
 go_wp2_with ((with_reducible refine cL.mono ?_);rintro e w3 ⟨rfl,rfl⟩)
 go_returns;exact ⟨a,_,_,rfl,HA.out.2,b_ (w3:=w2.alloc (.cells (Array.replicate a.s.n (.int .i64 0)) 3)) HA.out.1 (by simp) rfl⟩
theorem RL (t now:Int) (d:Dd):(tells t now d).length<=3:=by
 unfold tells OD OC OE;rw [List.length_append,List.length_append];have h1:(if d.BW=true then [(⟨2,t,now,false⟩:Ei)] else []).length<=1:=by split<;>simp
 have h2:(if d.arr=true then [(⟨3,t,now,false⟩:Ei)] else []).length<=1:=by split<;>simp
 have h3:(if d.ev=1 then [(⟨4,t,now,d.lead⟩:Ei)] else if d.ev=2 then [⟨5,t,now,false⟩] else if d.ev=6 then [⟨8,t,now,false⟩] else if d.ev=3 then [⟨7,t,now,false⟩] else []).length<=1:=by (repeat' split)<;>simp
 omega
namespace MS
variable {s:MS} {j:Nat}
theorem Hk.mono (h:s.Hk j) {i:Nat} (hi:j<=i):s.Hk i:=by
 obtain ⟨h1,h2,h3,h4,h5⟩:=h;exact ⟨by omega,by omega,λk=>by have:=h3 k;omega,by omega,by omega⟩
theorem Hk.picked (h:s.Hk j) (t:Int):(s.picked t).Hk (j+1):=by
 obtain ⟨h1,h2,h3,h4,h5⟩:=h;refine ⟨?_,?_,λi=> ?_,by show 0<=s.idle/\s.idle<=_;omega,by show 0<=s.now/\s.now<=_;omega⟩
 ·show (s.a.step t s.now).ps.D.length<=_
  have:=(s.a.BM t s.now).D;omega
 ·show (s.tr++tells t s.now (s.a.did t s.now)).length<=_
  rw [List.length_append];have:=RL t s.now (s.a.did t s.now);omega
 ·show 0<=(s.st.set t.toNat (s.st.getD t.toNat 0+1)).getD i 0/\(s.st.set t.toNat (s.st.getD t.toNat 0+1)).getD i 0<=_
  have k1:=h3 i;have k2:=h3 t.toNat;rw [List.getD_eq_getElem?_getD,List.getElem?_set];rw [List.getD_eq_getElem?_getD] at k1;split
  ·split
   ·simp only [Option.getD_some];omega
   ·simp only [Option.getD_none];omega
  ·omega
theorem Hk.lock (h:s.Hk j) {a:Any} (ha:a.ps=s.a.ps):(s.put a).Hk j:=by
 obtain ⟨h1,h2,h3,h4,h5⟩:=h;exact ⟨by show a.ps.D.length<=j;rw [ha];exact h1,h2,h3,h4,h5⟩
theorem Hk.enter (h:s.Hk j) (e:Ei):(s.more [e]).Hk (j+1):=by
 obtain ⟨h1,h2,h3,h4,h5⟩:=h;exact ⟨by show s.a.ps.D.length<=_;omega,by show (s.tr++[e]).length<=_;rw [List.length_append];show _+1<=_;omega,λk=>by have:=h3 k;show 0<=s.st.getD k 0/\s.st.getD k 0<=_;omega,by show 0<=s.idle/\s.idle<=_;omega,by show 0<=s.now/\s.now<=_;omega⟩
theorem Hk.does (h:s.Hk j) (k t x:Int):(s.does k t x).Hk (j+1):=by
 have hm:=h.mono (Nat.le_succ j);unfold MS.does;split
 ·unfold MS.pick
  split
  ·exact h.picked t
  ·exact hm
 split
 ·unfold MS.tick
  split
  ·exact hm
  ·obtain ⟨h1,h2,h3,h4,h5⟩:=h
   exact ⟨hm.D,hm.tr,hm.st,hm.idle,by show 0<=s.now+1/\s.now+1<=_;omega⟩
 split
 ·unfold MS.call
  split
  ·exact (h.lock (s.a.Iq _ _)).enter _
  ·exact (hm.lock (s.a.Iq _ _))
 split
 ·unfold MS.fin
  split
  ·exact (h.lock (s.a.PW _ _)).enter _
  ·exact (hm.lock (s.a.PW _ _))
 ·exact hm
theorem Hk.Do (h:s.Hk j) (k t x:Int):(s.Do k t x).Hk (j+1):=by
 have hd:=h.does k t x;unfold MS.Do;split
 ·exact hd
 ·have e:=s.Jx k t x
  have hi:=h.idle;obtain ⟨h1,h2,h3,h4,h5⟩:=hd;exact ⟨h1,h2,h3,by show 0<=(s.does k t x).idle+1/\(s.does k t x).idle+1<=_;rw [e];omega,h5⟩
def runs (s:MS) (z:Nat->Nat->Int):Nat->MS
 |0=>s
 |n+1=>(runs s z n).Do (z n 0) (z n 1) (z n 2)
def cnt (s:MS) (z:Nat->Nat->Int):Nat->Int
 |0=>0
 |n+1=>if (s.runs z n).ok (z n 0) (z n 1) (z n 2)=true then s.cnt z n+1 else s.cnt z n
theorem Hk.runs (h:s.Hk j) (z:Nat->Nat->Int):∀ n,(s.runs z n).Hk (j+n)
 |0=>h
 |n+1=>(Hk.runs h z n).Do _ _ _
theorem Oc (s:MS) (z:Nat->Nat->Int):∀ n,0<=s.cnt z n/\s.cnt z n<=n
 |0=>⟨Int.le_refl 0,Int.le_refl 0⟩
 |n+1=>by
  have:=Oc s z n;unfold cnt;split<;>omega
theorem S7 (s:MS) (k t x:Int):s.a.Same (s.does k t x).a:=by
 unfold MS.does MS.pick MS.tick MS.call MS.fin
 repeat' split
 all_goals first|exact s.a.KO _ _|exact s.a.KN _ _|exact s.a.KP _ _|exact ⟨rfl,rfl,rfl,rfl,rfl⟩
theorem eV (s:MS) (k t x:Int):s.a.Same (s.Do k t x).a:=by
 unfold MS.Do;split
 ·exact s.S7 k t x
 ·exact s.S7 k t x
theorem O3 (s:MS) (z:Nat->Nat->Int):∀ n,s.a.Same (s.runs z n).a
 |0=>⟨rfl,rfl,rfl,rfl,rfl⟩
 |n+1=>(O3 s z n).trans (eV _ _ _ _)
end MS
def Pe (w:World) (so:Option Addr) (n:Nat) (z:Nat->Nat->Int):Prop:=n=0\/∃ b o,so=some ⟨b,o,none⟩/\∀ i,i<n->∀ j,j<3->w.cell? ⟨b,o+(i*3+j),none⟩=some (.int .i64 (z i j))
theorem Xz {w0 w:World} {base m sb:Nat} {s:MS} {tv:Value} (h:McAt w0 base w m sb s tv) {j:Nat} (hF:s.Hk j) {n:Nat} (hj:j+n<=100000) {so:Option Addr} {cap:Nat} {z:Nat->Nat->Int}
  (hE:∀ W FE s',McAt w0 base W m sb s' FE->Went s.a.q m sb w tv W FE->Pe W so n z):
  Calls prog 12 #[.pointer (some ⟨m,0,none⟩),.slice so n cap] w (CE w0 base m sb (s.runs z n) (.int .i64 (s.cnt z n)) w tv):=by
 have H0:=Qw (show ∃ FE,McAt w0 base w m sb (s.runs z 0) FE/\Went s.a.q m sb w tv w FE from ⟨tv,h,Went.nil (Wr.refl _ _)⟩);have HF:=Qw (hF.runs z);have HE:=Qw hE;clear h hF hE
 go_in
 go_wp2;go_loopw [5,10] (λc i wr=>∃ k:Nat,k<=n/\i= .int .i64 k/\c= .int .i64 (s.cnt z k)/\∃ FE,McAt w0 base wr m sb (s.runs z k) FE/\Went s.a.q m sb w tv wr FE) (λ_ i _=>n-(intOf i).toNat)
 case atStart=>exact ⟨0,Nat.zero_le _,rfl,rfl,H0.out⟩
 case round=>
  clear H0;obtain ⟨k,hk,rfl,rfl,FE,hM,GC⟩:=hrel;by_cases hlt:k<n
  ·have Cy:(k:Int)<n:=by omega
   rcases HE.out wr FE _ hM GC with e0|⟨gb,go,rfl,hcell⟩
   ·omega
   have y0:wr.cell? ⟨gb,go+k*3,none⟩=some (.int .i64 (z k 0)):=hcell k hlt 0 (by decide);have y1:wr.cell? ⟨gb,go+k*3+1,none⟩=some (.int .i64 (z k 1)):=hcell k hlt 1 (by decide);have y2:wr.cell? ⟨gb,go+k*3+2,none⟩=some (.int .i64 (z k 2)):=hcell k hlt 2 (by decide);obtain ⟨X',NW⟩:∃ X',X'=wr.alloc (.cells #[.int .i64 (z k 0),.int .i64 (z k 1),.int .i64 (z k 2)] 34):=⟨_,rfl⟩
   have E_:Wr Nil wr X':=by rw [NW];exact (Wr.refl _ _).alloc _
   obtain ⟨B',Lv⟩:∃ B',B'=wr.heap.size:=⟨_,rfl⟩
   have hB:X'.heap[B']? =some (.cells #[.int .i64 (z k 0),.int .i64 (z k 1),.int .i64 (z k 2)] 34 (0,0)):=by rw [NW,Lv];exact blk_alloc_new wr _
   have cD:=X_ (hM.after E_) (HF.out k) (by omega) (z k 0) (z k 1) (z k 2);have hc:=s.Oc z k;have hcs:s.cnt z (k+1)=if (s.runs z k).ok (z k 0) (z k 1) (z k 2)=true then s.cnt z k+1 else s.cnt z k:=rfl;have hq:(s.runs z (k+1)).a.q=s.a.q:=(s.O3 z (k+1)).2.2.2.1;have ZH:=Qw (Qz NW Lv);have HB:=Qw hB;have HQ:=Qw (Qz hq (GC.trans (Went.nil E_)));have HC:=Qw hcs;clear hcell NW Lv hB hM GC E_ hcs hq;change Calls _ _ _ _ (CE _ _ _ _ (s.runs z (k+1)) _ _ _) at cD;generalize (s.runs z k).ok (z k 0) (z k 1) (z k 2)=bv at*;generalize s.cnt z k=cn at*;generalize z k 0=K at*;generalize z k 1=t at*;generalize z k 2=N at*;go_upto_region 5 with fail
   obtain ⟨NW,Lv⟩:=ZH.out;rw [<-NW,<-Lv];clear ZH NW Lv y0 y1 y2;have q0:X'.cell? ⟨B',0,none⟩=some (.int .i64 K):=by rw [A1 HB.out];rfl
   have q1:X'.cell? ⟨B',1,none⟩=some (.int .i64 t):=by rw [A1 HB.out];rfl
   have q2:X'.cell? ⟨B',2,none⟩=some (.int .i64 N):=by rw [A1 HB.out];rfl
   cases bv
   ·exact zz26
   ·exact zz26
  have gB:k=n:=by omega
  subst gB;have hq:(s.runs z k).a.q=s.a.q:=(s.O3 z k).2.2.2.1;have HP:=Qw (show CE w0 base m sb (s.runs z k) (.int .i64 (s.cnt z k)) w tv (.returned (.int .i64 (s.cnt z k))) wr from ⟨rfl,FE,hM,hq▸GC⟩);clear hM GC hq;generalize s.cnt z k=cn at*;go_wp2;go_ret;exact HP.out
end Go.Proofs.YtmnephejhkfchaaGreat

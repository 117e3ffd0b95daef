import Derived.Test.YtmnephejhkfchaaGreatMaEv
namespace Go.Proofs.YtmnephejhkfchaaGreat
set_option maxHeartbeats 8000000
open _root_.Go.Proofs.Tryz Go.Deep
open Go.RowKit Go.BigFrame
set_option linter.unusedVariables false
set_option maxRecDepth 100000
namespace Any
theorem At.up {X W0 w:World} {a:Any} (h:a.At W0 w) (hX:Wr Nil X W0):a.At X w:=by
 have hs:=hX.size
 have hwr:Wr Nil X w:=hX.nil h.wr
 cases a with
 |tk L f=>have hl:=Kf.LkS.low h;exact ⟨(Kf.LkS.lk h),⟨by omega,by omega,by omega,by omega,by omega⟩,hwr⟩
 |sl L f=>have hl:=Ks.LkS.low h;exact ⟨(Ks.LkS.lk h),⟨by omega,by omega,by omega,by omega,by omega⟩,hwr⟩
 |cl L f=>have hl:=Kc.LkS.low h;exact ⟨(Kc.LkS.lk h),⟨by omega,by omega,by omega,by omega,by omega⟩,hwr⟩
 |mc L f=>have hl:=Km.LkS.low h;exact ⟨(Km.LkS.lk h),⟨by omega,by omega,by omega,by omega,by omega⟩,hwr⟩
 |ab L f=>have hl:=Ka.LkS.low h;exact ⟨(Ka.LkS.lk h),⟨by omega,by omega,by omega,by omega,by omega⟩,hwr⟩
end Any
def newM (a:Any):MS:=⟨a,0,[],List.replicate a.s.n 0,0⟩
theorem newM_few (a:Any) (h:a.ps.D=[]):(newM a).Few 0:=by
 refine ⟨by show a.ps.D.length≤0;rw [h];exact Nat.le_refl 0,Nat.le_refl 0,λi=> ?_,⟨Int.le_refl 0,Int.le_refl 0⟩,⟨Int.le_refl 0,Int.le_refl 0⟩⟩
 have e:(newM a).st.getD i 0=0:=by
  show (List.replicate a.s.n (0:Int)).getD i 0=0
  rw [List.getD_eq_getElem?_getD,List.getElem?_replicate]
  split<;>rfl
 rw [e]
 exact ⟨Int.le_refl 0,Int.le_refl 0⟩
def MnPost (w0:World) (P:Any→Prop) (e:Ending) (w':World):Prop:=
 ∃ (a:Any) (m sb:Nat),e= .returned (.tuple #[.pointer (some ⟨m,0,none⟩),.int .i64 0])∧P a∧McAt w0 w'.heap.size w' m sb (newM a) (.slice none 0 0)
theorem mk_ints {n:Nat} (hn:n≤64) (w:World):(Instr.makeSlice 22 (.int .i64 (n:Int)) (.int .i64 (n:Int))).run prog w= .ok (.slice (some ⟨w.heap.size,0,none⟩) n n) (w.alloc (.cells ((List.replicate n (0:Int)).map (Value.int .i64)).toArray 3)):=by
 obtain ⟨i1,gi,gz0,gz1,gz2⟩:=info_parts info_i64
 have h:=Go.run_make (P:=prog) w 22 3 i1 _ underlying22 gi gz0 .i64 .i64 n n (by omega) (by omega) (by rw [gz2];omega) (by omega)
 rw [gz1] at h
 simp only [Int.toNat_natCast] at h
 rw [made_i64] at h
 rw [h]
 simp
theorem nw_at {w0 w2 w3 w4:World} {a:Any} (hA:a.At w0 w2) (h3:w3=w2.alloc (.cells ((List.replicate a.s.n (0:Int)).map (Value.int .i64)).toArray 3))
  (h4:w4=w3.alloc (.cells #[.pointer (some ⟨a.q.p,0,none⟩),.iface a.ty (.pointer (some ⟨a.lb,0,none⟩)),.int .i64 0,.slice none 0 0,.slice (some ⟨w2.heap.size,0,none⟩) a.s.n a.s.n,.int .i64 0] 55)):
  McAt w0 w4.heap.size w4 (w2.heap.size+1) w2.heap.size (newM a) (.slice none 0 0):=by
 have e3:w3.heap.size=w2.heap.size+1:=by rw [h3,nblk_alloc]
 have e4:w4.heap.size=w2.heap.size+2:=by rw [h4,nblk_alloc,e3]
 have k3:Wr Nil w2 w3:=by rw [h3];exact (Wr.refl _ _).alloc _
 have k4:Wr Nil w3 w4:=by rw [h4];exact (Wr.refl _ _).alloc _
 have b3:=blk_alloc_new w2 (.cells ((List.replicate a.s.n (0:Int)).map (Value.int .i64)).toArray 3)
 have b4:=blk_alloc_new w3 (.cells #[.pointer (some ⟨a.q.p,0,none⟩),.iface a.ty (.pointer (some ⟨a.lb,0,none⟩)),.int .i64 0,.slice none 0 0,.slice (some ⟨w2.heap.size,0,none⟩) a.s.n a.s.n,.int .i64 0] 55)
 rw [←h3] at b3
 rw [←h4,e3] at b4
 have ht:=hA.top
 refine ⟨hA.after (k3.nil k4),?_,World.ownsRow_nil _ _ _ _,(k4.block _ (by omega) id).trans b3,List.length_replicate,⟨?_,ht,by omega,by omega,by omega⟩,Nat.le_refl _⟩
 ·show w4.heap[w2.heap.size+1]? =some (Obj.cells #[_,_,_,_,.slice _ (List.replicate a.s.n (0:Int)).length (List.replicate a.s.n (0:Int)).length,_] _ _)
  rw [List.length_replicate]
  exact b4
 ·show a.q.k3≤w2.heap.size+1
  omega
theorem nw_good {w0:World} {n cap:Nat} {sa:Option Addr} {kd v sz pl B G D:Int} {P:Any→Prop}
  (hl:∀ X,Wr Nil w0 X→Calls prog 17 #[.agg #[.int .i64 kd,.slice sa n cap,.int .u32 v,.int .i64 sz,.int .i64 pl,.int .i64 B,.int .i64 G,.int .i64 D]] X (MkPost X P)):
  Calls prog 7 #[.agg #[.int .i64 kd,.slice sa n cap,.int .u32 v,.int .i64 sz,.int .i64 pl,.int .i64 B,.int .i64 G,.int .i64 D]] w0 (MnPost w0 P):=by
 obtain ⟨X,hX⟩:∃ X,X=w0.alloc (.cells #[.int .i64 kd,.slice sa n cap,.int .u32 v,.int .i64 sz,.int .i64 pl,.int .i64 B,.int .i64 G,.int .i64 D] 25):=⟨_,rfl⟩
 have hWX:Wr Nil w0 X:=by rw [hX];exact (Wr.refl _ w0).alloc _
 have hblk:X.heap[w0.heap.size]? =some (.cells #[.int .i64 kd,.slice sa n cap,.int .u32 v,.int .i64 sz,.int .i64 pl,.int .i64 B,.int .i64 G,.int .i64 D] 25 (0,0)):=by rw [hX];exact blk_alloc_new _ _
 have HW:=Lib.hid hWX
 have HX:=Lib.hid hX
 clear hX
 have x0:X.cell? ⟨w0.heap.size,0,none⟩=some (.int .i64 kd):=(blk_cell hblk 0).trans rfl
 have x1:X.cell? ⟨w0.heap.size,1,none⟩=some (.slice sa n cap):=(blk_cell hblk 1).trans rfl
 have x2:X.cell? ⟨w0.heap.size,2,none⟩=some (.int .u32 v):=(blk_cell hblk 2).trans rfl
 have x3:X.cell? ⟨w0.heap.size,3,none⟩=some (.int .i64 sz):=(blk_cell hblk 3).trans rfl
 have x4:X.cell? ⟨w0.heap.size,4,none⟩=some (.int .i64 pl):=(blk_cell hblk 4).trans rfl
 have x5:X.cell? ⟨w0.heap.size,5,none⟩=some (.int .i64 B):=(blk_cell hblk 5).trans rfl
 have x6:X.cell? ⟨w0.heap.size,6,none⟩=some (.int .i64 G):=(blk_cell hblk 6).trans rfl
 have x7:X.cell? ⟨w0.heap.size,7,none⟩=some (.int .i64 D):=(blk_cell hblk 7).trans rfl
 have cN:=hl X hWX
 clear hl
 go_enter func7,ntmps7
 go_upto_region 1 with fail
 rw [←HX.out]
 go_upto_region 4 with (go_at_call 17;(with_reducible refine cN.mono ?_);intro e w2 hq;unfold MkPost at hq;obtain ⟨a,rfl,hA,hPa⟩:=hq;have vN:=Any.via_len hA.cell0;have nN:=a.nil_len;have cL:=Any.any_len hA;have hmk:=mk_ints hA.seat.n2;have HA:=Lib.hid (And.intro (hA.up HW.out) hPa);clear hA hPa cN;unfold Any.val)
 go_wp2_with (go_at_call 126;(with_reducible refine cL.mono ?_);rintro e w3 ⟨rfl,rfl⟩)
 go_returns
 exact ⟨a,_,_,rfl,HA.out.2,nw_at (w3:=w2.alloc (.cells (Array.replicate a.s.n (.int .i64 0)) 3)) HA.out.1 (by simp) rfl⟩
theorem tells_len (t now:Int) (d:Dd):(tells t now d).length≤3:=by
 unfold tells tellsE tellsA tellsV
 rw [List.length_append,List.length_append]
 have h1:(if d.enq=true then [(⟨2,t,now,false⟩:Ent)] else []).length≤1:=by split<;>simp
 have h2:(if d.arr=true then [(⟨3,t,now,false⟩:Ent)] else []).length≤1:=by split<;>simp
 have h3:(if d.ev=1 then [(⟨4,t,now,d.lead⟩:Ent)] else if d.ev=2 then [⟨5,t,now,false⟩] else if d.ev=6 then [⟨8,t,now,false⟩] else if d.ev=3 then [⟨7,t,now,false⟩] else []).length≤1:=by (repeat' split)<;>simp
 omega
namespace MS
variable {s:MS} {j:Nat}
theorem Few.mono (h:s.Few j) {i:Nat} (hi:j≤i):s.Few i:=by
 obtain ⟨h1,h2,h3,h4,h5⟩:=h
 exact ⟨by omega,by omega,λk=>by have:=h3 k;omega,by omega,by omega⟩
theorem Few.picked (h:s.Few j) (t:Int):(s.picked t).Few (j+1):=by
 obtain ⟨h1,h2,h3,h4,h5⟩:=h
 refine ⟨?_,?_,λi=> ?_,by show 0≤s.idle∧s.idle≤_;omega,by show 0≤s.now∧s.now≤_;omega⟩
 ·show (s.a.step t s.now).ps.D.length≤_
  have:=(s.a.step_one t s.now).D
  omega
 ·show (s.tr++tells t s.now (s.a.did t s.now)).length≤_
  rw [List.length_append]
  have:=tells_len t s.now (s.a.did t s.now)
  omega
 ·show 0≤(s.st.set t.toNat (s.st.getD t.toNat 0+1)).getD i 0∧(s.st.set t.toNat (s.st.getD t.toNat 0+1)).getD i 0≤_
  have k1:=h3 i
  have k2:=h3 t.toNat
  rw [List.getD_eq_getElem?_getD,List.getElem?_set]
  rw [List.getD_eq_getElem?_getD] at k1
  split
  ·split
   ·simp only [Option.getD_some];omega
   ·simp only [Option.getD_none];omega
  ·omega
theorem Few.lock (h:s.Few j) {a:Any} (ha:a.ps=s.a.ps):(s.put a).Few j:=by
 obtain ⟨h1,h2,h3,h4,h5⟩:=h
 exact ⟨by show a.ps.D.length≤j;rw [ha];exact h1,h2,h3,h4,h5⟩
theorem Few.enter (h:s.Few j) (e:Ent):(s.more [e]).Few (j+1):=by
 obtain ⟨h1,h2,h3,h4,h5⟩:=h
 exact ⟨by show s.a.ps.D.length≤_;omega,by show (s.tr++[e]).length≤_;rw [List.length_append];show _+1≤_;omega,λk=>by have:=h3 k;show 0≤s.st.getD k 0∧s.st.getD k 0≤_;omega,by show 0≤s.idle∧s.idle≤_;omega,by show 0≤s.now∧s.now≤_;omega⟩
theorem Few.does (h:s.Few j) (k t x:Int):(s.does k t x).Few (j+1):=by
 have hm:=h.mono (Nat.le_succ j)
 unfold MS.does
 split
 ·unfold MS.pick
  split
  ·exact h.picked t
  ·exact hm
 split
 ·unfold MS.tick
  split
  ·exact hm
  ·obtain ⟨h1,h2,h3,h4,h5⟩:=h
   exact ⟨hm.D,hm.tr,hm.st,hm.idle,by show 0≤s.now+1∧s.now+1≤_;omega⟩
 split
 ·unfold MS.call
  split
  ·exact (h.lock (s.a.lock_ps _ _)).enter _
  ·exact (hm.lock (s.a.lock_ps _ _))
 split
 ·unfold MS.fin
  split
  ·exact (h.lock (s.a.turn_ps _ _)).enter _
  ·exact (hm.lock (s.a.turn_ps _ _))
 ·exact hm
theorem Few.Do (h:s.Few j) (k t x:Int):(s.Do k t x).Few (j+1):=by
 have hd:=h.does k t x
 unfold MS.Do
 split
 ·exact hd
 ·have e:=s.does_idle k t x
  have hi:=h.idle
  obtain ⟨h1,h2,h3,h4,h5⟩:=hd
  exact ⟨h1,h2,h3,by show 0≤(s.does k t x).idle+1∧(s.does k t x).idle+1≤_;rw [e];omega,h5⟩
def runs (s:MS) (z:Nat→Nat→Int):Nat→MS
 |0=>s
 |n+1=>(runs s z n).Do (z n 0) (z n 1) (z n 2)
def cnt (s:MS) (z:Nat→Nat→Int):Nat→Int
 |0=>0
 |n+1=>if (s.runs z n).ok (z n 0) (z n 1) (z n 2)=true then s.cnt z n+1 else s.cnt z n
theorem Few.runs (h:s.Few j) (z:Nat→Nat→Int):∀ n,(s.runs z n).Few (j+n)
 |0=>h
 |n+1=>(Few.runs h z n).Do _ _ _
theorem cnt_rng (s:MS) (z:Nat→Nat→Int):∀ n,0≤s.cnt z n∧s.cnt z n≤n
 |0=>⟨Int.le_refl 0,Int.le_refl 0⟩
 |n+1=>by
  have:=cnt_rng s z n
  unfold cnt
  split<;>omega
theorem does_q (s:MS) (k t x:Int):s.a.Same (s.does k t x).a:=by
 unfold MS.does MS.pick MS.tick MS.call MS.fin
 repeat' split
 all_goals first|exact s.a.same_step _ _|exact s.a.same_lock _ _|exact s.a.same_turn _ _|exact ⟨rfl,rfl,rfl,rfl,rfl⟩
theorem Do_q (s:MS) (k t x:Int):s.a.Same (s.Do k t x).a:=by
 unfold MS.Do
 split
 ·exact s.does_q k t x
 ·exact s.does_q k t x
theorem runs_q (s:MS) (z:Nat→Nat→Int):∀ n,s.a.Same (s.runs z n).a
 |0=>⟨rfl,rfl,rfl,rfl,rfl⟩
 |n+1=>(runs_q s z n).trans (Do_q _ _ _ _)
end MS
def EvAt (w:World) (so:Option Addr) (n:Nat) (z:Nat→Nat→Int):Prop:=n=0∨∃ b o,so=some ⟨b,o,none⟩∧∀ i,i<n→∀ j,j<3→w.cell? ⟨b,o+(i*3+j),none⟩=some (.int .i64 (z i j))
theorem mc_run {w0 w:World} {base m sb:Nat} {s:MS} {tv:Value} (h:McAt w0 base w m sb s tv) {j:Nat} (hF:s.Few j) {n:Nat} (hj:j+n≤100000) {so:Option Addr} {cap:Nat} {z:Nat→Nat→Int}
  (hE:∀ W tv' s',McAt w0 base W m sb s' tv'→Went s.a.q m sb w tv W tv'→EvAt W so n z):
  Calls prog 12 #[.pointer (some ⟨m,0,none⟩),.slice so n cap] w (MPost w0 base m sb (s.runs z n) (.int .i64 (s.cnt z n)) w tv):=by
 have H0:=Lib.hid (show ∃ tv',McAt w0 base w m sb (s.runs z 0) tv'∧Went s.a.q m sb w tv w tv' from ⟨tv,h,Went.nil (Wr.refl _ _)⟩)
 have HF:=Lib.hid (hF.runs z)
 have HE:=Lib.hid hE
 clear h hF hE
 go_enter func12,ntmps12
 go_wp2
 go_loopw [5,10] (λc i wr=>∃ k:Nat,k≤n∧i= .int .i64 k∧c= .int .i64 (s.cnt z k)∧∃ tv',McAt w0 base wr m sb (s.runs z k) tv'∧Went s.a.q m sb w tv wr tv') (λ_ i _=>n-(intOf i).toNat)
 case atStart=>exact ⟨0,Nat.zero_le _,rfl,rfl,H0.out⟩
 case round=>
  clear H0
  obtain ⟨k,hk,rfl,rfl,tv',hM,hWe⟩:=hrel
  by_cases hlt:k<n
  ·have hkI:(k:Int)<n:=by omega
   rcases HE.out wr tv' _ hM hWe with e0|⟨gb,go,rfl,hcell⟩
   ·omega
   have y0:wr.cell? ⟨gb,go+k*3,none⟩=some (.int .i64 (z k 0)):=hcell k hlt 0 (by decide)
   have y1:wr.cell? ⟨gb,go+k*3+1,none⟩=some (.int .i64 (z k 1)):=hcell k hlt 1 (by decide)
   have y2:wr.cell? ⟨gb,go+k*3+2,none⟩=some (.int .i64 (z k 2)):=hcell k hlt 2 (by decide)
   obtain ⟨X',hX'⟩:∃ X',X'=wr.alloc (.cells #[.int .i64 (z k 0),.int .i64 (z k 1),.int .i64 (z k 2)] 34):=⟨_,rfl⟩
   have hWX:Wr Nil wr X':=by rw [hX'];exact (Wr.refl _ _).alloc _
   obtain ⟨B',hBe⟩:∃ B',B'=wr.heap.size:=⟨_,rfl⟩
   have hB:X'.heap[B']? =some (.cells #[.int .i64 (z k 0),.int .i64 (z k 1),.int .i64 (z k 2)] 34 (0,0)):=by rw [hX',hBe];exact blk_alloc_new wr _
   have cD:=mc_do (hM.after hWX) (HF.out k) (by omega) (z k 0) (z k 1) (z k 2)
   have hc:=s.cnt_rng z k
   have hcs:s.cnt z (k+1)=if (s.runs z k).ok (z k 0) (z k 1) (z k 2)=true then s.cnt z k+1 else s.cnt z k:=rfl
   have hq:(s.runs z (k+1)).a.q=s.a.q:=(s.runs_q z (k+1)).2.2.2.1
   have HX0:=Lib.hid (And.intro hX' hBe)
   have HB:=Lib.hid hB
   have HQ:=Lib.hid (And.intro hq (hWe.trans (Went.nil hWX)))
   have HC:=Lib.hid hcs
   clear hcell hX' hBe hB hM hWe hWX hcs hq
   change Calls _ _ _ _ (MPost _ _ _ _ (s.runs z (k+1)) _ _ _) at cD
   generalize (s.runs z k).ok (z k 0) (z k 1) (z k 2)=bv at*
   generalize s.cnt z k=cn at*
   generalize z k 0=K at*
   generalize z k 1=t at*
   generalize z k 2=N at*
   go_upto_region 5 with fail
   obtain ⟨hX',hBe⟩:=HX0.out
   rw [←hX',←hBe]
   clear HX0 hX' hBe y0 y1 y2
   have q0:X'.cell? ⟨B',0,none⟩=some (.int .i64 K):=by rw [blk_cell HB.out];rfl
   have q1:X'.cell? ⟨B',1,none⟩=some (.int .i64 t):=by rw [blk_cell HB.out];rfl
   have q2:X'.cell? ⟨B',2,none⟩=some (.int .i64 N):=by rw [blk_cell HB.out];rfl
   cases bv
   ·go_wp2_with (go_at_call 8;(with_reducible refine cD.mono ?_);intro e w8 hq;unfold MPost at hq;obtain ⟨rfl,tv2,hM2,hW2⟩:=hq;have H8:=Lib.hid (And.intro hM2 hW2);clear hM2 hW2)
    go_roundw
    case rel=>exact ⟨k+1,by omega,by go_num,by rw [HC.out];rfl,tv2,H8.out.1,HQ.out.2.trans (HQ.out.1▸H8.out.2)⟩
    case measure=>simp [intOf];omega
   ·go_wp2_with (go_at_call 8;(with_reducible refine cD.mono ?_);intro e w8 hq;unfold MPost at hq;obtain ⟨rfl,tv2,hM2,hW2⟩:=hq;have H8:=Lib.hid (And.intro hM2 hW2);clear hM2 hW2)
    go_roundw
    case rel=>exact ⟨k+1,by omega,by go_num,by rw [HC.out];rfl,tv2,H8.out.1,HQ.out.2.trans (HQ.out.1▸H8.out.2)⟩
    case measure=>simp [intOf];omega
  have hkE:k=n:=by omega
  subst hkE
  have hq:(s.runs z k).a.q=s.a.q:=(s.runs_q z k).2.2.2.1
  have HP:=Lib.hid (show MPost w0 base m sb (s.runs z k) (.int .i64 (s.cnt z k)) w tv (.returned (.int .i64 (s.cnt z k))) wr from ⟨rfl,tv',hM,hq▸hWe⟩)
  clear hM hWe hq
  generalize s.cnt z k=cn at*
  go_wp2
  go_ret
  exact HP.out
end Go.Proofs.YtmnephejhkfchaaGreat

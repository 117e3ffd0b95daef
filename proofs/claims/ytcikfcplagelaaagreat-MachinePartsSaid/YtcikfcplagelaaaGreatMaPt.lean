import Derived.Test.YtcikfcplagelaaaGreatMaLw
import Derived.Test.YtcikfcplagelaaaGreatMaAw
namespace Go.Proofs.YtcikfcplagelaaaGreat
open _root_.Go.Proofs.Tryz
open Go.RowKit Go.BigFrame
set_option linter.unusedVariables false
set_option maxRecDepth 100000
theorem Kf.step_L (f:Kf.FL) {L L':Kf.Lp} (h1:L'.a1=L.a1) (h2:L'.a2=L.a2) (t u:Int):f.step L' t u=f.step L t u∧f.did L' t u=f.did L t u:=by
 cases L;cases L';dsimp only at h1 h2;subst h1 h2;exact ⟨rfl,rfl⟩
theorem Ks.step_L (f:Ks.FL) {L L':Ks.Lp} (h1:L'.a1=L.a1) (h2:L'.a2=L.a2) (t u:Int):f.step L' t u=f.step L t u∧f.did L' t u=f.did L t u:=by
 cases L;cases L';dsimp only at h1 h2;subst h1 h2;exact ⟨rfl,rfl⟩
theorem Kc.step_L (f:Kc.FL) {L L':Kc.Lp} (h1:L'.a1=L.a1) (h2:L'.a2=L.a2) (t u:Int):f.step L' t u=f.step L t u∧f.did L' t u=f.did L t u:=by
 cases L;cases L';dsimp only at h1 h2;subst h1 h2;exact ⟨rfl,rfl⟩
theorem Km.step_L (f:Km.FL) {L L':Km.Lp} (h1:L'.a1=L.a1) (h2:L'.a2=L.a2) (t u:Int):f.step L' t u=f.step L t u∧f.did L' t u=f.did L t u:=by
 cases L;cases L';dsimp only at h1 h2;subst h1 h2;exact ⟨rfl,rfl⟩
theorem Ka.step_L (f:Ka.FL) {L L':Ka.Lp} (h1:L'.a1=L.a1) (h2:L'.a2=L.a2) (t u x:Int):f.step L' t u x=f.step L t u x∧f.did L' t u x=f.did L t u x:=by
 cases L;cases L';dsimp only at h1 h2;subst h1 h2;exact ⟨rfl,rfl⟩
theorem Kh.step_L (f:Kh.FL) {L L':Kh.Lp} (h1:L'.a1=L.a1) (h2:L'.a2=L.a2) (t u:Int):f.step L' t u=f.step L t u∧f.did L' t u=f.did L t u:=by
 cases L;cases L';dsimp only at h1 h2;subst h1 h2;exact ⟨rfl,rfl⟩
theorem FL.step_L (f:FL) {L L':Lp} (h1:L'.a1=L.a1) (t u:Int):f.step L' t u=f.step L t u∧f.did L' t u=f.did L t u:=by
 cases L;cases L';dsimp only at h1;subst h1;exact ⟨rfl,rfl⟩
inductive Any.Eqv:Any→Any→Prop
 |tk {L L':Kf.Lp} {f:Kf.FL} (h1:L'.a1=L.a1) (h2:L'.a2=L.a2):Eqv (.tk L f) (.tk L' f)
 |sl {L L':Ks.Lp} {f:Ks.FL} (h1:L'.a1=L.a1) (h2:L'.a2=L.a2):Eqv (.sl L f) (.sl L' f)
 |cl {L L':Kc.Lp} {f:Kc.FL} (h1:L'.a1=L.a1) (h2:L'.a2=L.a2):Eqv (.cl L f) (.cl L' f)
 |mc {L L':Km.Lp} {f:Km.FL} (h1:L'.a1=L.a1) (h2:L'.a2=L.a2):Eqv (.mc L f) (.mc L' f)
 |ab {L L':Ka.Lp} {f:Ka.FL} (h1:L'.a1=L.a1) (h2:L'.a2=L.a2):Eqv (.ab L f) (.ab L' f)
 |hi {L L':Kh.Lp} {f:Kh.FL} (h1:L'.a1=L.a1) (h2:L'.a2=L.a2):Eqv (.hi L f) (.hi L' f)
 |co {L L':Lp} {f:FL} (h1:L'.a1=L.a1):Eqv (.co L f) (.co L' f)
namespace Any.Eqv
variable {a b:Any}
theorem s (h:Eqv a b):b.s=a.s:=by cases h<;>rfl
theorem ps (h:Eqv a b):b.ps=a.ps:=by cases h<;>rfl
theorem lock (h:Eqv a b) (t d:Int):Eqv (a.lock t d) (b.lock t d):=by
 cases h with
 |tk h1 h2=>exact .tk h1 h2
 |sl h1 h2=>exact .sl h1 h2
 |cl h1 h2=>exact .cl h1 h2
 |mc h1 h2=>exact .mc h1 h2
 |ab h1 h2=>exact .ab h1 h2
 |hi h1 h2=>exact .hi h1 h2
 |co h1=>exact .co h1
theorem turn (h:Eqv a b) (t d:Int):Eqv (a.turn t d) (b.turn t d):=by
 cases h with
 |tk h1 h2=>exact .tk h1 h2
 |sl h1 h2=>exact .sl h1 h2
 |cl h1 h2=>exact .cl h1 h2
 |mc h1 h2=>exact .mc h1 h2
 |ab h1 h2=>exact .ab h1 h2
 |hi h1 h2=>exact .hi h1 h2
 |co h1=>exact .co h1
theorem step (h:Eqv a b) (t x:Int):Eqv (a.step t x) (b.step t x)∧b.did t x=a.did t x:=by
 cases h with
 | @tk L L' f h1 h2=>obtain ⟨e1,e2⟩:=Kf.step_L f h1 h2 t t;exact ⟨by show Eqv (.tk L _) (.tk L' (f.step L' t t));rw [e1];exact .tk h1 h2,e2⟩
 | @sl L L' f h1 h2=>obtain ⟨e1,e2⟩:=Ks.step_L f h1 h2 t t;exact ⟨by show Eqv (.sl L _) (.sl L' (f.step L' t t));rw [e1];exact .sl h1 h2,e2⟩
 | @cl L L' f h1 h2=>obtain ⟨e1,e2⟩:=Kc.step_L f h1 h2 t t;exact ⟨by show Eqv (.cl L _) (.cl L' (f.step L' t t));rw [e1];exact .cl h1 h2,e2⟩
 | @mc L L' f h1 h2=>obtain ⟨e1,e2⟩:=Km.step_L f h1 h2 t t;exact ⟨by show Eqv (.mc L _) (.mc L' (f.step L' t t));rw [e1];exact .mc h1 h2,e2⟩
 | @ab L L' f h1 h2=>obtain ⟨e1,e2⟩:=Ka.step_L f h1 h2 t t x;exact ⟨by show Eqv (.ab L _) (.ab L' (f.step L' t t x));rw [e1];exact .ab h1 h2,e2⟩
 | @hi L L' f h1 h2=>obtain ⟨e1,e2⟩:=Kh.step_L f h1 h2 t t;exact ⟨by show Eqv (.hi L _) (.hi L' (f.step L' t t));rw [e1];exact .hi h1 h2,e2⟩
 | @co L L' f h1=>obtain ⟨e1,e2⟩:=FL.step_L f h1 t t;exact ⟨by show Eqv (.co L _) (.co L' (f.step L' t t));rw [e1];exact .co h1,e2⟩
end Any.Eqv
theorem NewA.eqv {n:Nat} {zs:List Int} {v sz pl B G D kd:Int} {a b:Any} (ha:NewA n zs v sz pl B G D a) (hb:NewA n zs v sz pl B G D b) (ka:a.kd=kd) (kb:b.kd=kd):Any.Eqv a b:=by
 have e:b.kd=a.kd:=kb.trans ka.symm
 cases a with
 |tk L f=>cases b<;>first|(obtain ⟨rfl,h1,h2,_⟩:=ha;obtain ⟨rfl,k1,k2,_⟩:=hb;exact .tk (k1.trans h1.symm) (k2.trans h2.symm))|cases e
 |sl L f=>
  cases b with
  |sl L' f'=>
   obtain ⟨m,z,hm,_,_,hz,rfl,h1,h2,_⟩:=ha
   obtain ⟨m',z',hm',_,_,hz',rfl,k1,k2,_⟩:=hb
   obtain rfl:m=m':=by omega
   obtain rfl:z=z':=by omega
   exact .sl (k1.trans h1.symm) (k2.trans h2.symm)
  |_=>cases e
 |cl L f=>cases b<;>first|(obtain ⟨rfl,h1,h2,_⟩:=ha;obtain ⟨rfl,k1,k2,_⟩:=hb;exact .cl (k1.trans h1.symm) (k2.trans h2.symm))|cases e
 |mc L f=>cases b<;>first|(obtain ⟨rfl,h1,h2,_⟩:=ha;obtain ⟨rfl,k1,k2,_⟩:=hb;exact .mc (k1.trans h1.symm) (k2.trans h2.symm))|cases e
 |ab L f=>
  cases b with
  |ab L' f'=>
   obtain ⟨ea,he,_,_,rfl,h1,h2,_⟩:=ha
   obtain ⟨ea',he',_,_,rfl,k1,k2,_⟩:=hb
   obtain rfl:ea=ea':=by omega
   exact .ab (k1.trans h1.symm) (k2.trans h2.symm)
  |_=>cases e
 |hi L f=>cases b<;>first|(obtain ⟨rfl,h1,h2,_⟩:=ha;obtain ⟨rfl,k1,k2,_⟩:=hb;exact .hi (k1.trans h1.symm) (k2.trans h2.symm))|cases e
 |co L f=>cases b<;>first|(obtain ⟨rfl,h1,_⟩:=ha;obtain ⟨rfl,k1,_⟩:=hb;exact .co (k1.trans h1.symm))|cases e
structure MS.Eqv (s s':MS):Prop where
 a:Any.Eqv s.a s'.a
 now:s'.now=s.now
 tr:s'.tr=s.tr
 st:s'.st=s.st
 idle:s'.idle=s.idle
namespace MS.Eqv
variable {s s':MS}
theorem ok (h:MS.Eqv s s') (k t x:Int):s'.ok k t x=s.ok k t x:=by
 have e1:∀ t,(s'.busy t↔s.busy t):=λt=>by unfold MS.busy;rw [h.a.s]
 have e2:s'.dead x=s.dead x:=by unfold MS.dead;rw [h.now]
 unfold MS.ok
 rw [e2,h.now,h.a.s,decide_eq_decide.2 (e1 t)]
theorem does (h:MS.Eqv s s') (k t x:Int):MS.Eqv (s.does k t x) (s'.does k t x):=by
 have e1:∀ t,(s'.busy t↔s.busy t):=λt=>by unfold MS.busy;rw [h.a.s]
 have e2:s'.dead x=s.dead x:=by unfold MS.dead;rw [h.now]
 unfold MS.does
 split
 ·unfold MS.pick
  by_cases hb:s.busy t
  ·rw [if_pos hb,if_pos ((e1 t).2 hb)]
   obtain ⟨k1,k2⟩:=h.a.step t s.now
   refine ⟨?_,h.now,?_,?_,h.idle⟩
   ·show Any.Eqv (s.a.step t s.now) (s'.a.step t s'.now)
    rw [h.now]
    exact k1
   ·show s'.tr++tells t s'.now (s'.a.did t s'.now)=s.tr++tells t s.now (s.a.did t s.now)
    rw [h.now,h.tr,k2]
   ·show s'.st.set t.toNat (s'.st.getD t.toNat 0+1)=s.st.set t.toNat (s.st.getD t.toNat 0+1)
    rw [h.st]
  ·rw [if_neg hb,if_neg λx=>hb ((e1 t).1 x)]
   exact h
 split
 ·unfold MS.tick
  rw [h.now]
  split
  ·exact h
  ·exact ⟨h.a,by show s'.now+1=s.now+1;rw [h.now],h.tr,h.st,h.idle⟩
 split
 ·unfold MS.call
  rw [e2,h.a.s]
  split
  ·exact ⟨h.a.lock _ _,h.now,by show s'.tr++[_]=s.tr++[_];rw [h.tr,h.now],h.st,h.idle⟩
  ·exact ⟨h.a.lock _ _,h.now,h.tr,h.st,h.idle⟩
 split
 ·unfold MS.fin
  rw [h.a.s]
  split
  ·exact ⟨h.a.turn _ _,h.now,by show s'.tr++[_]=s.tr++[_];rw [h.tr,h.now],h.st,h.idle⟩
  ·exact ⟨h.a.turn _ _,h.now,h.tr,h.st,h.idle⟩
 ·exact h
theorem Do (h:MS.Eqv s s') (k t x:Int):MS.Eqv (s.Do k t x) (s'.Do k t x):=by
 have hd:=h.does k t x
 unfold MS.Do
 rw [h.ok]
 split
 ·exact hd
 ·exact ⟨hd.a,hd.now,hd.tr,hd.st,by show (s'.does k t x).idle+1=(s.does k t x).idle+1;rw [hd.idle]⟩
theorem runs (h:MS.Eqv s s') (z:Nat→Nat→Int):∀ n,MS.Eqv (s.runs z n) (s'.runs z n)∧s'.cnt z n=s.cnt z n
 |0=>⟨h,rfl⟩
 |n+1=>by
  obtain ⟨h1,h2⟩:=runs h z n
  refine ⟨h1.Do _ _ _,?_⟩
  unfold MS.cnt
  rw [h1.ok,h2]
end MS.Eqv
theorem MS.runs_add (s:MS) (z:Nat→Nat→Int) (k:Nat):∀ j,(s.runs z k).runs (λi=>z (k+i)) j=s.runs z (k+j)∧s.cnt z k+(s.runs z k).cnt (λi=>z (k+i)) j=s.cnt z (k+j)
 |0=>⟨rfl,by show s.cnt z k+0=s.cnt z k;omega⟩
 |j+1=>by
  obtain ⟨h1,h2⟩:=runs_add s z k j
  constructor
  ·show ((s.runs z k).runs (λi=>z (k+i)) j).Do (z (k+j) 0) (z (k+j) 1) (z (k+j) 2)=(s.runs z (k+j)).Do (z (k+j) 0) (z (k+j) 1) (z (k+j) 2)
   rw [h1]
  ·show s.cnt z k+(if ((s.runs z k).runs (λi=>z (k+i)) j).ok (z (k+j) 0) (z (k+j) 1) (z (k+j) 2)=true then (s.runs z k).cnt (λi=>z (k+i)) j+1 else (s.runs z k).cnt (λi=>z (k+i)) j)=if (s.runs z (k+j)).ok (z (k+j) 0) (z (k+j) 1) (z (k+j) 2)=true then s.cnt z (k+j)+1 else s.cnt z (k+j)
   rw [h1]
   split<;>omega
theorem newM_eqv {a b:Any} (h:Any.Eqv a b):MS.Eqv (newM a) (newM b):=⟨h,rfl,rfl,by show List.replicate b.s.n 0=List.replicate a.s.n 0;rw [h.s],rfl⟩
theorem Any.At.move {W0 W1 w w':World} {S:Nat→Prop} {a:Any} (h:a.At W0 w) (k:Wr S w w') (hS:∀ b,W0.heap.size≤b→¬ S b) (hs:W1.heap.size=W0.heap.size) (hwr:Wr Nil W1 w'):a.At W1 w':=by
 have ne:∀ {c:Nat},W0.heap.size≤c→¬ S c:=λhc=>hS _ hc
 cases a with
 |tk L f=>
  have hl:=Kf.LkS.low h
  exact ⟨(Kf.LkS.lk h).wrote k (ne hl.1) (ne hl.2.1) (ne hl.2.2.1) (ne hl.2.2.2.1) (λc c1 _=>ne (Nat.le_trans hl.2.2.2.2 c1)),⟨by omega,by omega,by omega,by omega,by omega⟩,hwr⟩
 |sl L f=>
  have hl:=Ks.LkS.low h
  exact ⟨(Ks.LkS.lk h).wrote k (ne hl.1) (ne hl.2.1) (ne hl.2.2.1) (ne hl.2.2.2.1) (λc c1 _=>ne (Nat.le_trans hl.2.2.2.2 c1)),⟨by omega,by omega,by omega,by omega,by omega⟩,hwr⟩
 |cl L f=>
  have hl:=Kc.LkS.low h
  exact ⟨(Kc.LkS.lk h).wrote k (ne hl.1) (ne hl.2.1) (ne hl.2.2.1) (ne hl.2.2.2.1) (λc c1 _=>ne (Nat.le_trans hl.2.2.2.2 c1)),⟨by omega,by omega,by omega,by omega,by omega⟩,hwr⟩
 |mc L f=>
  have hl:=Km.LkS.low h
  exact ⟨(Km.LkS.lk h).wrote k (ne hl.1) (ne hl.2.1) (ne hl.2.2.1) (ne hl.2.2.2.1) (λc c1 _=>ne (Nat.le_trans hl.2.2.2.2 c1)),⟨by omega,by omega,by omega,by omega,by omega⟩,hwr⟩
 |ab L f=>
  have hl:=Ka.LkS.low h
  obtain ⟨Q,q1,q2,q3⟩:=(Ka.LkS.lk h).raw.obj
  obtain ⟨G,g1,g2⟩:=(Ka.LkS.lk h).raw.tick
  have hr:=(Ka.LkS.lk h).raw
  exact ⟨⟨⟨⟨Q,(k.block _ (blk_lt q1) (ne hl.1)).trans q1,q2.wrote k (λc hc=>ne (by have:=(q3 c hc).2.1;omega)),q3⟩,hr.seat.wrote k (ne hl.2.1) (ne hl.2.2.1),⟨G,(k.block _ (blk_lt g1) (ne hl.2.2.2.1)).trans g1,g2⟩,hr.np,hr.ne,hr.each,hr.adr⟩,(Ka.LkS.lk h).port.wrote k (λc c1 _=>ne (Nat.le_trans hl.2.2.2.2 c1)),(Ka.LkS.lk h).far,Nat.le_trans (Ka.LkS.lk h).top k.size⟩,⟨by omega,by omega,by omega,by omega,by omega⟩,hwr⟩
 |hi L f=>
  have hl:=Kh.LkS.low h
  exact ⟨⟨(Kh.LkS.lk h).raw.wrote k (ne hl.1) (ne hl.2.1) (ne hl.2.2.1) (ne hl.2.2.2.1),(Kh.LkS.lk h).port.wrote k (λc c1 _=>ne (Nat.le_trans hl.2.2.2.2 c1)),(Kh.LkS.lk h).far,Nat.le_trans (Kh.LkS.lk h).top k.size⟩,⟨by omega,by omega,by omega,by omega,by omega⟩,hwr⟩
 |co L f=>
  have hl:W0.heap.size≤L.lo:=LkS.low h
  have h5:=(LkS.lk h).lk.k0
  have hm:=(LkS.lk h).lk
  exact ⟨⟨⟨hm.raw.wrote k (λc c1 _=>ne (Nat.le_trans hl c1)),hm.port.wrote k (λc c1 _=>ne (by omega)),hm.far,Nat.le_trans hm.top k.size⟩,(LkS.lk h).inv,(LkS.lk h).a1⟩,(by show W1.heap.size≤L.lo;omega),hwr⟩
def World.cutTo (w:World) (n:Nat):World:={w with heap:=w.heap.extract 0 n}
theorem cut_size {w:World} {n:Nat} (h:n≤w.heap.size):(World.cutTo w n).heap.size=n:=by
 show (w.heap.extract 0 n).size=n
 rw [Array.size_extract]
 omega
theorem cut_wrote {w:World} {n:Nat} (h:n≤w.heap.size):Wr Nil (World.cutTo w n) w:=by
 refine ⟨rfl,rfl,rfl,by rw [cut_size h];exact h,λk hk _=> ?_⟩
 rw [cut_size h] at hk
 show w.heap[k]? =(w.heap.extract 0 n)[k]?
 rw [Array.getElem?_extract]
 simp []
 omega
theorem McAt.move {W0 w w':World} {base m sb:Nat} {s:MS} {tv:Value} {S:Nat→Prop} (h:McAt W0 base w m sb s tv) (k:Wr S w w') (hS:∀ b,W0.heap.size≤b→¬ S b) (h0:W0.heap.size≤w.heap.size):McAt (World.cutTo w' W0.heap.size) base w' m sb s tv:=by
 have h1:=h.low
 have h2:=h.top
 have h3:=k.size
 have hq:=h.lk.low
 have h9:W0.heap.size≤w'.heap.size:=Nat.le_trans h0 h3
 have hm:W0.heap.size≤s.a.q.k3:=by omega
 exact ⟨h.lk.move k hS (cut_size h9) (cut_wrote h9),(k.block _ (blk_lt h.box) (hS _ (by omega))).trans h.box,ownsRow_keep h.row λj hj=>k.block j (h.lt j hj).2 (hS _ (by have:=h.lt j hj;omega)),
  (k.block _ (blk_lt h.stp) (hS _ (by omega))).trans h.stp,h.len,h1,by omega⟩
structure McStill (w:World) (lo hi m:Nat) (s:MS) (tv:Value):Prop where
 box:∃ v1 v4,w.heap[m]? =some (.cells #[.pointer (some ⟨s.a.q.p,0,none⟩),v1,.int .i64 s.now,tv,v4,.int .i64 s.idle] 77 (0,0))
 port:PortAt w s.a.q s.a.hs s.a.ps
 row:w.ownsRow lo 82 4 tv s.tr.length (s.tr.flatMap Ent.cells)
 low:s.a.q.k3≤hi∧m<hi
theorem McAt.still {W0 w:World} {base m sb:Nat} {s:MS} {tv:Value} (h:McAt W0 base w m sb s tv) {hi:Nat} (h1:s.a.q.k3≤hi) (h2:m<hi):McStill w base hi m s tv:=⟨⟨_,_,h.box⟩,h.lk.port,h.row,h1,h2⟩
namespace McStill
variable {w w':World} {lo hi m:Nat} {s:MS} {tv:Value}
theorem wrote {S:Nat→Prop} (h:McStill w lo hi m s tv) (k:Wr S w w') (hS:∀ b,S b→hi≤b) (ht:∀ b,tv.ownBlock=some b→¬ S b):McStill w' lo hi m s tv:=by
 obtain ⟨v1,v4,hb⟩:=h.box
 have hl:=h.low
 exact ⟨⟨v1,v4,(k.block _ (blk_lt hb) λe=>by have:=hS _ e;omega).trans hb⟩,h.port.wrote k λc _ c2 e=>by have:=hS _ e;omega,ownsRow_keep h.row λj hj=>k.block j (h.row.lt j hj).2 (ht j hj),hl⟩
theorem after (h:McStill w lo hi m s tv) (k:Wr Nil w w'):McStill w' lo hi m s tv:=h.wrote k (λ_ e=>e.elim) λ_ _ e=>e.elim
theorem c0 (h:McStill w lo hi m s tv):w.cell? ⟨m,0,none⟩=some (.pointer (some ⟨s.a.q.p,0,none⟩)):=by obtain ⟨v1,v4,hb⟩:=h.box;exact (blk_cell hb 0).trans rfl
theorem c2 (h:McStill w lo hi m s tv):w.cell? ⟨m,2,none⟩=some (.int .i64 s.now):=by obtain ⟨v1,v4,hb⟩:=h.box;exact (blk_cell hb 2).trans rfl
theorem c3 (h:McStill w lo hi m s tv):w.cell? ⟨m,3,none⟩=some tv:=by obtain ⟨v1,v4,hb⟩:=h.box;exact (blk_cell hb 3).trans rfl
theorem c5 (h:McStill w lo hi m s tv):w.cell? ⟨m,5,none⟩=some (.int .i64 s.idle):=by obtain ⟨v1,v4,hb⟩:=h.box;exact (blk_cell hb 5).trans rfl
theorem now (h:McStill w lo hi m s tv):Calls prog 27 #[.pointer (some ⟨m,0,none⟩)] w λe w'=>e= .returned (.int .i64 s.now)∧w=w':=by
 have c2:=h.c2
 clear h
 go_enter func27,ntmps27
 go_wp2
 go_ret
 exact ⟨rfl,rfl⟩
theorem idle (h:McStill w lo hi m s tv):Calls prog 29 #[.pointer (some ⟨m,0,none⟩)] w λe w'=>e= .returned (.int .i64 s.idle)∧w=w':=by
 have c5:=h.c5
 clear h
 go_enter func29,ntmps29
 go_wp2
 go_ret
 exact ⟨rfl,rfl⟩
theorem trace (h:McStill w lo hi m s tv) (hn:s.tr.length≤1000000):Calls prog 26 #[.pointer (some ⟨m,0,none⟩)] w (CtPost w s.tr):=by
 obtain ⟨so,cp,rfl,_⟩:=own_slice h.row
 have c3:=h.c3
 have cC:=ct_clone h.row hn
 clear h
 generalize s.tr=tr at*
 go_enter func26,ntmps26
 go_wp2_with (go_at_call 55;(with_reducible refine cC.mono ?_);intro e w' hq;unfold CtPost at hq;obtain ⟨sa,c,rfl,hR⟩:=hq;have HR:=Lib.hid hR;clear hR)
 go_ret
 exact ⟨sa,c,rfl,HR.out⟩
end McStill
theorem cut_old {w v:World} {n:Nat} (h:Wr Nil w v) (h1:w.heap.size≤n) (h2:n≤v.heap.size):Wr Nil w (World.cutTo v n):=
 ⟨h.os,h.tape,h.output,by rw [cut_size h2];exact h1,λk hk hn=>((cut_wrote h2).block k (by rw [cut_size h2];omega) id).symm.trans (h.block k hk hn)⟩
structure PtS (v:World) (n3 n4 m sb:Nat) (s:MS) (sA:MS) (ma:Nat) (tA:Value) (w:World):Prop where
 two:∃ tv,McAt (World.cutTo v n3) v.heap.size w m sb s tv∧Went s.a.q m sb v (.slice none 0 0) w tv
 one:McStill w n4 n3 ma sA tA
theorem PtS.of {v w:World} {n3 n4 m sb ma:Nat} {s sA:MS} {tA tv:Value} (hn:n3≤v.heap.size) (hA:McStill v n4 n3 ma sA tA) (hm:s.a.q.k3≤n4∧m<n4∧sb<n4) (hM:McAt (World.cutTo v n3) v.heap.size w m sb s tv) (hW:Went s.a.q m sb v (.slice none 0 0) w tv):PtS v n3 n4 m sb s sA ma tA w:=by
 refine ⟨⟨tv,hM,hW⟩,?_⟩
 have hwr:=hM.lk.wr
 have hS:Wr (λk=>n3≤k∧MFt s.a.q m sb (.slice none 0 0) k) v w:=⟨hW.wr.os,hW.wr.tape,hW.wr.output,hW.wr.size,λk hk hno=>by
  by_cases h3:k<n3
  ·exact (hwr.block k (by rw [cut_size hn];exact h3) id).trans ((cut_wrote hn).block k (by rw [cut_size hn];exact h3) id).symm
  ·exact hW.wr.block k hk λe=>hno ⟨by omega,e⟩⟩
 refine hA.wrote hS (λb e=>e.1) λb hb e=> ?_
 have:=hA.row.lt b hb
 rcases e.2 with x|x|x|x
 ·omega
 ·omega
 ·omega
 ·cases x
theorem PtS.after {v w w':World} {n3 n4 m sb ma:Nat} {s sA:MS} {tA:Value} (h:PtS v n3 n4 m sb s sA ma tA w) (k:Wr Nil w w'):PtS v n3 n4 m sb s sA ma tA w':=by
 obtain ⟨tv,h1,h2⟩:=h.two
 exact ⟨⟨tv,h1.after k,h2.trans (Went.nil k)⟩,h.one.after k⟩
theorem EvAt.take {w:World} {so:Option Addr} {n:Nat} {z:Nat→Nat→Int} (h:EvAt w so n z) {k:Nat} (hk:k≤n):EvAt w so k z:=by
 rcases h with e|⟨b,o,e,hc⟩
 ·exact .inl (by omega)
 ·exact .inr ⟨b,o,e,λi hi j hj=>hc i (by omega) j hj⟩
theorem EvAt.drop {w:World} {gb go n:Nat} {z:Nat→Nat→Int} (h:EvAt w (some ⟨gb,go,none⟩) n z) {k:Nat} (hk:k<n):EvAt w (some ⟨gb,go+k*3,none⟩) (n-k) (λi=>z (k+i)):=by
 rcases h with e|⟨b,o,e,hc⟩
 ·omega
 ·cases e
  exact .inr ⟨gb,go+k*3,rfl,λi hi j hj=>by have h:=hc (k+i) (by omega) j hj;rw [show go+k*3+(i*3+j)=go+((k+i)*3+j) by omega];exact h⟩
end Go.Proofs.YtcikfcplagelaaaGreat


import Derived.Test.YtmnephejhkfchaaGreatMaGo
namespace Go.Proofs.YtmnephejhkfchaaGreat
set_option maxHeartbeats 8000000
open _root_.Go.Proofs.Tryz
open Go.RowKit Go.BigFrame
set_option linter.unusedVariables false
set_option maxRecDepth 100000
theorem Any.Bz (a:Any) (t d:Int):(a.lock t d).s.n=a.s.n:=by cases a<;>exact SS.Bz _ _ _
theorem Any.Bu (a:Any) (t x:Int):(a.turn t x).s.n=a.s.n:=by cases a<;>exact SS.Bu _ _ _
section
variable {w0 w:World} {base m sb:Nat} {s:MS} {tv:Value}
theorem McAt.Tf {w':World} {a':Any} (h:McAt w0 base w m sb s tv) (hs:s.a.Same a') (hn:a'.s.n=s.a.s.n) (hl:a'.At w0 w') (k:Wr a'.Low w w'):
  McAt w0 base w' m sb (s.put a') tv/\w'.cell? ⟨m,1,none⟩=some (.iface s.a.ty (.pointer (some ⟨s.a.lb,0,none⟩)))/\w'.cell? ⟨m,2,none⟩=some (.int .i64 s.now)/\Went a'.q m sb w tv w' tv:=by
 have h1:=h.put hs hn hl k;have h2:=h1.c1;have hw:Went a'.q m sb w tv w' tv:=McAt.iM hs hs.2.2.2.1 k;obtain ⟨e1,e2,_⟩:=hs;rw [show (s.put a').a.ty=s.a.ty from e1,show (s.put a').a.lb=s.a.lb from e2] at h2;exact ⟨h1,h2,h1.c2,hw⟩
theorem Vs (h:McAt w0 base w m sb s tv) (n0:0<=s.now) (n1:s.now<=1099511627776):
  Calls prog 28 #[.pointer (some ⟨m,0,none⟩)] w (CE w0 base m sb s.tick (.bool (decide (s.now≠1099511627776))) w tv):=by
 have c2:=h.c2;have z2:=h.fz 2;by_cases e:s.now=1099511627776
 ·have HP:=Qw (show CE w0 base m sb s.tick (.bool (decide (s.now≠1099511627776))) w tv (.returned (.bool false)) w from by
   unfold MS.tick;rw [Qj e,decide_eq_false (λx=>x e)];exact ⟨rfl,tv,h,Went.nil (Wr.refl _ _)⟩)
  clear h;rw [e] at c2;clear e n0 n1
  go_in
  go_wp2;go_ret;exact HP.out
 ·have HP:=Qw (show CE w0 base m sb s.tick (.bool (decide (s.now≠1099511627776))) w tv (.returned (.bool true)) (w.setCell ⟨m,2,none⟩ (.int .i64 (s.now+1))) from by
   unfold MS.tick;rw [Qq e,decide_eq_true e];exact ⟨rfl,tv,h.Tq (s':=s.U6) 2 _ rfl rfl rfl rfl,Went.low ((Wr.refl (One m) w).setCell _ _ λ_=>rfl) λb _ x=> .inr (.inl x)⟩)
  clear h;generalize s.now=now at c2 HP e n0 n1 ⊢
  go_in
  go_wp2;go_ret;exact HP.out
theorem Vo (h:McAt w0 base w m sb s tv) (n0:0<=s.now) (n1:s.now<=1000000) (hl:s.tr.length<=900000) (t x:Int):
  Calls prog 29 #[.pointer (some ⟨m,0,none⟩),.int .i64 t,.int .i64 x] w (CE w0 base m sb (s.call t x) (.bool (decide (BZ s.a.s t (s.dead x)=0))) w tv):=by
 have d1:w.drew.cell? ⟨m,1,none⟩=some (.iface s.a.ty (.pointer (some ⟨s.a.lb,0,none⟩))):=h.drew.c1;have cD:=λW (q:Wr Nil w W)=>Vp (h.after q) n0 n1 x;have vL:=Any.BN h.drew.lk.cell0;have nL:=s.a.D2;have cL:=Any.Rk h.drew.lk t (s.dead x);have hs:=s.a.KN t (s.dead x);have hn:=s.a.Bz t (s.dead x);have HH:=Qw (Qz h (Qz hs hn));have Hl:=Qw hl;clear h hs hn n0 n1 hl;by_cases e:BZ s.a.s t (s.dead x)=0
 ·rw [e] at cL
  unfold MS.call;rw [Qj e,decide_eq_true e];clear e;generalize s.dead x=d at*;generalize s.a.lock t d=a' at*
  go_in
  go_upto_region 1 with fail
  go_region_held3 (λw'=>w'.cell? ⟨m,1,none⟩=some (.iface s.a.ty (.pointer (some ⟨s.a.lb,0,none⟩)))) (first|with_reducible exact d1|with_reducible exact q1) (first
   |((with_reducible refine (cD _ ((Wr.refl Nil w).drew)).mono ?_);rintro e w1 ⟨rfl,rfl⟩)
   |((with_reducible refine cL.mono ?_);rintro e w2 ⟨rfl,hA,hW⟩;obtain ⟨hM,q1,_,GC⟩:=HH.out.1.drew.Tf HH.out.2.1 HH.out.2.2 hA hW;have HM:=Qw (Qz hM GC);clear hM GC hA hW))
  go_wp2_with ((with_reducible refine (NN HM.out.1 _ _ _ _ (Nat.le_trans Hl.out (by decide))).mono ?_);intro e w3 hq;unfold CE at hq;obtain ⟨rfl,FE,NU,GK⟩:=hq;have H3:=Qw (Qz NU GK);clear NU GK)
  go_ret;exact ⟨rfl,_,H3.out.1,((Went.nil ((Wr.refl Nil w).drew)).trans HM.out.2).trans H3.out.2⟩
 ·unfold MS.call
  rw [Qq e,decide_eq_false e];generalize s.dead x=d at*;have hne:(BZ s.a.s t d != 0)=true:=by simp [e]
  generalize BZ s.a.s t d=y at*;clear e;generalize s.a.lock t d=a' at*
  go_in
  go_upto_region 1 with fail
  go_region_held3 (λw'=>w'.cell? ⟨m,1,none⟩=some (.iface s.a.ty (.pointer (some ⟨s.a.lb,0,none⟩)))) (first|with_reducible exact d1|with_reducible exact q1) (first
   |((with_reducible refine (cD _ ((Wr.refl Nil w).drew)).mono ?_);rintro e w1 ⟨rfl,rfl⟩)
   |((with_reducible refine cL.mono ?_);rintro e w2 ⟨rfl,hA,hW⟩;obtain ⟨hM,q1,_,GC⟩:=HH.out.1.drew.Tf HH.out.2.1 HH.out.2.2 hA hW;have HM:=Qw (Qz hM GC);clear hM GC hA hW))
  go_wp2;go_ret;exact ⟨rfl,_,HM.out.1,(Went.nil ((Wr.refl Nil w).drew)).trans HM.out.2⟩
theorem Xx (h:McAt w0 base w m sb s tv) (hl:s.tr.length<=900000) (t:Int):
  Calls prog 30 #[.pointer (some ⟨m,0,none⟩),.int .i64 t] w (CE w0 base m sb (s.fin t) (.bool (decide (BR s.a.s t=0))) w tv):=by
 have c1:=h.c1;have vL:=Any.Ar h.lk.cell0;have nL:=s.a.C_;have cL:=Any.NG h.lk t;have hs:=s.a.KP t 3;have hn:=s.a.Bu t 3;have HH:=Qw (Qz h (Qz hs hn));have Hl:=Qw hl;clear h hs hn hl;by_cases e:BR s.a.s t=0
 ·rw [e] at cL
  unfold MS.fin;rw [Qj e,decide_eq_true e];clear e;generalize s.a.turn t 3=a' at*
  go_in
  go_wp2_with (first
   |((with_reducible refine cL.mono ?_);rintro e w2 ⟨rfl,hA,hW⟩;obtain ⟨hM,_,_,GC⟩:=HH.out.1.Tf HH.out.2.1 HH.out.2.2 hA hW;have HM:=Qw (Qz hM GC);clear hM GC hA hW)
   |((with_reducible refine (NN HM.out.1 _ _ _ _ (Nat.le_trans Hl.out (by decide))).mono ?_);intro e w3 hq;unfold CE at hq;obtain ⟨rfl,FE,NU,GK⟩:=hq;have H3:=Qw (Qz NU GK);clear NU GK))
  go_ret;exact ⟨rfl,_,H3.out.1,HM.out.2.trans H3.out.2⟩
 ·unfold MS.fin
  rw [Qq e,decide_eq_false e];have hne:(BR s.a.s t != 0)=true:=by simp [e]
  generalize BR s.a.s t=y at*;clear e;generalize s.a.turn t 3=a' at*
  go_in
  go_wp2_with ((with_reducible refine cL.mono ?_);rintro e w2 ⟨rfl,hA,hW⟩;obtain ⟨hM,_,_,GC⟩:=HH.out.1.Tf HH.out.2.1 HH.out.2.2 hA hW;have HM:=Qw (Qz hM GC);clear hM GC hA hW)
  go_ret;exact ⟨rfl,_,HM.out.1,HM.out.2⟩
end
section
variable {w0 w:World} {base m sb:Nat} {s:MS} {tv:Value}
theorem Any.DF (a:Any) (t x:Int):(a.step t x).s=a.s.fin t (a.did t x).ev:=by cases a<;>rfl
theorem Any.Ck (a:Any) (t x:Int):(a.step t x).s.n=a.s.n:=by rw [a.DF];exact SS.Bv _ _ _
theorem McAt.cd {a:Any} (h:McAt w0 base w m sb s tv) (hs:a.Same s.a):w.cell? ⟨m,1,none⟩=some (.iface a.ty (.pointer (some ⟨a.lb,0,none⟩))):=by
 obtain ⟨e1,e2,_⟩:=hs;have h1:=h.c1;rw [e1,e2] at h1;exact h1
theorem Vr (h:McAt w0 base w m sb s tv) {j:Nat} (hF:s.Hk j) (hj:j<=100000) (t:Int):
  Calls prog 27 #[.pointer (some ⟨m,0,none⟩),.int .i64 t] w (CE w0 base m sb (s.pick t) (.bool (decide (s.busy t))) w tv):=by
 have c1:=h.c1;have vT:=Any.Bc h.lk.cell0;have nT:=s.a.KB;have cT:=Any.Jw h.lk t;unfold MS.pick;by_cases hb:s.busy t
 ·rw [Qj hb,decide_eq_true hb]
  unfold MS.busy at hb;obtain ⟨x,hx⟩:∃ x,x=s.a.s.FD t:=⟨_,rfl⟩
  rw [<-hx] at hb cT;have ht:0<=t/\t<s.a.s.n:=by
   unfold SS.FD at hx;split at hx
   ·assumption
   ·omega
  clear hx;obtain ⟨i,rfl⟩:=Qx ht.1;have hi:i<s.st.length:=by rw [h.len];omega
  have o9:(i:Int)<(s.st.length:Nat):=by omega
  have c4:=h.c4;have sc:=h.sc hi;have sf:=h.sf i;have hst:=hF.st i;have LL:McAt w0 base _ m sb (s.counts i) tv:=h.YS i hi;obtain ⟨Z,hZ⟩:∃ Z,Z=w.setCell ⟨sb,i,none⟩ (.int .i64 (s.st.getD i 0+1)):=⟨_,rfl⟩
  have VT:Went s.a.q m sb w tv Z tv:=by rw [hZ];exact Went.low ((Wr.refl (One sb) w).setCell _ _ λ_=>rfl) λb _ x=> .inr (.inr x)
  rw [<-hZ] at LL;have d1:Z.drew.cell? ⟨m,1,none⟩=some (.iface s.a.ty (.pointer (some ⟨s.a.lb,0,none⟩))):=LL.drew.c1;have d2:Z.drew.cell? ⟨m,2,none⟩=some (.int .i64 s.now):=LL.drew.c2;have vS:=s.a.BG;have nS:=s.a.Ce;have eS:=s.a.Mu;have cS:Calls prog s.a.DK #[.pointer (some ⟨s.a.lb,0,none⟩),.int .i64 i,.int .i64 i,.int .i64 s.now] Z.drew (Any.Post w0 Z.drew (s.a.step i s.now) (s.a.did i s.now).val):=Any.Rl LL.drew.lk (i:Int) s.now (Nat.lt_of_le_of_lt hF.D (by omega));have hs:=s.a.KO (i:Int) s.now;have hn:=s.a.Ck (i:Int) s.now;replace VT:Went (s.a.step i s.now).q m sb w tv Z tv:=by rw [hs.2.2.2.1];exact VT
  have HH:=Qw (Qz LL (Qz hs (Qz hn VT)));have hl:s.tr.length<=900000:=by have:=hF.tr;omega
  have Hl:=Qw hl;have HZ:=Qw hZ;unfold MS.picked;change Calls _ _ _ _ (CE _ _ _ _ (((s.counts i).put (s.a.step i s.now)).more (tells i s.now (s.a.did i s.now))) _ _ _);clear h hs hn hF LL hl ht hZ VT;generalize s.a.step i s.now=a' at*;generalize s.a.did i s.now=d at*;generalize s.st.getD i 0=y at*;generalize s.a.DK=sF at*;rcases hb with rfl|rfl
  all_goals
   go_in
   go_upto_region 5 with ((with_reducible refine cT.mono ?_);rintro e w' ⟨rfl,rfl⟩)
   rw [<-HZ.out];clear c1 c4 sc sf
   go_region_held3 (λw'=>w'.cell? ⟨m,1,none⟩=some (.iface s.a.ty (.pointer (some ⟨s.a.lb,0,none⟩)))/\w'.cell? ⟨m,2,none⟩=some (.int .i64 s.now)) (first|with_reducible exact ⟨d1,d2⟩|with_reducible exact ⟨q1,q2⟩|with_reducible exact ⟨r1,r2⟩) (first
    |((with_reducible refine lN.mono ?_);intro e w3 hq;unfold CE at hq;obtain ⟨rfl,FE,NU,GK⟩:=hq;have r1:=NU.cd HH.out.2.1;have r2:w3.cell? ⟨m,2,none⟩=some (.int .i64 s.now):=NU.c2;have H3:=Qw (Qz NU GK);clear NU GK)
    |((with_reducible refine cS.mono ?_);rintro e w2 ⟨rfl,hA,hW⟩;obtain ⟨hM,q1,q2,GC⟩:=HH.out.1.drew.Tf HH.out.2.1 HH.out.2.2.1 hA hW;have lN:=YY hM (i:Int) d Hl.out;replace q1:w2.cell? ⟨m,1,none⟩=some (.iface s.a.ty (.pointer (some ⟨s.a.lb,0,none⟩))):=q1;replace q2:w2.cell? ⟨m,2,none⟩=some (.int .i64 s.now):=q2;have HM:=Qw (Qz hM GC);clear hM GC hA hW;unfold Dd.val))
   go_wp2;go_ret;exact ⟨rfl,_,H3.out.1,((HH.out.2.2.2.trans (Went.nil ((Wr.refl Nil Z).drew))).trans HM.out.2).trans H3.out.2⟩
 ·rw [Qq hb,decide_eq_false hb]
  unfold MS.busy at hb;have HP:=Qw h;clear h;generalize s.a.s.FD t=x at*;have h1:(x != 1)=true:=by simp;exact λe=>hb (.inl e)
  have h3:(x != 3)=true:=by simp;exact λe=>hb (.inr e)
  clear hb
  go_in
  go_wp2_with ((with_reducible refine cT.mono ?_);rintro e w' ⟨rfl,rfl⟩)
  go_ret;exact ⟨rfl,tv,HP.out,Went.nil (Wr.refl _ _)⟩
theorem Vq (h:McAt w0 base w m sb s tv) {j:Nat} (hF:s.Hk j) (hj:j<=100000) (k t x:Int):
  Calls prog 18 #[.pointer (some ⟨m,0,none⟩),.agg #[.int .i64 k,.int .i64 t,.int .i64 x]] w (CE w0 base m sb (s.does k t x) (.bool (s.ok k t x)) w tv):=by
 obtain ⟨X,hX⟩:∃ X,X=w.alloc (.cells #[.int .i64 k,.int .i64 t,.int .i64 x] 34):=⟨_,rfl⟩
 have E_:Wr Nil w X:=by rw [hX];exact (Wr.refl _ w).alloc _
 have hB:X.heap[w.heap.size]? =some (.cells #[.int .i64 k,.int .i64 t,.int .i64 x] 34 (0,0)):=by rw [hX];exact Go.Deep.blk_alloc_new _ _
 have x0:X.cell? ⟨w.heap.size,0,none⟩=some (.int .i64 k):=(A1 hB 0).trans rfl;have x1:X.cell? ⟨w.heap.size,1,none⟩=some (.int .i64 t):=(A1 hB 1).trans rfl;have x2:X.cell? ⟨w.heap.size,2,none⟩=some (.int .i64 x):=(A1 hB 2).trans rfl;have hM:=h.after E_;have hl:s.tr.length<=900000:=by have:=hF.tr;omega
 have hn:=hF.now;have c1:=Vr hM hF hj t;have c2:=Vs hM hn.1 (by omega);have c3:=Vo hM hn.1 (by omega) hl t x;have c4:=Xx hM hl t;have H0:=Qw h;have HX:=Qw hX;have HW:=Qw E_;clear hX E_ hB hM hl hn hF h;have fin:∀ (s':MS) (v:Value) (e:Ending) (w':World),CE w0 base m sb s' v X tv e w'->CE w0 base m sb s' v w tv e w':=λ_ _ _ _ ⟨e1,FE,e2,e3⟩=>⟨e1,FE,e2,(Went.nil HW.out).trans e3⟩
 have HF:=Qw fin;clear fin;unfold MS.does MS.ok;by_cases k1:k=1
 ·subst k1
  rw [Qj rfl,Qj rfl];clear c2 c3 c4 x2;generalize decide (s.busy t)=bv at*
  go_in
  go_upto_region 1 with fail
  rw [<-HX.out];go_wp2_with ((with_reducible refine c1.mono ?_);intro e w' hq;have HQ:=Qw hq;obtain rfl:=hq.1;clear hq)
  exact zz6a
 rw [Qq k1,Qq k1];by_cases k2:k=2
 ·subst k2
  rw [Qj rfl,Qj rfl];clear c1 c3 c4 x2 x1;generalize decide (s.now≠1099511627776)=bv at*
  go_in
  go_upto_region 1 with fail
  rw [<-HX.out];go_wp2_with ((with_reducible refine c2.mono ?_);intro e w' hq;have HQ:=Qw hq;obtain rfl:=hq.1;clear hq)
  exact zz6a
 rw [Qq k2,Qq k2];by_cases k3:k=3
 ·subst k3
  rw [Qj rfl,Qj rfl];clear c1 c2 c4;generalize decide (BZ s.a.s t (s.dead x)=0)=bv at*
  go_in
  go_upto_region 1 with fail
  rw [<-HX.out];go_wp2_with ((with_reducible refine c3.mono ?_);intro e w' hq;have HQ:=Qw hq;obtain rfl:=hq.1;clear hq)
  exact zz6a
 rw [Qq k3,Qq k3];by_cases k4:k=4
 ·subst k4
  rw [Qj rfl,Qj rfl];clear c1 c2 c3 x2;generalize decide (BR s.a.s t=0)=bv at*
  go_in
  go_upto_region 1 with fail
  rw [<-HX.out];go_wp2_with ((with_reducible refine c4.mono ?_);intro e w' hq;have HQ:=Qw hq;obtain rfl:=hq.1;clear hq)
  exact zz6a
 rw [Qq k4,Qq k4];clear c1 c2 c3 c4 x1 x2
 go_in
 go_upto_region 1 with fail
 rw [<-HX.out];go_wp2;go_ret;exact ⟨rfl,tv,H0.out.after HW.out,Went.nil HW.out⟩
theorem MS.Jx (s:MS) (k t x:Int):(s.does k t x).idle=s.idle:=by
 unfold MS.does MS.pick MS.tick MS.call MS.fin
 repeat' split
 all_goals rfl
theorem X_ (h:McAt w0 base w m sb s tv) {j:Nat} (hF:s.Hk j) (hj:j<=100000) (k t x:Int):
  Calls prog 8 #[.pointer (some ⟨m,0,none⟩),.agg #[.int .i64 k,.int .i64 t,.int .i64 x]] w (CE w0 base m sb (s.Do k t x) (.bool (s.ok k t x)) w tv):=by
 obtain ⟨X,hX⟩:∃ X,X=w.alloc (.cells #[.int .i64 k,.int .i64 t,.int .i64 x] 34):=⟨_,rfl⟩
 have E_:Wr Nil w X:=by rw [hX];exact (Wr.refl _ w).alloc _
 have hB:X.heap[w.heap.size]? =some (.cells #[.int .i64 k,.int .i64 t,.int .i64 x] 34 (0,0)):=by rw [hX];exact Go.Deep.blk_alloc_new _ _
 have x0:X.cell? ⟨w.heap.size,0,none⟩=some (.int .i64 k):=(A1 hB 0).trans rfl;have x1:X.cell? ⟨w.heap.size,1,none⟩=some (.int .i64 t):=(A1 hB 1).trans rfl;have x2:X.cell? ⟨w.heap.size,2,none⟩=some (.int .i64 x):=(A1 hB 2).trans rfl;have cD:=Vq (h.after E_) hF hj k t x;have hi:=hF.idle;have hi2:s.idle+1<=100001:=by omega
 have he:=s.Jx k t x;have HX:=Qw hX;have HW:=Qw E_;clear hX E_ hB hF h;unfold MS.Do;cases hb:s.ok k t x
 ·rw [hb] at cD
  rw [Qq (by decide)];clear hb;generalize s.does k t x=s' at*;have HE:=Qw he;clear he
  go_in
  go_upto_region 1 with fail
  rw [<-HX.out];go_wp2_with ((with_reducible refine cD.mono ?_);intro e w' hq;unfold CE at hq;obtain ⟨rfl,FE,hM,GC⟩:=hq;have c5:=hM.c5;rw [HE.out] at c5;have z5:=hM.fz 5;have HM:=Qw (Qz (hM.Tq (s':=s'.X7) 5 (.int .i64 (s'.idle+1)) rfl rfl rfl rfl) GC);clear hM GC)
  go_ret;have e5:=HE.out;obtain ⟨h1,h2⟩:=HM.out;rw [e5] at h1;exact ⟨rfl,_,h1,((Went.nil HW.out).trans h2).trans (Went.low ((Wr.refl (One m) _).setCell _ _ λ_=>rfl) λb _ x=> .inr (.inl x))⟩
 ·rw [hb] at cD
  rw [Qj rfl];clear hb he;generalize s.does k t x=s' at*
  go_in
  go_upto_region 1 with fail
  rw [<-HX.out];go_wp2_with ((with_reducible refine cD.mono ?_);intro e w' hq;unfold CE at hq;obtain ⟨rfl,FE,hM,GC⟩:=hq;have HM:=Qw (Qz hM GC);clear hM GC)
  go_ret;exact ⟨rfl,_,HM.out.1,(Went.nil HW.out).trans HM.out.2⟩
end
end Go.Proofs.YtmnephejhkfchaaGreat

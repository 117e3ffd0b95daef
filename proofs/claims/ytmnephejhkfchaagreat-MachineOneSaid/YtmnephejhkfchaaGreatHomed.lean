
import Derived.Test.YtmnephejhkfchaaGreatPortNew
namespace Go.Proofs.YtmnephejhkfchaaGreat
set_option maxHeartbeats 8000000
open _root_.Go.Proofs.Tryz Go.Deep
open Go.RowKit
set_option linter.unusedVariables false
set_option maxRecDepth 100000
structure TwoAt (w:World) (hv vv:Value) (n m:Nat) (hs vs:List Int):Prop where
 homes:w.ownsRow 0 3 1 hv n (hs.map (Value.int .i64))
 values:w.ownsRow 0 23 1 vv m (vs.map (Value.int .u32))
 apart:∀ k,hv.ownBlock=some k->vv.ownBlock=some k->False
def TF (hv vv:Value) (k:Nat):Prop:=hv.ownBlock=some k\/vv.ownBlock=some k
def PF (p:Nat) (hv vv:Value) (k:Nat):Prop:=k=p\/TF hv vv k
def Came (w:World) (F F':Nat->Prop):Prop:=∀ k,F' k->F k\/w.heap.size<=k
theorem Came.refl (w:World) (F:Nat->Prop):Came w F F:=λ_ h=> .inl h
theorem Came.trans {w w':World} {F F' jL:Nat->Prop} (h:Came w F F') (k:Came w' F' jL) (hs:w.heap.size<=w'.heap.size):Came w F jL:=λb hb=>by
 rcases k b hb with x|x
 ·exact h b x
 ·exact .inr (Nat.le_trans hs x)
namespace TwoAt
variable {w w' A w1:World} {hv vv hv' N3:Value} {n m p:Nat} {hs vs:List Int}
theorem lt (h:TwoAt w hv vv n m hs vs) {k:Nat} (hk:TF hv vv k):k<w.heap.size:=by
 rcases hk with x|x
 ·exact (h.homes.lt k x).2
 ·exact (h.values.lt k x).2
theorem wrote {S:Nat->Prop} (h:TwoAt w hv vv n m hs vs) (k:Wr S w w') (hS:∀ b,TF hv vv b->¬ S b):TwoAt w' hv vv n m hs vs:=
 ⟨Ak h.homes λj hj=>k.block j (h.lt (.inl hj)) (hS j (.inl hj)),Ak h.values λj hj=>k.block j (h.lt (.inr hj)) (hS j (.inr hj)),h.apart⟩
theorem after (h:TwoAt w hv vv n m hs vs) (k:Wr Nil w w'):TwoAt w' hv vv n m hs vs:=h.wrote k λ_ _=>id
theorem empty (w:World):TwoAt w (.slice none 0 0) (.slice none 0 0) 0 0 [] []:=⟨World.ownsRow_nil _ _ _ _,World.ownsRow_nil _ _ _ _,λ_ h=>by simp [Value.ownBlock] at h⟩
theorem ahead (h:TwoAt w hv vv n m hs vs) (hA:Wr (One p) w A) (hp:¬ TF hv vv p) (o:Obj):TwoAt (A.alloc o) hv vv n m hs vs:=
 (h.wrote hA λb hb e=>hp (by cases e;exact hb)).after ((Wr.refl _ _).alloc _)
theorem Zd (h:TwoAt w hv vv n m hs vs) (hA:Wr (One p) w A) (hp:¬ TF hv vv p) (hlt:p<w.heap.size) {o:Obj} {x:Int}
  (hown:w1.ownsRow 0 3 1 hv' (n+1) (hs.map (Value.int .i64)++[.int .i64 x])) (hg:(A.alloc o).grownBy w1 hv.ownBlock) (hat:hv'.ownBlock=hv.ownBlock\/hv'.ownBlock=some (A.alloc o).heap.size):
  TwoAt w1 hv' vv (n+1) m (hs++[x]) vs/\Wr (PF p hv vv) w w1/\Came w (TF hv vv) (TF hv' vv)/\w1.heap[p]? =A.heap[p]?/\¬ TF hv' vv p:=by
 have hB:=h.ahead hA hp o;have hsz:w.heap.size<(A.alloc o).heap.size:=by have:=hA.size;rw [nblk_alloc];omega
 have hv1:∀ k,vv.ownBlock=some k->w1.heap[k]? =(A.alloc o).heap[k]? :=λk hk=>hg.block k (hB.lt (.inr hk)) (λe=>h.apart k e.symm hk);refine ⟨⟨by simpa using hown,Ak hB.values hv1,λk h1 h2=> ?_⟩,?_,λk hk=> ?_,?_,λhk=> ?_⟩
 ·rcases hat with e|e
  ·exact h.apart k (e▸h1) h2
  ·have:=h.lt (.inr h2)
   rw [e] at h1;have e':(A.alloc o).heap.size=k:=by simpa using h1
   omega
 ·have hW:=((hA.mono (T:=PF p hv vv) λb _ e=> .inl e).alloc o).grown hg λk hk _=> .inr (.inl hk)
  exact hW
 ·rcases hk with x|x
  ·rcases hat with e|e
   ·exact .inl (.inl (e▸x))
   ·exact zz63
  ·exact .inl (.inr x)
 ·rw [hg.block p (by rw [nblk_alloc];have:=hA.size;omega) (λe=>hp (.inl e.symm)),blk_alloc_lt _ _ _ (by have:=hA.size;omega)]
 ·rcases hk with x|x
  ·rcases hat with e|e
   ·exact hp (.inl (e▸x))
   ·exact zz6y
  ·exact hp (.inr x)
theorem Ze (h:TwoAt w hv vv n m hs vs) (hA:Wr (One p) w A) (hp:¬ TF hv vv p) (hlt:p<w.heap.size) {o:Obj} {x:Int}
  (hown:w1.ownsRow 0 23 1 N3 (m+1) (vs.map (Value.int .u32)++[.int .u32 x])) (hg:(A.alloc o).grownBy w1 vv.ownBlock) (hat:N3.ownBlock=vv.ownBlock\/N3.ownBlock=some (A.alloc o).heap.size):
  TwoAt w1 hv N3 n (m+1) hs (vs++[x])/\Wr (PF p hv vv) w w1/\Came w (TF hv vv) (TF hv N3)/\w1.heap[p]? =A.heap[p]?/\¬ TF hv N3 p:=by
 have hB:=h.ahead hA hp o;have hsz:w.heap.size<(A.alloc o).heap.size:=by have:=hA.size;rw [nblk_alloc];omega
 have hv1:∀ k,hv.ownBlock=some k->w1.heap[k]? =(A.alloc o).heap[k]? :=λk hk=>hg.block k (hB.lt (.inl hk)) (λe=>h.apart k hk e.symm);refine ⟨⟨Ak hB.homes hv1,by simpa using hown,λk h1 h2=> ?_⟩,?_,λk hk=> ?_,?_,λhk=> ?_⟩
 ·rcases hat with e|e
  ·exact h.apart k h1 (e▸h2)
  ·have:=h.lt (.inl h1)
   rw [e] at h2;have e':(A.alloc o).heap.size=k:=by simpa using h2
   omega
 ·have hW:=((hA.mono (T:=PF p hv vv) λb _ e=> .inl e).alloc o).grown hg λk hk _=> .inr (.inr hk)
  exact hW
 ·rcases hk with x|x
  ·exact .inl (.inl x)
  ·rcases hat with e|e
   ·exact .inl (.inr (e▸x))
   ·exact zz63
 ·rw [hg.block p (by rw [nblk_alloc];have:=hA.size;omega) (λe=>hp (.inr e.symm)),blk_alloc_lt _ _ _ (by have:=hA.size;omega)]
 ·rcases hk with x|x
  ·exact hp (.inl x)
  ·rcases hat with e|e
   ·exact hp (.inr (e▸x))
   ·exact zz6y
end TwoAt
structure Pl where
 p:Nat
 hv:Value
 vv:Value
def Pl.F (q:Pl):Nat->Prop:=PF q.p q.hv q.vv
structure PlanAt (w:World) (q:Pl) (t:Int) (hs vs:List Int):Prop where
 obj:w.heap[q.p]? =some (.cells #[.int .i64 t,.int .i64 (hs.length:Nat),q.hv,q.vv] 76 (0,0))
 rows:TwoAt w q.hv q.vv (min hs.length 4097) (min hs.length 4097) (hs.take 4097) (vs.take 4097)
 len:vs.length=hs.length
 low:¬ TF q.hv q.vv q.p
namespace PlanAt
variable {w w':World} {q:Pl} {t:Int} {hs vs:List Int}
theorem lt (h:PlanAt w q t hs vs) {k:Nat} (hk:q.F k):k<w.heap.size:=by
 rcases hk with rfl|x
 ·exact A2 h.obj
 ·exact h.rows.lt x
theorem wrote {S:Nat->Prop} (h:PlanAt w q t hs vs) (k:Wr S w w') (hS:∀ b,q.F b->¬ S b):PlanAt w' q t hs vs:=
 ⟨(k.block q.p (A2 h.obj) (hS _ (.inl rfl))).trans h.obj,h.rows.wrote k (λb hb=>hS b (.inr hb)),h.len,h.low⟩
theorem after (h:PlanAt w q t hs vs) (k:Wr Nil w w'):PlanAt w' q t hs vs:=h.wrote k λ_ _=>id
theorem cell0 (h:PlanAt w q t hs vs):w.cell? ⟨q.p,0,none⟩=some (.int .i64 t):=by rw [A1 h.obj];rfl
theorem cell1 (h:PlanAt w q t hs vs):w.cell? ⟨q.p,1,none⟩=some (.int .i64 (hs.length:Nat)):=by rw [A1 h.obj];rfl
theorem AY (h:PlanAt w q t hs vs):w.cell? ⟨q.p,2,none⟩=some q.hv:=by rw [A1 h.obj];rfl
theorem AV (h:PlanAt w q t hs vs):w.cell? ⟨q.p,3,none⟩=some q.vv:=by rw [A1 h.obj];rfl
theorem frozen (h:PlanAt w q t hs vs) (k:Nat):w.frozen? ⟨q.p,k,none⟩=false:=A4 h.obj k
end PlanAt
def C4 (w:World) (q:Pl) (t:Int) (hs vs:List Int) (r:Value) (e:Ending) (w':World):Prop:=
 e= .returned r/\∃ q':Pl,q'.p=q.p/\PlanAt w' q' t hs vs/\Wr q.F w w'/\Came w q.F q'.F
theorem Qt (t:Int) (w:World):
  Calls prog 24 #[.int .i64 t] w λe w'=>∃ q:Pl,e= .returned (.pointer (some ⟨q.p,0,none⟩))/\PlanAt w' q t [] []/\(∀ k,q.F k->w.heap.size<=k)/\Wr Nil w w':=by
 go_in
 go_wp2;go_ret;refine ⟨⟨w.heap.size,.slice none 0 0,.slice none 0 0⟩,rfl,⟨?_,TwoAt.empty _,rfl,by simp [TF,Value.ownBlock]⟩,λk hk=> ?_,(Wr.refl _ _).alloc _⟩
 ·exact blk_alloc_new _ _
 ·rcases hk with rfl|x
  ·exact Nat.le_refl _
  ·simp [TF,Value.ownBlock] at x
theorem KI {w:World} {q:Pl} {t:Int} {hs vs:List Int} (h:PlanAt w q t hs vs):
  Calls prog 71 #[.pointer (some ⟨q.p,0,none⟩)] w λe w'=>e= .returned (.int .i64 (hs.length:Nat))/\w'=w:=by
 have c1:=h.cell1;have H:=Qw h;clear h;exact zzo
theorem KU {l:List Int} {x:Int} (h:4097<=l.length):(l++[x]).take 4097=l.take 4097:=List.take_append_of_le_length h
theorem Gw {w:World} {base:Nat} {e:TypeId} {size:Nat} {v:Value} {n:Nat} {xs:List Value} (h:w.ownsRow base e size v n xs):∃ so cap,v= .slice so n cap:=by
 rcases h.2 with ⟨rfl,rfl⟩|⟨g,cap,cur,rfl,_⟩
 ·exact ⟨none,0,rfl⟩
 ·exact ⟨some ⟨g,0,none⟩,cap,rfl⟩
theorem PG (A:World) (x:Value) (t:TypeId) (b:Nat) (hb:b=A.heap.size):∀ j u,[x][j]? =some u->(A.alloc (.cells #[x] t)).cell? ((⟨b,0,none⟩:Addr).add j)=some u:=by
 subst hb;exact cell_one_new A x t
theorem Kv {w:World} {p:Nat} {a b c d:Value} (h:Came w (TF a b) (TF c d)):Came w (PF p a b) (PF p c d):=λk hk=>by
 rcases hk with rfl|x
 ·exact .inl (.inl rfl)
 ·rcases h k x with y|y
  ·exact .inl (.inr y)
  ·exact .inr y
theorem Jk {w w1 w2:World} {F F':Nat->Prop} (h:Wr F w w1) (k:Wr F' w1 w2) (c:Came w F F'):Wr F w w2:=
 h.trans k λb hb x=>(c b x).elim id λy=>absurd hb (by omega)
theorem UH {w w1 w2:World} {p n:Nat} {hv vv hv' N3:Value} {t home v:Int} {hs vs:List Int} (hn:n=hs.length) (hlv:vs.length=n) (hlt:n<4097)
  (r2:Wr (PF p hv vv) w w1) (r3:Came w (TF hv vv) (TF hv' vv)) (s1:TwoAt w2 hv' N3 (n+1) (n+1) (hs++[home]) (vs++[v])) (s2:Wr (PF p hv' vv) w1 w2) (s3:Came w1 (TF hv' vv) (TF hv' N3))
  (s4:w2.heap[p]? =some (.cells #[.int .i64 t,.int .i64 ((n+1:Nat):Int),hv',vv] 76 (0,0))) (s5:¬ TF hv' N3 p):
  C4 w ⟨p,hv,vv⟩ t (hs++[home]) (vs++[v]) (.int .i64 (n:Nat)) (.returned (.int .i64 (n:Nat))) (w2.setCell ⟨p,3,none⟩ N3):=by
 have hl:(hs++[home]).length=n+1:=by simp [hn]
 refine ⟨rfl,⟨p,hv',N3⟩,rfl,⟨?_,?_,by simp [hlv,hn],s5⟩,?_,?_⟩
 ·show (w2.setCell ⟨p,3,none⟩ N3).heap[p]? =_
  rw [A3 s4,hl];rfl
 ·rw [hl,Nat.min_eq_left (by omega),List.take_of_length_le (by omega),List.take_of_length_le (by simp [hlv];omega)]
  exact s1.wrote (S:=One p) ((Wr.refl _ _).setCell _ _ λ_=>rfl) λb hb e=>s5 (by cases e;exact hb)
 ·exact (Jk r2 s2 (Kv r3)).setCell _ _ λ_=> .inl rfl
 ·exact (Kv r3).trans (Kv s3) r2.size
set_option maxRecDepth 100000 in
theorem Ci {w:World} {q:Pl} {t:Int} {hs vs:List Int} (h:PlanAt w q t hs vs) (home v:Int) (hL:hs.length<=1000000):
  Calls prog 50 #[.pointer (some ⟨q.p,0,none⟩),.int .i64 home,.int .u32 v] w (C4 w q t (hs++[home]) (vs++[v]) (.int .i64 (hs.length:Nat))):=by
 obtain ⟨i0,hi,hz0,hz1,hz2⟩:=info_parts JC;obtain ⟨i1,gi,VO,VP,VQ⟩:=info_parts T8;have hq:q.p<w.heap.size:=A2 h.obj;have c1:=h.cell1;have c2:=h.AY;have f1:=h.frozen 1;obtain ⟨p,hv,vv⟩:=q;obtain ⟨n,hn⟩:∃ n,n=hs.length:=⟨_,rfl⟩
 have hlv:vs.length=n:=by rw [h.len,hn]
 rw [<-hn] at c1 hL ⊢;obtain ⟨A,hA⟩:∃ A,A=w.setCell ⟨p,1,none⟩ (.int .i64 ((n:Int)+1)):=⟨_,rfl⟩
 have Xi:Wr (One p) w A:=by rw [hA];exact (Wr.refl _ _).setCell _ _ λ_=>rfl
 have eI:A.heap[p]? =some (.cells #[.int .i64 t,.int .i64 ((n+1:Nat):Int),hv,vv] 76 (0,0)):=by rw [hA,A3 h.obj];rfl
 have hrows:=h.rows;have MP:=h.low;rw [<-hn] at hrows;simp only at hrows MP hq c1 c2 f1;by_cases hlt:n<4097
 ·rw [List.take_of_length_le (by omega),List.take_of_length_le (by omega),Nat.min_eq_left (by omega)] at hrows
  have Nv:∀ o,(A.alloc o).ownsRow 0 3 1 hv n (hs.map (Value.int .i64)):=λo=>(hrows.ahead Xi MP o).homes;have kH:=λ(o:Obj) (hv':Value) (w1:World) g1 g2 g3=>hrows.Zd (A:=A) (o:=o) (hv':=hv') (w1:=w1) (x:=home) Xi MP hq g1 g2 g3;have H:=Qw (Qz h (Qz hn (Qz hlv Xi)));have HO:=Qw eI;have eG:n+1<=maxLen:=by unfold maxLen;omega
  clear h hrows eI Xi hlv hn;subst hA
  go_in
  go_wp2_with (first
   |(at_builtin;refine wpList_append_own_at _ rfl (.tmp 25) (.tmp 27) 22 rfl 0 3 i0 (.int .i64 0) 1 8 underlying22 hi hz0 hz1 hz2 rfl (by decide) hv n _ rfl (Nv _) _ 1 1 [.int .i64 home] rfl rfl (PG _ _ _ _ (nblk_setCell _ _ _).symm) (by simp [Value.oneCell']) eG (by omega) (Nat.zero_le _) ?_;intro hv' w1 g1 g2 _ g3;obtain ⟨so,cp,rfl⟩:=Gw g1;obtain ⟨r1,r2,r3,r4,r5⟩:=kH _ _ _ g1 g2 g3;rw [HO.out] at r4;clear kH Nv g1 g2 g3;have e2:w1.cell? ⟨p,2,none⟩=some hv:=(A1 r4 _).trans rfl;have e3:w1.cell? ⟨p,3,none⟩=some vv:=(A1 r4 _).trans rfl;have f2:=A4 r4 2;have f3:=A4 r4 3;have NA:=A2 r4;have fc:Wr (One p) w1 (w1.setCell ⟨p,2,none⟩ (.slice so (n+1) cp)):=(Wr.refl _ _).setCell _ _ λ_=>rfl;have JT:∀ o,((w1.setCell ⟨p,2,none⟩ (.slice so (n+1) cp)).alloc o).ownsRow 0 23 1 vv n (vs.map (Value.int .u32)):=λo=>(r1.ahead fc r5 o).values;have kV:=λ(o:Obj) (N3:Value) (w2:World) g1 g2 g3=>r1.Ze (A:=w1.setCell ⟨p,2,none⟩ (.slice so (n+1) cp)) (o:=o) (N3:=N3) (w1:=w2) (x:=v) fc r5 NA g1 g2 g3;have R:=Qw (Qz r2 (Qz r3 r4));clear r1 r2 r3 r4 r5 fc)
   |(at_builtin;refine wpList_append_own_at _ rfl (.tmp 35) (.tmp 37) 74 rfl 0 23 i1 (.int .u32 0) 1 4 underlying74 gi VO VP VQ rfl (by decide) vv n _ rfl (JT _) _ 1 1 [.int .u32 v] rfl rfl (PG _ _ _ _ (nblk_setCell _ _ _).symm) (by simp [Value.oneCell']) eG (by omega) (Nat.zero_le _) ?_;intro N3 w2 g1 g2 _ g3;obtain ⟨sv,cv,rfl⟩:=Gw g1;obtain ⟨s1,s2,s3,s4,s5⟩:=kV _ _ _ g1 g2 g3;rw [A3 R.out.2.2] at s4;clear kV JT g1 g2 g3;have e4:w2.cell? ⟨p,3,none⟩=some vv:=(A1 s4 _).trans rfl;have f4:=A4 s4 3;have T:=Qw (Qz s1 (Qz s2 (Qz s3 (Qz s4 s5))));clear s1 s2 s3 s4 s5))
  go_ret;obtain ⟨s1,s2,s3,s4,s5⟩:=T.out;obtain ⟨r2,r3,_⟩:=R.out;obtain ⟨h,hn,hlv,_⟩:=H.out;exact UH hn hlv hlt r2 r3 s1 s2 s3 s4 s5
 ·have hE:C4 w ⟨p,hv,vv⟩ t (hs++[home]) (vs++[v]) (.int .i64 (n:Nat)) (.returned (.int .i64 (n:Nat))) A:=by
   have hl:(hs++[home]).length=n+1:=by simp [hn]
   refine ⟨rfl,⟨p,hv,vv⟩,rfl,⟨?_,?_,by simp [hlv,hn],MP⟩,Xi.mono λb _ e=> .inl e,Came.refl _ _⟩
   ·show A.heap[p]? =_
    rw [eI,hl]
   ·rw [hl,show min (n+1) 4097=min n 4097 by omega,KU (by omega),KU (by omega)]
    exact hrows.wrote Xi λb hb e=>MP (by cases e;exact hb)
  have HE:=Qw hE;clear h hrows eI Xi hlv hn MP hE c2;subst hA
  go_in
  go_wp2;go_ret;exact HE.out
def O2 (n:Int):Nat:=(min (max n 0) 4097).toNat
def Jv (w:World) (q:Pl) (t:Int) (hs vs:List Int) (home v:Int) (k:Nat) (wr:World):Prop:=
 ∃ q':Pl,q'.p=q.p/\PlanAt wr q' t (hs++List.replicate k home) (vs++List.replicate k v)/\Wr q.F w wr/\Came w q.F q'.F
theorem JX (l:List Int) (k:Nat) (x:Int):l++List.replicate k x++[x]=l++List.replicate (k+1) x:=by
 rw [List.append_assoc,<-List.replicate_succ']
theorem Mn {w wr:World} {q:Pl} {t:Int} {hs vs:List Int} {home v:Int} {k:Nat} (h:Jv w q t hs vs home v k wr) (hL:hs.length+k<=1000000):
  Calls prog 50 #[.pointer (some ⟨q.p,0,none⟩),.int .i64 home,.int .u32 v] wr λe w'=>e= .returned (.int .i64 ((hs.length+k:Nat):Int))/\Jv w q t hs vs home v (k+1) w':=by
 obtain ⟨q',hp,hP,hW,hC⟩:=h;have c:=Ci hP home v (by simpa using hL);rw [hp] at c;refine c.mono ?_;rintro e w' ⟨rfl,q2,hp2,Fk,Ba,Gj⟩;refine ⟨by simp,q2,hp2.trans hp,by rw [<-JX,<-JX];exact Fk,Jk hW Ba hC,hC.trans Gj hW.size⟩
set_option maxRecDepth 100000 in
theorem KJ {w:World} {q:Pl} {t:Int} {hs vs:List Int} (h:PlanAt w q t hs vs) (n home v:Int) (hL:hs.length<=900000):
  Calls prog 55 #[.pointer (some ⟨q.p,0,none⟩),.int .i64 n,.int .i64 home,.int .u32 v] w (C4 w q t (hs++List.replicate (O2 n) home) (vs++List.replicate (O2 n) v) (.int .i64 (hs.length:Nat))):=by
 have c1:=h.cell1;have h0:Jv w q t hs vs home v 0 w:=⟨q,rfl,by simpa using h,Wr.refl _ _,Came.refl _ _⟩
 obtain ⟨K,hK⟩:∃ K,K=O2 n:=⟨_,rfl⟩
 have hn:n<0/\K=0\/(0<=n/\4097<n)/\K=4097\/(0<=n/\n<=4097)/\n=(K:Nat):=by rw [hK];unfold O2;omega
 have Oq:K<=4097:=by rw [hK];unfold O2;omega
 rw [<-hK];clear h hK;obtain ⟨L,dt⟩:∃ L,L=hs.length:=⟨_,rfl⟩
 rw [<-dt] at c1 hL ⊢;have HL:=Qw dt;clear dt;rcases hn with ⟨hn,rfl⟩|⟨hn,rfl⟩|⟨hn,rfl⟩
 ·go_in
  go_wp2;go_loopw [17] (λi wr=>i= .int .i64 0/\Jv w q t hs vs home v 0 wr) (λi _=>0)
  case atStart=>exact ⟨rfl,h0⟩
  case round=>
   obtain ⟨rfl,hR⟩:=hrel;go_wp2;go_ret;obtain ⟨q',hp,hP,hW,hC⟩:=hR;exact ⟨rfl,q',hp,by simpa using hP,hW,hC⟩
 ·go_in
  go_wp2;go_loopw [17] (λi wr=>∃ k:Nat,k<=4097/\i= .int .i64 k/\Jv w q t hs vs home v k wr) (λi _=>4097-(intOf i).toNat)
  case atStart=>exact ⟨0,Nat.zero_le _,rfl,h0⟩
  case round=>
   clear h0;obtain ⟨k,hk,rfl,hR⟩:=hrel;by_cases hlt:k<4097
   ·exact zz31
   ·obtain rfl:k=4097:=by omega
    exact zz6h
 ·go_in
  go_wp2;go_loopw [17] (λi wr=>∃ k:Nat,k<=K/\i= .int .i64 k/\Jv w q t hs vs home v k wr) (λi _=>K-(intOf i).toNat)
  case atStart=>exact ⟨0,Nat.zero_le _,rfl,h0⟩
  case round=>
   clear h0;obtain ⟨k,hk,rfl,hR⟩:=hrel;by_cases hlt:k<K
   ·exact zz31
   ·obtain rfl:k=K:=by omega
    exact zz6h
open _root_.Go.Proofs.Tryz
theorem Tb {w:World} {q:Pl} {t:Int} {hs vs:List Int} (h:PlanAt w q t hs vs) (Q:Value->Int->World->Prop)
  (hc:Calls prog 41 #[.int .i64 t,q.hv,q.vv] w.drew λe w'=>∃ p z,e= .returned (.tuple #[p,.int .i64 z])/\Q p z w'):
  Calls prog 26 #[.pointer (some ⟨q.p,0,none⟩)] w λe w'=>∃ p z,e= .returned (.tuple #[p,.int .i64 z])/\Q p z w':=by
 have c0:=h.cell0;have c2:=h.AY;have c3:=h.AV;obtain ⟨so,cp,aD⟩:=Gw h.rows.homes;obtain ⟨sv,cv,kG⟩:=Gw h.rows.values;rw [aD] at c2 hc;rw [kG] at c3 hc;generalize min hs.length 4097=n at c2 c3 hc;clear h aD kG
 go_in
 go_wp2
 go_region_with (go_at_call 41;with_reducible refine hc.mono ?_;rintro e w1 ⟨pv,z,rfl,hQ⟩)
 all_goals
  go_wp2
  go_ret2
  exact ⟨_,_,rfl,hQ⟩
theorem Qs {w:World} {q:Pl} {t:Int} {hs vs:List Int} (h:PlanAt w q t hs vs):
  ∃ so cp sv cv,q.hv= .slice so (min hs.length 4097) cp/\q.vv= .slice sv (min hs.length 4097) cv/\Ad .i64 w so (min hs.length 4097) (hs.take 4097)/\Ad .u32 w sv (min hs.length 4097) (vs.take 4097):=by
 obtain ⟨so,cp,h1,_,_,h2,_⟩:=KC h.rows.homes;obtain ⟨sv,cv,h3,_,_,h4,_⟩:=KC h.rows.values;exact ⟨so,cp,sv,cv,h1,h3,h2,h4⟩
theorem Ch {w:World} {q:Pl} {n:Nat} {hs vs:List Int} (h:PlanAt w q n hs vs) (wf:∀ j,0<=vs.getD j 0/\vs.getD j 0<4294967296) (n1:1<=n) (n2:n<=64) (hm:hs.length<=4096) (ho:A8 hs=true):
  Calls prog 26 #[.pointer (some ⟨q.p,0,none⟩)] w (Ek w hs (Dq n vs)):=by
 obtain ⟨so,cp,sv,cv,e1,e2,r1,r2⟩:=Qs h;have hl:=h.len;rw [List.take_of_length_le (by omega),Nat.min_eq_left (by omega)] at r1 r2;rw [Nat.min_eq_left (by omega)] at e1 e2;have hW:Wr Nil w w.drew:=(Wr.refl _ _).drew;refine (Tb h (λp z w'=>Ek w hs (Dq n vs) (.returned (.tuple #[p,.int .i64 z])) w') ?_).mono ?_
 ·rw [e1,e2]
  refine (Qu (c1:=cp) (c2:=cv) hW (r1.after hW) (r2.after hW) wf n1 n2 hm ho).mono ?_;rintro e w' ⟨k,rfl,h1,h2,h3,h4⟩;exact ⟨_,_,rfl,k,rfl,h1,h2,h3,h4⟩
 ·rintro e w' ⟨p,z,rfl,hQ⟩
  exact hQ
theorem NY (x:Int) (w:World):Calls prog 67 #[.int .i64 x] w λe w'=>e= .returned (.bool (!FO x))/\w=w':=by
 by_cases h0:x<0
 ·exact zz82
 ·by_cases h8:8<=x
  ·exact zz82
  ·have e:FO x=true:=decide_eq_true (by omega)
   rw [e];clear e;exact zzo
def Ke (b:Bool) (w:World) (e:Ending) (w':World):Prop:=(∃ r:Int,e= .returned (.int .i64 r)/\decide (0<=r)=b)/\w=w'
theorem Sw {w:World} {sa:Option Addr} {n cap:Nat} {hs:List Int} (h:Ad .i64 w sa n hs) (hL:n<=1000000):
  Calls prog 66 #[.slice sa n cap,.func (.func 67) #[] #[]] w (Ke (!A8 hs) w):=by
 have hlen:=h.len;have hat:=h.at;clear h
 go_in
 go_wp2
 go_loop [5,8] (λ_ i=>∃ k:Nat,k<=n/\i= .int .i64 k/\Hid ((hs.take k).all FO=true)) (λ_ i=>n-(intOf i).toNat)
 case atStart=>exact ⟨0,Nat.zero_le _,rfl,Qw (by simp)⟩
 case round=>
  obtain ⟨k,hk,rfl,hok⟩:=hrel;by_cases hlt:k<n
  ·rcases hat with h0|⟨b,o,rfl,hc⟩
   ·omega
   have c0:=hc k hlt;have cx:=NY (hs.getD k 0) w;cases hx:FO (hs.getD k 0)
   ·have hb:Hid (A8 hs=false):=Qw (JP (by omega) hx)
    rw [hx] at cx;clear hok hx;generalize hs.getD k 0=x at c0 cx;clear hc;go_wp2_with fail
    refine cx.mono ?_;rintro e w' ⟨rfl,rfl⟩;clear cx;exact zz5x
   ·have hb:Hid ((hs.take (k+1)).all FO=true):=Qw (Le (by omega) hok.out hx)
    rw [hx] at cx;clear hok hx;generalize hs.getD k 0=x at c0 cx;clear hc;go_wp2_with fail
    refine cx.mono ?_;rintro e w' ⟨rfl,rfl⟩;clear cx;exact zz2j
  ·have hb:Hid (A8 hs=true):=Qw (by have h:=hok.out;rw [List.take_of_length_le (by omega)] at h;exact h)
   exact zz5m
theorem MQ {w:World} {sa:Option Addr} {n cap:Nat} {hs:List Int} (h:Ad .i64 w sa n hs) (hL:n<=1000000):
  Calls prog 68 #[.slice sa n cap,.func (.func 67) #[] #[]] w λe w'=>e= .returned (.bool (!A8 hs))/\w=w':=by
 have c:=Sw (cap:=cap) h hL;clear h;generalize (!A8 hs)=b at*
 go_in
 go_wp2_with (go_at_call 66;with_reducible refine c.mono ?_;intro e w' hq;unfold Ke at hq;obtain ⟨⟨r,rfl,hr⟩,rfl⟩:=hq;have HR:=Qw hr;clear hr)
 go_ret;exact ⟨by rw [<-HR.out];rfl,rfl⟩
theorem EY {w:World} {sa:Option Addr} {n cap:Nat} {hs:List Int} (h:Ad .i64 w sa n hs) (ho:A8 hs=true) (C7 Af:Bool) (n1:1<=n) (n2:n<=64):
  Calls prog 48 #[.slice sa n cap,.bool C7,.bool Af] w (Br w n C7 Af):=by
 have c:=MQ (cap:=cap) h (by omega);have cS:=YQ n C7 Af n1 n2 w;rw [ho] at c;clear h ho
 go_in
 go_wp2_with (first
  |((with_reducible refine c.mono ?_);rintro e w' ⟨rfl,rfl⟩)
  |((with_reducible refine cS.mono ?_);intro e wq hq;unfold Br at hq;obtain ⟨p,sb,rfl,hS,hp,Eg,hW⟩:=hq;have HS:=Qw (Qz hS (Qz hp (Qz Eg hW)));clear hS hp Eg hW))
 go_ret2
 exact ⟨p,sb,rfl,HS.out.1,HS.out.2.1,HS.out.2.2.1,HS.out.2.2.2⟩
end Go.Proofs.YtmnephejhkfchaaGreat


import Derived.Test.YtmnephejhkfchaaGreatPortNew
import Derived.Maps.AppendAt
namespace Go.Proofs.YtmnephejhkfchaaGreat
set_option maxHeartbeats 8000000
open _root_.Go.Proofs.Tryz Go.Deep
open Go.RowKit
set_option linter.unusedVariables false
set_option maxRecDepth 100000
structure TwoAt (w:World) (hv vv:Value) (n m:Nat) (hs vs:List Int):Prop where
 homes:w.ownsRow 0 3 1 hv n (hs.map (Value.int .i64))
 values:w.ownsRow 0 23 1 vv m (vs.map (Value.int .u32))
 apart:∀ k,hv.ownBlock=some k→vv.ownBlock=some k→False
def TF (hv vv:Value) (k:Nat):Prop:=hv.ownBlock=some k∨vv.ownBlock=some k
def PF (p:Nat) (hv vv:Value) (k:Nat):Prop:=k=p∨TF hv vv k
def Came (w:World) (F F':Nat→Prop):Prop:=∀ k,F' k→F k∨w.heap.size≤k
theorem Came.refl (w:World) (F:Nat→Prop):Came w F F:=λ_ h=> .inl h
theorem Came.trans {w w':World} {F F' F'':Nat→Prop} (h:Came w F F') (k:Came w' F' F'') (hs:w.heap.size≤w'.heap.size):Came w F F'':=λb hb=>by
 rcases k b hb with x|x
 ·exact h b x
 ·exact .inr (Nat.le_trans hs x)
namespace TwoAt
variable {w w' A w1:World} {hv vv hv' vv':Value} {n m p:Nat} {hs vs:List Int}
theorem lt (h:TwoAt w hv vv n m hs vs) {k:Nat} (hk:TF hv vv k):k<w.heap.size:=by
 rcases hk with x|x
 ·exact (h.homes.lt k x).2
 ·exact (h.values.lt k x).2
theorem wrote {S:Nat→Prop} (h:TwoAt w hv vv n m hs vs) (k:Wr S w w') (hS:∀ b,TF hv vv b→¬ S b):TwoAt w' hv vv n m hs vs:=
 ⟨ownsRow_keep h.homes λj hj=>k.block j (h.lt (.inl hj)) (hS j (.inl hj)),ownsRow_keep h.values λj hj=>k.block j (h.lt (.inr hj)) (hS j (.inr hj)),h.apart⟩
theorem after (h:TwoAt w hv vv n m hs vs) (k:Wr Nil w w'):TwoAt w' hv vv n m hs vs:=h.wrote k λ_ _=>id
theorem empty (w:World):TwoAt w (.slice none 0 0) (.slice none 0 0) 0 0 [] []:=⟨World.ownsRow_nil _ _ _ _,World.ownsRow_nil _ _ _ _,λ_ h=>by simp [Value.ownBlock] at h⟩
theorem ahead (h:TwoAt w hv vv n m hs vs) (hA:Wr (One p) w A) (hp:¬ TF hv vv p) (o:Obj):TwoAt (A.alloc o) hv vv n m hs vs:=
 (h.wrote hA λb hb e=>hp (by cases e;exact hb)).after ((Wr.refl _ _).alloc _)
theorem grewH (h:TwoAt w hv vv n m hs vs) (hA:Wr (One p) w A) (hp:¬ TF hv vv p) (hlt:p<w.heap.size) {o:Obj} {x:Int}
  (hown:w1.ownsRow 0 3 1 hv' (n+1) (hs.map (Value.int .i64)++[.int .i64 x])) (hg:(A.alloc o).grownBy w1 hv.ownBlock) (hat:hv'.ownBlock=hv.ownBlock∨hv'.ownBlock=some (A.alloc o).heap.size):
  TwoAt w1 hv' vv (n+1) m (hs++[x]) vs∧Wr (PF p hv vv) w w1∧Came w (TF hv vv) (TF hv' vv)∧w1.heap[p]? =A.heap[p]?∧¬ TF hv' vv p:=by
 have hB:=h.ahead hA hp o
 have hsz:w.heap.size<(A.alloc o).heap.size:=by have:=hA.size;rw [nblk_alloc];omega
 have hv1:∀ k,vv.ownBlock=some k→w1.heap[k]? =(A.alloc o).heap[k]? :=λk hk=>hg.block k (hB.lt (.inr hk)) (λe=>h.apart k e.symm hk)
 refine ⟨⟨by simpa using hown,ownsRow_keep hB.values hv1,λk h1 h2=> ?_⟩,?_,λk hk=> ?_,?_,λhk=> ?_⟩
 ·rcases hat with e|e
  ·exact h.apart k (e▸h1) h2
  ·have:=h.lt (.inr h2)
   rw [e] at h1
   have e':(A.alloc o).heap.size=k:=by simpa using h1
   omega
 ·have hW:=((hA.mono (T:=PF p hv vv) λb _ e=> .inl e).alloc o).grown hg λk hk _=> .inr (.inl hk)
  exact hW
 ·rcases hk with x|x
  ·rcases hat with e|e
   ·exact .inl (.inl (e▸x))
   ·rw [e] at x
    have e':(A.alloc o).heap.size=k:=by simpa using x
    exact .inr (by omega)
  ·exact .inl (.inr x)
 ·rw [hg.block p (by rw [nblk_alloc];have:=hA.size;omega) (λe=>hp (.inl e.symm)),blk_alloc_lt _ _ _ (by have:=hA.size;omega)]
 ·rcases hk with x|x
  ·rcases hat with e|e
   ·exact hp (.inl (e▸x))
   ·rw [e] at x
    have e':(A.alloc o).heap.size=p:=by simpa using x
    omega
  ·exact hp (.inr x)
theorem grewV (h:TwoAt w hv vv n m hs vs) (hA:Wr (One p) w A) (hp:¬ TF hv vv p) (hlt:p<w.heap.size) {o:Obj} {x:Int}
  (hown:w1.ownsRow 0 23 1 vv' (m+1) (vs.map (Value.int .u32)++[.int .u32 x])) (hg:(A.alloc o).grownBy w1 vv.ownBlock) (hat:vv'.ownBlock=vv.ownBlock∨vv'.ownBlock=some (A.alloc o).heap.size):
  TwoAt w1 hv vv' n (m+1) hs (vs++[x])∧Wr (PF p hv vv) w w1∧Came w (TF hv vv) (TF hv vv')∧w1.heap[p]? =A.heap[p]?∧¬ TF hv vv' p:=by
 have hB:=h.ahead hA hp o
 have hsz:w.heap.size<(A.alloc o).heap.size:=by have:=hA.size;rw [nblk_alloc];omega
 have hv1:∀ k,hv.ownBlock=some k→w1.heap[k]? =(A.alloc o).heap[k]? :=λk hk=>hg.block k (hB.lt (.inl hk)) (λe=>h.apart k hk e.symm)
 refine ⟨⟨ownsRow_keep hB.homes hv1,by simpa using hown,λk h1 h2=> ?_⟩,?_,λk hk=> ?_,?_,λhk=> ?_⟩
 ·rcases hat with e|e
  ·exact h.apart k h1 (e▸h2)
  ·have:=h.lt (.inl h1)
   rw [e] at h2
   have e':(A.alloc o).heap.size=k:=by simpa using h2
   omega
 ·have hW:=((hA.mono (T:=PF p hv vv) λb _ e=> .inl e).alloc o).grown hg λk hk _=> .inr (.inr hk)
  exact hW
 ·rcases hk with x|x
  ·exact .inl (.inl x)
  ·rcases hat with e|e
   ·exact .inl (.inr (e▸x))
   ·rw [e] at x
    have e':(A.alloc o).heap.size=k:=by simpa using x
    exact .inr (by omega)
 ·rw [hg.block p (by rw [nblk_alloc];have:=hA.size;omega) (λe=>hp (.inr e.symm)),blk_alloc_lt _ _ _ (by have:=hA.size;omega)]
 ·rcases hk with x|x
  ·exact hp (.inl x)
  ·rcases hat with e|e
   ·exact hp (.inr (e▸x))
   ·rw [e] at x
    have e':(A.alloc o).heap.size=p:=by simpa using x
    omega
end TwoAt
structure Pl where
 p:Nat
 hv:Value
 vv:Value
def Pl.F (q:Pl):Nat→Prop:=PF q.p q.hv q.vv
structure PlanAt (w:World) (q:Pl) (t:Int) (hs vs:List Int):Prop where
 obj:w.heap[q.p]? =some (.cells #[.int .i64 t,.int .i64 (hs.length:Nat),q.hv,q.vv] 76 (0,0))
 rows:TwoAt w q.hv q.vv (min hs.length 4097) (min hs.length 4097) (hs.take 4097) (vs.take 4097)
 len:vs.length=hs.length
 low:¬ TF q.hv q.vv q.p
namespace PlanAt
variable {w w':World} {q:Pl} {t:Int} {hs vs:List Int}
theorem lt (h:PlanAt w q t hs vs) {k:Nat} (hk:q.F k):k<w.heap.size:=by
 rcases hk with rfl|x
 ·exact blk_lt h.obj
 ·exact h.rows.lt x
theorem wrote {S:Nat→Prop} (h:PlanAt w q t hs vs) (k:Wr S w w') (hS:∀ b,q.F b→¬ S b):PlanAt w' q t hs vs:=
 ⟨(k.block q.p (blk_lt h.obj) (hS _ (.inl rfl))).trans h.obj,h.rows.wrote k (λb hb=>hS b (.inr hb)),h.len,h.low⟩
theorem after (h:PlanAt w q t hs vs) (k:Wr Nil w w'):PlanAt w' q t hs vs:=h.wrote k λ_ _=>id
theorem cell0 (h:PlanAt w q t hs vs):w.cell? ⟨q.p,0,none⟩=some (.int .i64 t):=by rw [blk_cell h.obj];rfl
theorem cell1 (h:PlanAt w q t hs vs):w.cell? ⟨q.p,1,none⟩=some (.int .i64 (hs.length:Nat)):=by rw [blk_cell h.obj];rfl
theorem cell2 (h:PlanAt w q t hs vs):w.cell? ⟨q.p,2,none⟩=some q.hv:=by rw [blk_cell h.obj];rfl
theorem cell3 (h:PlanAt w q t hs vs):w.cell? ⟨q.p,3,none⟩=some q.vv:=by rw [blk_cell h.obj];rfl
theorem frozen (h:PlanAt w q t hs vs) (k:Nat):w.frozen? ⟨q.p,k,none⟩=false:=blk_frozen h.obj k
end PlanAt
def PlanPost (w:World) (q:Pl) (t:Int) (hs vs:List Int) (r:Value) (e:Ending) (w':World):Prop:=
 e= .returned r∧∃ q':Pl,q'.p=q.p∧PlanAt w' q' t hs vs∧Wr q.F w w'∧Came w q.F q'.F
theorem plnew_any (t:Int) (w:World):
  Calls prog 24 #[.int .i64 t] w λe w'=>∃ q:Pl,e= .returned (.pointer (some ⟨q.p,0,none⟩))∧PlanAt w' q t [] []∧(∀ k,q.F k→w.heap.size≤k)∧Wr Nil w w':=by
 go_enter func24,ntmps24
 go_wp2
 go_ret
 refine ⟨⟨w.heap.size,.slice none 0 0,.slice none 0 0⟩,rfl,⟨?_,TwoAt.empty _,rfl,by simp [TF,Value.ownBlock]⟩,λk hk=> ?_,(Wr.refl _ _).alloc _⟩
 ·exact blk_alloc_new _ _
 ·rcases hk with rfl|x
  ·exact Nat.le_refl _
  ·simp [TF,Value.ownBlock] at x
theorem pllen_any {w:World} {q:Pl} {t:Int} {hs vs:List Int} (h:PlanAt w q t hs vs):
  Calls prog 71 #[.pointer (some ⟨q.p,0,none⟩)] w λe w'=>e= .returned (.int .i64 (hs.length:Nat))∧w'=w:=by
 have c1:=h.cell1
 have H:=Lib.hid h
 clear h
 go_enter func71,ntmps71
 go_wp2
 go_ret
 exact ⟨rfl,rfl⟩
theorem take_same {l:List Int} {x:Int} (h:4097≤l.length):(l++[x]).take 4097=l.take 4097:=List.take_append_of_le_length h
theorem own_form {w:World} {base:Nat} {e:TypeId} {size:Nat} {v:Value} {n:Nat} {xs:List Value} (h:w.ownsRow base e size v n xs):∃ so cap,v= .slice so n cap:=by
 rcases h.2 with ⟨rfl,rfl⟩|⟨g,cap,cur,rfl,_⟩
 ·exact ⟨none,0,rfl⟩
 ·exact ⟨some ⟨g,0,none⟩,cap,rfl⟩
theorem one_new (A:World) (x:Value) (t:TypeId) (b:Nat) (hb:b=A.heap.size):∀ j u,[x][j]? =some u→(A.alloc (.cells #[x] t)).cell? ((⟨b,0,none⟩:Addr).add j)=some u:=by
 subst hb
 exact cell_one_new A x t
theorem came_pf {w:World} {p:Nat} {a b c d:Value} (h:Came w (TF a b) (TF c d)):Came w (PF p a b) (PF p c d):=λk hk=>by
 rcases hk with rfl|x
 ·exact .inl (.inl rfl)
 ·rcases h k x with y|y
  ·exact .inl (.inr y)
  ·exact .inr y
theorem wrote_came {w w1 w2:World} {F F':Nat→Prop} (h:Wr F w w1) (k:Wr F' w1 w2) (c:Came w F F'):Wr F w w2:=
 h.trans k λb hb x=>(c b x).elim id λy=>absurd hb (by omega)
theorem word_end {w w1 w2:World} {p n:Nat} {hv vv hv' vv':Value} {t home v:Int} {hs vs:List Int} (hn:n=hs.length) (hlv:vs.length=n) (hlt:n<4097)
  (r2:Wr (PF p hv vv) w w1) (r3:Came w (TF hv vv) (TF hv' vv)) (s1:TwoAt w2 hv' vv' (n+1) (n+1) (hs++[home]) (vs++[v])) (s2:Wr (PF p hv' vv) w1 w2) (s3:Came w1 (TF hv' vv) (TF hv' vv'))
  (s4:w2.heap[p]? =some (.cells #[.int .i64 t,.int .i64 ((n+1:Nat):Int),hv',vv] 76 (0,0))) (s5:¬ TF hv' vv' p):
  PlanPost w ⟨p,hv,vv⟩ t (hs++[home]) (vs++[v]) (.int .i64 (n:Nat)) (.returned (.int .i64 (n:Nat))) (w2.setCell ⟨p,3,none⟩ vv'):=by
 have hl:(hs++[home]).length=n+1:=by simp [hn]
 refine ⟨rfl,⟨p,hv',vv'⟩,rfl,⟨?_,?_,by simp [hlv,hn],s5⟩,?_,?_⟩
 ·show (w2.setCell ⟨p,3,none⟩ vv').heap[p]? =_
  rw [blk_setCell s4,hl]
  rfl
 ·rw [hl,Nat.min_eq_left (by omega),List.take_of_length_le (by omega),List.take_of_length_le (by simp [hlv];omega)]
  exact s1.wrote (S:=One p) ((Wr.refl _ _).setCell _ _ λ_=>rfl) λb hb e=>s5 (by cases e;exact hb)
 ·exact (wrote_came r2 s2 (came_pf r3)).setCell _ _ λ_=> .inl rfl
 ·exact (came_pf r3).trans (came_pf s3) r2.size
set_option maxRecDepth 100000 in
theorem plword_any {w:World} {q:Pl} {t:Int} {hs vs:List Int} (h:PlanAt w q t hs vs) (home v:Int) (hL:hs.length≤1000000):
  Calls prog 50 #[.pointer (some ⟨q.p,0,none⟩),.int .i64 home,.int .u32 v] w (PlanPost w q t (hs++[home]) (vs++[v]) (.int .i64 (hs.length:Nat))):=by
 obtain ⟨i0,hi,hz0,hz1,hz2⟩:=info_parts info_int
 obtain ⟨i1,gi,gz0,gz1,gz2⟩:=info_parts info_u32
 have hq:q.p<w.heap.size:=blk_lt h.obj
 have c1:=h.cell1
 have c2:=h.cell2
 have f1:=h.frozen 1
 obtain ⟨p,hv,vv⟩:=q
 obtain ⟨n,hn⟩:∃ n,n=hs.length:=⟨_,rfl⟩
 have hlv:vs.length=n:=by rw [h.len,hn]
 rw [←hn] at c1 hL ⊢
 obtain ⟨A,hA⟩:∃ A,A=w.setCell ⟨p,1,none⟩ (.int .i64 ((n:Int)+1)):=⟨_,rfl⟩
 have hWA:Wr (One p) w A:=by rw [hA];exact (Wr.refl _ _).setCell _ _ λ_=>rfl
 have hoA:A.heap[p]? =some (.cells #[.int .i64 t,.int .i64 ((n+1:Nat):Int),hv,vv] 76 (0,0)):=by rw [hA,blk_setCell h.obj];rfl
 have hrows:=h.rows
 have hlow:=h.low
 rw [←hn] at hrows
 simp only at hrows hlow hq c1 c2 f1
 by_cases hlt:n<4097
 ·rw [List.take_of_length_le (by omega),List.take_of_length_le (by omega),Nat.min_eq_left (by omega)] at hrows
  have own1:∀ o,(A.alloc o).ownsRow 0 3 1 hv n (hs.map (Value.int .i64)):=λo=>(hrows.ahead hWA hlow o).homes
  have kH:=λ(o:Obj) (hv':Value) (w1:World) g1 g2 g3=>hrows.grewH (A:=A) (o:=o) (hv':=hv') (w1:=w1) (x:=home) hWA hlow hq g1 g2 g3
  have H:=Lib.hid (And.intro h (And.intro hn (And.intro hlv hWA)))
  have HO:=Lib.hid hoA
  have hml:n+1≤maxLen:=by unfold maxLen;omega
  clear h hrows hoA hWA hlv hn
  subst hA
  go_enter func50,ntmps50
  go_wp2_with (first
   |(at_builtin;refine wpList_append_own_at _ rfl (.tmp 25) (.tmp 27) 22 rfl 0 3 i0 (.int .i64 0) 1 8 underlying22 hi hz0 hz1 hz2 rfl (by decide) hv n _ rfl (own1 _) _ 1 1 [.int .i64 home] rfl rfl (one_new _ _ _ _ (nblk_setCell _ _ _).symm) (by simp [Value.oneCell']) hml (by omega) (Nat.zero_le _) ?_;intro hv' w1 g1 g2 _ g3;obtain ⟨so,cp,rfl⟩:=own_form g1;obtain ⟨r1,r2,r3,r4,r5⟩:=kH _ _ _ g1 g2 g3;rw [HO.out] at r4;clear kH own1 g1 g2 g3;have e2:w1.cell? ⟨p,2,none⟩=some hv:=(blk_cell r4 _).trans rfl;have e3:w1.cell? ⟨p,3,none⟩=some vv:=(blk_cell r4 _).trans rfl;have f2:=blk_frozen r4 2;have f3:=blk_frozen r4 3;have hq1:=blk_lt r4;have hWB:Wr (One p) w1 (w1.setCell ⟨p,2,none⟩ (.slice so (n+1) cp)):=(Wr.refl _ _).setCell _ _ λ_=>rfl;have own2:∀ o,((w1.setCell ⟨p,2,none⟩ (.slice so (n+1) cp)).alloc o).ownsRow 0 23 1 vv n (vs.map (Value.int .u32)):=λo=>(r1.ahead hWB r5 o).values;have kV:=λ(o:Obj) (vv':Value) (w2:World) g1 g2 g3=>r1.grewV (A:=w1.setCell ⟨p,2,none⟩ (.slice so (n+1) cp)) (o:=o) (vv':=vv') (w1:=w2) (x:=v) hWB r5 hq1 g1 g2 g3;have R:=Lib.hid (And.intro r2 (And.intro r3 r4));clear r1 r2 r3 r4 r5 hWB)
   |(at_builtin;refine wpList_append_own_at _ rfl (.tmp 35) (.tmp 37) 74 rfl 0 23 i1 (.int .u32 0) 1 4 underlying74 gi gz0 gz1 gz2 rfl (by decide) vv n _ rfl (own2 _) _ 1 1 [.int .u32 v] rfl rfl (one_new _ _ _ _ (nblk_setCell _ _ _).symm) (by simp [Value.oneCell']) hml (by omega) (Nat.zero_le _) ?_;intro vv' w2 g1 g2 _ g3;obtain ⟨sv,cv,rfl⟩:=own_form g1;obtain ⟨s1,s2,s3,s4,s5⟩:=kV _ _ _ g1 g2 g3;rw [blk_setCell R.out.2.2] at s4;clear kV own2 g1 g2 g3;have e4:w2.cell? ⟨p,3,none⟩=some vv:=(blk_cell s4 _).trans rfl;have f4:=blk_frozen s4 3;have T:=Lib.hid (And.intro s1 (And.intro s2 (And.intro s3 (And.intro s4 s5))));clear s1 s2 s3 s4 s5))
  go_ret
  obtain ⟨s1,s2,s3,s4,s5⟩:=T.out
  obtain ⟨r2,r3,_⟩:=R.out
  obtain ⟨h,hn,hlv,_⟩:=H.out
  exact word_end hn hlv hlt r2 r3 s1 s2 s3 s4 s5
 ·have hE:PlanPost w ⟨p,hv,vv⟩ t (hs++[home]) (vs++[v]) (.int .i64 (n:Nat)) (.returned (.int .i64 (n:Nat))) A:=by
   have hl:(hs++[home]).length=n+1:=by simp [hn]
   refine ⟨rfl,⟨p,hv,vv⟩,rfl,⟨?_,?_,by simp [hlv,hn],hlow⟩,hWA.mono λb _ e=> .inl e,Came.refl _ _⟩
   ·show A.heap[p]? =_
    rw [hoA,hl]
   ·rw [hl,show min (n+1) 4097=min n 4097 by omega,take_same (by omega),take_same (by omega)]
    exact hrows.wrote hWA λb hb e=>hlow (by cases e;exact hb)
  have HE:=Lib.hid hE
  clear h hrows hoA hWA hlv hn hlow hE c2
  subst hA
  go_enter func50,ntmps50
  go_wp2
  go_ret
  exact HE.out
def rowN (n:Int):Nat:=(min (max n 0) 4097).toNat
def RowSt (w:World) (q:Pl) (t:Int) (hs vs:List Int) (home v:Int) (k:Nat) (wr:World):Prop:=
 ∃ q':Pl,q'.p=q.p∧PlanAt wr q' t (hs++List.replicate k home) (vs++List.replicate k v)∧Wr q.F w wr∧Came w q.F q'.F
theorem rep_more (l:List Int) (k:Nat) (x:Int):l++List.replicate k x++[x]=l++List.replicate (k+1) x:=by
 rw [List.append_assoc,←List.replicate_succ']
theorem row_step {w wr:World} {q:Pl} {t:Int} {hs vs:List Int} {home v:Int} {k:Nat} (h:RowSt w q t hs vs home v k wr) (hL:hs.length+k≤1000000):
  Calls prog 50 #[.pointer (some ⟨q.p,0,none⟩),.int .i64 home,.int .u32 v] wr λe w'=>e= .returned (.int .i64 ((hs.length+k:Nat):Int))∧RowSt w q t hs vs home v (k+1) w':=by
 obtain ⟨q',hp,hP,hW,hC⟩:=h
 have c:=plword_any hP home v (by simpa using hL)
 rw [hp] at c
 refine c.mono ?_
 rintro e w' ⟨rfl,q2,hp2,hP2,hW2,hC2⟩
 refine ⟨by simp,q2,hp2.trans hp,by rw [←rep_more,←rep_more];exact hP2,wrote_came hW hW2 hC,hC.trans hC2 hW.size⟩
set_option maxRecDepth 100000 in
theorem plrow_any {w:World} {q:Pl} {t:Int} {hs vs:List Int} (h:PlanAt w q t hs vs) (n home v:Int) (hL:hs.length≤900000):
  Calls prog 55 #[.pointer (some ⟨q.p,0,none⟩),.int .i64 n,.int .i64 home,.int .u32 v] w (PlanPost w q t (hs++List.replicate (rowN n) home) (vs++List.replicate (rowN n) v) (.int .i64 (hs.length:Nat))):=by
 have c1:=h.cell1
 have h0:RowSt w q t hs vs home v 0 w:=⟨q,rfl,by simpa using h,Wr.refl _ _,Came.refl _ _⟩
 obtain ⟨K,hK⟩:∃ K,K=rowN n:=⟨_,rfl⟩
 have hn:n<0∧K=0∨(0≤n∧4097<n)∧K=4097∨(0≤n∧n≤4097)∧n=(K:Nat):=by rw [hK];unfold rowN;omega
 have hK2:K≤4097:=by rw [hK];unfold rowN;omega
 rw [←hK]
 clear h hK
 obtain ⟨L,hLn⟩:∃ L,L=hs.length:=⟨_,rfl⟩
 rw [←hLn] at c1 hL ⊢
 have HL:=Lib.hid hLn
 clear hLn
 rcases hn with ⟨hn,rfl⟩|⟨hn,rfl⟩|⟨hn,rfl⟩
 ·go_enter func55,ntmps55
  go_wp2
  go_loopw [17] (λi wr=>i= .int .i64 0∧RowSt w q t hs vs home v 0 wr) (λi _=>0)
  case atStart=>exact ⟨rfl,h0⟩
  case round=>
   obtain ⟨rfl,hR⟩:=hrel
   go_wp2
   go_ret
   obtain ⟨q',hp,hP,hW,hC⟩:=hR
   exact ⟨rfl,q',hp,by simpa using hP,hW,hC⟩
 ·go_enter func55,ntmps55
  go_wp2
  go_loopw [17] (λi wr=>∃ k:Nat,k≤4097∧i= .int .i64 k∧RowSt w q t hs vs home v k wr) (λi _=>4097-(intOf i).toNat)
  case atStart=>exact ⟨0,Nat.zero_le _,rfl,h0⟩
  case round=>
   clear h0
   obtain ⟨k,hk,rfl,hR⟩:=hrel
   by_cases hlt:k<4097
   ·have c:=row_step hR (by rw [←HL.out];omega)
    clear hR
    go_wp2_with (go_at_call 50;with_reducible refine c.mono ?_;rintro e w3 ⟨rfl,hR3⟩)
    go_roundw
    case rel=>exact ⟨k+1,by omega,by go_num,hR3⟩
    case measure=>simp [intOf];omega
   ·obtain rfl:k=4097:=by omega
    go_wp2
    go_ret
    obtain ⟨q',hp,hP,hW,hC⟩:=hR
    exact ⟨rfl,q',hp,hP,hW,hC⟩
 ·go_enter func55,ntmps55
  go_wp2
  go_loopw [17] (λi wr=>∃ k:Nat,k≤K∧i= .int .i64 k∧RowSt w q t hs vs home v k wr) (λi _=>K-(intOf i).toNat)
  case atStart=>exact ⟨0,Nat.zero_le _,rfl,h0⟩
  case round=>
   clear h0
   obtain ⟨k,hk,rfl,hR⟩:=hrel
   by_cases hlt:k<K
   ·have c:=row_step hR (by rw [←HL.out];omega)
    clear hR
    go_wp2_with (go_at_call 50;with_reducible refine c.mono ?_;rintro e w3 ⟨rfl,hR3⟩)
    go_roundw
    case rel=>exact ⟨k+1,by omega,by go_num,hR3⟩
    case measure=>simp [intOf];omega
   ·obtain rfl:k=K:=by omega
    go_wp2
    go_ret
    obtain ⟨q',hp,hP,hW,hC⟩:=hR
    exact ⟨rfl,q',hp,hP,hW,hC⟩
open _root_.Go.Proofs.Tryz
theorem port_any {w:World} {q:Pl} {t:Int} {hs vs:List Int} (h:PlanAt w q t hs vs) (Q:Value→Int→World→Prop)
  (hc:Calls prog 41 #[.int .i64 t,q.hv,q.vv] w.drew λe w'=>∃ p z,e= .returned (.tuple #[p,.int .i64 z])∧Q p z w'):
  Calls prog 26 #[.pointer (some ⟨q.p,0,none⟩)] w λe w'=>∃ p z,e= .returned (.tuple #[p,.int .i64 z])∧Q p z w':=by
 have c0:=h.cell0
 have c2:=h.cell2
 have c3:=h.cell3
 obtain ⟨so,cp,hso⟩:=own_form h.rows.homes
 obtain ⟨sv,cv,hsv⟩:=own_form h.rows.values
 rw [hso] at c2 hc
 rw [hsv] at c3 hc
 generalize min hs.length 4097=n at c2 c3 hc
 clear h hso hsv
 go_enter func26,ntmps26
 go_wp2
 go_region_with (go_at_call 41;with_reducible refine hc.mono ?_;rintro e w1 ⟨pv,z,rfl,hQ⟩)
 all_goals
  go_wp2
  go_ret2
  exact ⟨_,_,rfl,hQ⟩
theorem plan_rows {w:World} {q:Pl} {t:Int} {hs vs:List Int} (h:PlanAt w q t hs vs):
  ∃ so cp sv cv,q.hv= .slice so (min hs.length 4097) cp∧q.vv= .slice sv (min hs.length 4097) cv∧RowAt .i64 w so (min hs.length 4097) (hs.take 4097)∧RowAt .u32 w sv (min hs.length 4097) (vs.take 4097):=by
 obtain ⟨so,cp,h1,_,_,h2,_⟩:=own_rowAt h.rows.homes
 obtain ⟨sv,cv,h3,_,_,h4,_⟩:=own_rowAt h.rows.values
 exact ⟨so,cp,sv,cv,h1,h3,h2,h4⟩
theorem plport_good {w:World} {q:Pl} {n:Nat} {hs vs:List Int} (h:PlanAt w q n hs vs) (wf:∀ j,0≤vs.getD j 0∧vs.getD j 0<4294967296) (n1:1≤n) (n2:n≤64) (hm:hs.length≤4096) (ho:homesOK hs=true):
  Calls prog 26 #[.pointer (some ⟨q.p,0,none⟩)] w (NewPortPost w hs (newS n vs)):=by
 obtain ⟨so,cp,sv,cv,e1,e2,r1,r2⟩:=plan_rows h
 have hl:=h.len
 rw [List.take_of_length_le (by omega),Nat.min_eq_left (by omega)] at r1 r2
 rw [Nat.min_eq_left (by omega)] at e1 e2
 have hW:Wr Nil w w.drew:=(Wr.refl _ _).drew
 refine (port_any h (λp z w'=>NewPortPost w hs (newS n vs) (.returned (.tuple #[p,.int .i64 z])) w') ?_).mono ?_
 ·rw [e1,e2]
  refine (pnew_good (c1:=cp) (c2:=cv) hW (r1.after hW) (r2.after hW) wf n1 n2 hm ho).mono ?_
  rintro e w' ⟨k,rfl,h1,h2,h3,h4⟩
  exact ⟨_,_,rfl,k,rfl,h1,h2,h3,h4⟩
 ·rintro e w' ⟨p,z,rfl,hQ⟩
  exact hQ
theorem hm_outside (x:Int) (w:World):Calls prog 67 #[.int .i64 x] w λe w'=>e= .returned (.bool (!okH x))∧w=w':=by
 by_cases h0:x<0
 ·have e:okH x=false:=decide_eq_false (by omega)
  rw [e]
  clear e
  go_enter func67,ntmps67
  go_wp2
  go_ret
  exact ⟨rfl,rfl⟩
 ·by_cases h8:8≤x
  ·have e:okH x=false:=decide_eq_false (by omega)
   rw [e]
   clear e
   go_enter func67,ntmps67
   go_wp2
   go_ret
   exact ⟨rfl,rfl⟩
  ·have e:okH x=true:=decide_eq_true (by omega)
   rw [e]
   clear e
   go_enter func67,ntmps67
   go_wp2
   go_ret
   exact ⟨rfl,rfl⟩
def IxPost (b:Bool) (w:World) (e:Ending) (w':World):Prop:=(∃ r:Int,e= .returned (.int .i64 r)∧decide (0≤r)=b)∧w=w'
theorem hm_index {w:World} {sa:Option Addr} {n cap:Nat} {hs:List Int} (h:RowAt .i64 w sa n hs) (hL:n≤1000000):
  Calls prog 66 #[.slice sa n cap,.func (.func 67) #[] #[]] w (IxPost (!homesOK hs) w):=by
 have hlen:=h.len
 have hat:=h.at
 clear h
 go_enter func66,ntmps66
 go_wp2
 go_loop [5,8] (λ_ i=>∃ k:Nat,k≤n∧i= .int .i64 k∧Hid ((hs.take k).all okH=true)) (λ_ i=>n-(intOf i).toNat)
 case atStart=>exact ⟨0,Nat.zero_le _,rfl,Lib.hid (by simp)⟩
 case round=>
  obtain ⟨k,hk,rfl,hok⟩:=hrel
  by_cases hlt:k<n
  ·rcases hat with h0|⟨b,o,rfl,hc⟩
   ·omega
   have c0:=hc k hlt
   have cx:=hm_outside (hs.getD k 0) w
   cases hx:okH (hs.getD k 0)
   ·have hb:Hid (homesOK hs=false):=Lib.hid (ok_bad (by omega) hx)
    rw [hx] at cx
    clear hok hx
    generalize hs.getD k 0=x at c0 cx
    clear hc
    go_wp2_with fail
    refine cx.mono ?_
    rintro e w' ⟨rfl,rfl⟩
    clear cx
    go_wp2
    go_ret
    refine ⟨⟨_,rfl,?_⟩,rfl⟩
    rw [hb.out]
    exact decide_eq_true (by omega)
   ·have hb:Hid ((hs.take (k+1)).all okH=true):=Lib.hid (ok_step (by omega) hok.out hx)
    rw [hx] at cx
    clear hok hx
    generalize hs.getD k 0=x at c0 cx
    clear hc
    go_wp2_with fail
    refine cx.mono ?_
    rintro e w' ⟨rfl,rfl⟩
    clear cx
    go_wp2
    go_round
    case rel=>exact ⟨k+1,by omega,by go_num,hb⟩
    case measure=>simp [intOf];omega
  ·have hb:Hid (homesOK hs=true):=Lib.hid (by have h:=hok.out;rw [List.take_of_length_le (by omega)] at h;exact h)
   obtain rfl:k=n:=by omega
   clear hat hok
   go_wp2
   go_ret
   refine ⟨⟨_,rfl,?_⟩,rfl⟩
   rw [hb.out]
   rfl
theorem hm_contains {w:World} {sa:Option Addr} {n cap:Nat} {hs:List Int} (h:RowAt .i64 w sa n hs) (hL:n≤1000000):
  Calls prog 68 #[.slice sa n cap,.func (.func 67) #[] #[]] w λe w'=>e= .returned (.bool (!homesOK hs))∧w=w':=by
 have c:=hm_index (cap:=cap) h hL
 clear h
 generalize (!homesOK hs)=b at*
 go_enter func68,ntmps68
 go_wp2_with (go_at_call 66;with_reducible refine c.mono ?_;intro e w' hq;unfold IxPost at hq;obtain ⟨⟨r,rfl,hr⟩,rfl⟩:=hq;have HR:=Lib.hid hr;clear hr)
 go_ret
 exact ⟨by rw [←HR.out];rfl,rfl⟩
theorem hm_seats {w:World} {sa:Option Addr} {n cap:Nat} {hs:List Int} (h:RowAt .i64 w sa n hs) (ho:homesOK hs=true) (timed probed:Bool) (n1:1≤n) (n2:n≤64):
  Calls prog 48 #[.slice sa n cap,.bool timed,.bool probed] w (NewSeatPost w n timed probed):=by
 have c:=hm_contains (cap:=cap) h (by omega)
 have cS:=se_new n timed probed n1 n2 w
 rw [ho] at c
 clear h ho
 go_enter func48,ntmps48
 go_wp2_with (first
  |(go_at_call 68;(with_reducible refine c.mono ?_);rintro e w' ⟨rfl,rfl⟩)
  |(go_at_call 69;(with_reducible refine cS.mono ?_);intro e wq hq;unfold NewSeatPost at hq;obtain ⟨p,sb,rfl,hS,hp,hsb,hW⟩:=hq;have HS:=Lib.hid (And.intro hS (And.intro hp (And.intro hsb hW)));clear hS hp hsb hW))
 go_ret2
 exact ⟨p,sb,rfl,HS.out.1,HS.out.2.1,HS.out.2.2.1,HS.out.2.2.2⟩
end Go.Proofs.YtmnephejhkfchaaGreat

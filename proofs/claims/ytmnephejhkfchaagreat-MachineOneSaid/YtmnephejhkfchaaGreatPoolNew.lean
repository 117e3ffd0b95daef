
import Derived.Test.YtmnephejhkfchaaGreatMix
namespace Go.Proofs.YtmnephejhkfchaaGreat
open Go.RowKit
set_option linter.unusedVariables false
structure PS where
 n:Nat
 T:Nat
 own:Nat->Int
 out:Nat->Bool
 row:Nat->List Nat
def MR (id:Nat):Value:= .int .i64 (id:Int)
def Ec (s:PS) (id:Nat):List Value:=[.int .i64 (s.own id),.bool (s.out id)]
def ids (n:Nat):List Nat:=(List.range n).map (·+1)
theorem VZ (n:Nat):(ids n).length=n:=by simp [ids]
theorem Sz {n k:Nat} (h:k<n):(ids n)[k]? =some (k+1):=by simp [ids,List.getElem?_range h]
theorem T3 {n k x:Nat} (h:(ids n)[k]? =some x):k<n/\x=k+1:=by
 have hk:k<n:=by have:=(List.getElem?_eq_some_iff.1 h).1;rwa [VZ] at this
 rw [Sz hk] at h;exact ⟨hk,by simpa using h.symm⟩
theorem Qd (s:PS):∀ x,(Ec s x).length=2:=λ_=>rfl
def PS.setRow (s:PS) (t:Nat) (l:List Nat):PS:={s with row:=upd s.row t l}
def eY (w:World) (F F':Nat->Prop):Prop:=∀ k,F' k->F k\/w.heap.size<=k
structure Pp where
 p:Nat
 nv:Value
 rb:Nat
 rv:Nat->Value
def Pp.nb (q:Pp):Nat:=q.nv.ownBlock.getD 0
def Pp.F (q:Pp) (T:Nat) (k:Nat):Prop:=k=q.p\/k=q.rb\/q.nv.ownBlock=some k\/∃ t,t<T/\(q.rv t).ownBlock=some k
def Pp.Ig (q:Pp) (t:Nat) (v:Value):Pp:={q with rv:=upd q.rv t v}
structure PoolAt (w:World) (q:Pp) (s:PS):Prop where
 obj:w.heap[q.p]? =some (.cells #[q.nv,.slice (some ⟨q.rb,0,none⟩) s.T s.T] 164 (0,0))
 nodes:w.ownsRow 0 166 2 q.nv s.n ((ids s.n).flatMap (Ec s))
 rows:w.rowIs q.rb 22 s.T q.rv
 row:∀ t,t<s.T->w.ownsRow 0 3 1 (q.rv t) (s.row t).length ((s.row t).map MR)
 apart:∀ t u,t<s.T->u<s.T->∀ k,(q.rv t).ownBlock=some k->(q.rv u).ownBlock=some k->t=u
 far:∀ t,t<s.T->∀ k,(q.rv t).ownBlock=some k->k≠q.p/\k≠q.rb/\q.nv.ownBlock≠some k
 low:q.p≠q.rb/\q.nv.ownBlock≠some q.p/\q.nv.ownBlock≠some q.rb
namespace PoolAt
variable {w w' w1:World} {q:Pp} {s:PS}
theorem lt (h:PoolAt w q s) {k:Nat} (hk:q.F s.T k):k<w.heap.size:=by
 rcases hk with rfl|rfl|x|⟨t,ht,x⟩
 ·exact A2 h.obj
 ·exact h.rows.lt
 ·exact (h.nodes.lt k x).2
 ·exact ((h.row t ht).lt k x).2
theorem wrote {S:Nat->Prop} (h:PoolAt w q s) (k:Wr S w w') (hS:∀ b,q.F s.T b->¬ S b):PoolAt w' q s:=
 ⟨(k.block q.p (A2 h.obj) (hS _ (.inl rfl))).trans h.obj,Ak h.nodes λj hj=>k.block j (h.lt (.inr (.inr (.inl hj)))) (hS j (.inr (.inr (.inl hj)))),
   h.rows.of_block (k.block q.rb h.rows.lt (hS _ (.inr (.inl rfl)))),λt ht=>Ak (h.row t ht) λj hj=>k.block j (h.lt (.inr (.inr (.inr ⟨t,ht,hj⟩)))) (hS j (.inr (.inr (.inr ⟨t,ht,hj⟩)))),h.apart,h.far,h.low⟩
theorem after (h:PoolAt w q s) (k:Wr Nil w w'):PoolAt w' q s:=h.wrote k λ_ _=>id
theorem cell0 (h:PoolAt w q s):w.cell? ⟨q.p,0,none⟩=some q.nv:=by rw [A1 h.obj];rfl
theorem cell1 (h:PoolAt w q s):w.cell? ⟨q.p,1,none⟩=some (.slice (some ⟨q.rb,0,none⟩) s.T s.T):=by rw [A1 h.obj];rfl
theorem frozen (h:PoolAt w q s) (k:Nat):w.frozen? ⟨q.p,k,none⟩=false:=A4 h.obj k
theorem XG (h:PoolAt w q s) (hn:0<s.n):∃ cap,q.nv= .slice (some ⟨q.nb,0,none⟩) s.n cap/\s.n<=cap:=by
 rcases h.nodes.2 with ⟨_,h0⟩|⟨g,cap,cur,hv,_,_,hc,_⟩
 ·omega
 ·exact ⟨cap,by rw [hv];simp [Pp.nb,hv,Value.ownBlock],hc⟩
theorem TV (h:PoolAt w q s) (hn:0<s.n):J1 (Ec s) 2 w (some ⟨q.nb,0,none⟩) s.n (ids s.n):=by
 obtain ⟨sa,cap,hv,_,hr,_⟩:=Mf (Qd s) h.nodes (by decide);obtain ⟨cap',hv',_⟩:=h.XG hn;rw [hv'] at hv;simp only [Value.slice.injEq] at hv;rw [hv.1];exact hr
theorem b8 (h:PoolAt w q s) {k:Nat} (hk:k<s.n):w.cell? ⟨q.nb,k*2,none⟩=some (.int .i64 (s.own (k+1))):=by
 have:=(h.TV (by omega)).cell _ rfl k (k+1) (Sz hk) 0 _ rfl;rw [Go.Addr.add_lit] at this;simpa using this
theorem PN (h:PoolAt w q s) {t:Nat} (ht:t<s.T):w.cell? ⟨q.rb,t,none⟩=some (q.rv t):=h.rows.cell ht
theorem ig (h:PoolAt w q s) {t:Nat} (ht:t<s.T):∃ so cap,q.rv t= .slice so (s.row t).length cap/\(so=none->cap=0):=Dt (h.row t ht)
theorem setRow (h:PoolAt w q s) {t:Nat} (ht:t<s.T) {v:Value} {l:List Nat} (hown:w1.ownsRow 0 3 1 v l.length (l.map MR)) (hW:Wr (λk=>(q.rv t).ownBlock=some k) w w1) (hat:∀ k,v.ownBlock=some k->(q.rv t).ownBlock=some k\/w.heap.size<=k):
  PoolAt (w1.setCell ⟨q.rb,t,none⟩ v) (q.Ig t v) (s.setRow t l)/\Wr (q.F s.T) w (w1.setCell ⟨q.rb,t,none⟩ v)/\eY w (q.F s.T) ((q.Ig t v).F s.T):=by
 have lp:=A2 h.obj;have lr:=h.rows.lt;have hB:Wr (One q.rb) w1 (w1.setCell ⟨q.rb,t,none⟩ v):=(Wr.refl _ w1).setCell _ _ λ_=>rfl;have hA:Wr (λk=>k=q.rb\/(q.rv t).ownBlock=some k) w (w1.setCell ⟨q.rb,t,none⟩ v):=(hW.mono λ_ _ e=> .inr e).trans hB λb _ e=> .inl e;have aC:=h.rows.of_block (hW.block q.rb lr (λe=>(h.far t ht _ e).2.1 rfl));have hne:∀ k,v.ownBlock=some k->k≠q.rb/\k≠q.p/\q.nv.ownBlock≠some k:=λk hk=>by
  rcases hat k hk with x|x
  ·have:=h.far t ht k x
   exact ⟨this.2.1,this.1,this.2.2⟩
  ·exact ⟨by omega,by omega,λe=>by have:=(h.nodes.lt k e).2;omega⟩
 refine ⟨⟨?_,?_,?_,λu hu=> ?_,λa b ha hb k h1 h2=> ?_,λu hu k hk=> ?_,h.low⟩,hA.mono λb _ e=> ?_,λk hk=> ?_⟩
 ·exact (hA.block q.p lp (λe=>e.elim h.low.1 (λx=>(h.far t ht _ x).1 rfl))).trans h.obj
 ·exact Ak h.nodes λb hb=>hA.block b (h.nodes.lt b hb).2 (λe=>e.elim (λx=>h.low.2.2 (by rw [<-x];exact hb)) (λx=>(h.far t ht _ x).2.2 hb))
 ·exact aC.set t v
 ·by_cases e:u=t
  ·subst e
   simp only [Pp.Ig,PS.setRow,upd_same];exact Ak hown λb hb=>hB.block b (hown.lt b hb).2 (hne b hb).1
  ·simp only [Pp.Ig,PS.setRow,A0 _ _ e]
   exact Ak (h.row u hu) λb hb=>hA.block b ((h.row u hu).lt b hb).2 (λx=>x.elim (h.far u hu b hb).2.1 (λy=>e (h.apart u t hu ht b hb y)))
 ·have key:∀ c,c<s.T->c≠t->(q.rv c).ownBlock=some k->v.ownBlock≠some k:=λc hc hct e1 e2=>by
   rcases hat k e2 with x|x
   ·exact hct (h.apart c t hc ht k e1 x)
   ·have:=((h.row c hc).lt k e1).2;omega
  by_cases ea:a=t
  ·by_cases eb:b=t
   ·rw [ea,eb]
   ·subst ea
    simp only [Pp.Ig,upd_same,A0 _ _ eb] at h1 h2;exact absurd h1 (key b hb eb h2)
  ·by_cases eb:b=t
   ·subst eb
    simp only [Pp.Ig,upd_same,A0 _ _ ea] at h1 h2;exact absurd h2 (key a ha ea h1)
   ·simp only [Pp.Ig,A0 _ _ ea,A0 _ _ eb] at h1 h2
    exact h.apart a b ha hb k h1 h2
 ·by_cases e:u=t
  ·subst e
   simp only [Pp.Ig,upd_same] at hk;have:=hne k hk;exact ⟨this.2.1,this.1,this.2.2⟩
  ·simp only [Pp.Ig,A0 _ _ e] at hk
   exact h.far u hu k hk
 ·exact e.elim (λx=> .inr (.inl x)) (λx=> .inr (.inr (.inr ⟨t,ht,x⟩)))
 ·rcases hk with x|x|x|⟨u,hu,x⟩
  ·exact .inl (.inl x)
  ·exact .inl (.inr (.inl x))
  ·exact .inl (.inr (.inr (.inl x)))
  ·by_cases e:u=t
   ·subst e
    simp only [Pp.Ig,upd_same] at x;rcases hat k x with y|y
    ·exact .inl (.inr (.inr (.inr ⟨u,hu,y⟩)))
    ·exact .inr y
   ·simp only [Pp.Ig,A0 _ _ e] at x
    exact .inl (.inr (.inr (.inr ⟨u,hu,x⟩)))
end PoolAt
open _root_.Go.Proofs.Tryz
theorem I2:(prog.info? 3).map (λi=>(i.zero,i.size,i.bytes))=some (some (.int .i64 0),1,8):=by kernel_rfl
theorem Nw:(prog.info? 166).map (λi=>(i.zero,i.size,i.bytes))=some (some (.agg #[.int .i64 0,.bool false]),2,16):=by kernel_rfl
theorem Ny {w:World} {q:Pp} {s:PS} (h:PoolAt w q s) (hn:s.n<=1000000) (id:Int) (hi:id<1\/(s.n:Int)<id):
  Calls prog 73 #[.pointer (some ⟨q.p,0,none⟩),.int .i64 id] w λe w'=>e= .returned (.pointer none)/\w=w':=by
 have c0:=h.cell0;obtain ⟨so,cap,hv,_⟩:=Dt h.nodes;rw [hv] at c0;clear h hv;rcases hi with hi|hi
 ·exact zzo
 ·by_cases h1:id<1
  ·exact zzo
  ·exact zzo
theorem WK {w:World} {q:Pp} {s:PS} (h:PoolAt w q s) (hn:s.n<=1000000) (k:Nat) (hk:k<s.n):
  Calls prog 73 #[.pointer (some ⟨q.p,0,none⟩),.int .i64 ((k:Int)+1)] w λe w'=>e= .returned (.pointer (some ⟨q.nb,k*2,none⟩))/\w=w':=by
 have c0:=h.cell0;obtain ⟨cap,hv,_⟩:=h.XG (by omega);rw [hv] at c0;generalize q.nb=b at c0 ⊢;clear h hv;have h1:¬ ((k:Int)+1<1):=by omega
 have h2:¬ ((s.n:Int)<(k:Int)+1):=by omega
 exact zzo
theorem Mi {w:World} {q:Pp} {s:PS} (h:PoolAt w q s) (t:Int):
  Calls prog 192 #[.pointer (some ⟨q.p,0,none⟩),.int .i64 t] w λe w'=>e= .returned (.bool (decide (0<=t/\t<s.T)))/\w=w':=by
 have c1:=h.cell1;clear h;by_cases h0:0<=t
 ·by_cases h1:t<s.T
  ·rw [decide_eq_true (show 0<=t/\t<s.T from ⟨h0,h1⟩)]
   exact zzo
  ·rw [decide_eq_false (show ¬ (0<=t/\t<s.T) from λx=>h1 x.2)]
   exact zzo
 ·rw [decide_eq_false (show ¬ (0<=t/\t<s.T) from λx=>h0 x.1)]
  exact zzo
theorem Ta {w:World} {q:Pp} {s:PS} (h:PoolAt w q s):
  Calls prog 57 #[.pointer (some ⟨q.p,0,none⟩)] w λe w'=>e= .returned (.int .i64 (s.n:Nat))/\w=w':=by
 have c0:=h.cell0;obtain ⟨so,cap,hv,_⟩:=Dt h.nodes;rw [hv] at c0;clear h hv;exact zzo
def bH (s:PS) (id:Int):Int:=if 1<=id/\id<=s.n then s.own id.toNat else-1
theorem bQ {w:World} {q:Pp} {s:PS} (h:PoolAt w q s) (hn:s.n<=1000000) (id:Int):
  Calls prog 58 #[.pointer (some ⟨q.p,0,none⟩),.int .i64 id] w λe w'=>e= .returned (.int .i64 (bH s id))/\w=w':=by
 by_cases hi:1<=id/\id<=s.n
 ·obtain ⟨k,rfl⟩:∃ k:Nat,id=(k:Int)+1:=⟨(id-1).toNat,by omega⟩
  have hk:k<s.n:=by omega
  have c:=WK h hn k hk;have n0:=h.b8 hk;rw [show bH s ((k:Int)+1)=s.own (k+1) from Qj hi];generalize s.own (k+1)=x at n0 ⊢;generalize q.nb=b at c n0;exact zz7q
 ·have c:=Ny h hn id (by omega)
  rw [show bH s id= -1 from Qq hi];exact zz7q
theorem H7 {w:World} {base:Nat} {e:TypeId} {so:Option Addr} {n cap:Nat} {l:List Nat} (h:w.ownsRow base e 1 (.slice so n cap) n (l.map MR)):n=0\/∃ g,so=some ⟨g,0,none⟩/\∀ (k x:Nat),l[k]? =some x->w.cell? ⟨g,k,none⟩=some (.int .i64 (x:Int)):=by
 rcases Nat.eq_zero_or_pos n with h0|h0
 ·exact .inl h0
 ·obtain ⟨g,hg,_,_⟩:=EI h h0
  refine .inr ⟨g,hg,λk x hx=> ?_⟩;have hl:l.length=n:=by have:=h.1;simpa using this
  have hk:k<n:=by rw [<-hl];exact (List.getElem?_eq_some_iff.1 hx).1
  obtain ⟨g',hg',hc,_⟩:=EI h hk;rw [hg] at hg';obtain rfl:g=g':=by simpa using hg'
  rw [hc,List.getElem?_map,hx];rfl
set_option maxHeartbeats 8000000
def PS.Lg (s:PS) (t:Int):List Nat:=if 0<=t/\t<s.T then s.row t.toNat else []
def UU (w:World) (l:List Nat) (e:Ending) (w':World):Prop:=
 ∃ so cap,e= .returned (.slice so l.length cap)/\w'.ownsRow w.heap.size 3 1 (.slice so l.length cap) l.length (l.map MR)/\Wr Nil w w'
theorem Nz {w:World} {q:Pp} {s:PS} (h:PoolAt w q s) (t:Int) (hL:(s.Lg t).length<=1000000):
  Calls prog 189 #[.pointer (some ⟨q.p,0,none⟩),.int .i64 t] w (UU w (s.Lg t)):=by
 have c:=Mi h t;unfold PS.Lg at hL ⊢;by_cases ht:0<=t/\t<s.T
 ·rw [decide_eq_true ht] at c
  rw [Qj ht] at hL ⊢;obtain ⟨t,rfl⟩:=Qx ht.1;rw [Int.toNat_natCast] at hL ⊢;have gP:t<s.T:=by omega
  have c1:=h.cell1;have c3:=h.PN gP;obtain ⟨so,cap,hv,aD⟩:=h.ig gP;have hrow:=h.row t gP;rw [hv] at c3 hrow;obtain ⟨l,hl⟩:∃ l,l=s.row t:=⟨_,rfl⟩
  rw [<-hl] at hL c3 hrow ⊢;obtain ⟨n,hn⟩:∃ n,n=l.length:=⟨_,rfl⟩
  have hmk:=Go.run_make_row' (P:=prog) 22 3 (.int .i64 0) 8 underlying22 I2 rfl .i64 .i64 l.length (by omega) (by omega);have hcs:=H7 hrow;obtain ⟨L,Xg⟩:∃ L,L=l.map MR:=⟨_,rfl⟩
  have Yw:L.length=l.length:=by rw [Xg];simp
  have hp:0<L.length->∃ ad,so=some ad/\∀ (j:Nat) (v:Value),L[j]? =some v->(w.alloc (.cells (madeCells #[.int .i64 0] l.length) 3)).cell? (ad.add j)=some v:=λh0=>by
   rcases hcs with e|⟨g,rfl,hc⟩
   ·omega
   ·refine ⟨_,rfl,λj v hv=> ?_⟩
    rw [Xg,List.getElem?_map,Option.map_eq_some_iff] at hv;obtain ⟨x,hx,rfl⟩:=hv;rw [Go.Addr.add_lit,Nat.zero_add];exact ((Wr.refl Nil w).alloc _).old (hc j x hx)
  have h1:∀ v∈L,v.oneCell'=true:=by
   intro v hv;rw [Xg] at hv;obtain ⟨x,_,rfl⟩:=List.mem_map.1 hv;rfl
  have ht':(t:Int)<(s.T:Int):=by omega
  have NA:q.p<w.heap.size:=A2 h.obj;have D7:q.rb<w.heap.size:=h.rows.lt;have hM:(madeCells #[Value.int .i64 0] l.length).toList.length=l.length:=by simp [madeCells]
  have hg:(w.alloc (.cells (madeCells #[.int .i64 0] l.length) 3)).heap[w.heap.size]? =some (.cells (madeCells #[.int .i64 0] l.length).toList.toArray 3 (0,0)):=by rw [Array.toArray_toList];exact Go.Deep.blk_alloc_new _ _
  have hsz1:(prog.info? 3).map (·.size)=some 1:=by obtain ⟨i0,hi0,_,hz1,_⟩:=info_parts I2;rw [hi0,<-hz1];rfl
  have hB:Below w.heap.size w (w.alloc (.cells (madeCells #[.int .i64 0] l.length) 3)):=(Below.refl _ _).alloc (Nat.le_refl _) _;have HP:=Qw (Qz hp (Qz h1 (Qz Yw (Qz Xg (Qz hM (Qz hg (Qz hsz1 hB)))))));clear h hrow hcs hp h1 Yw Xg hv hl hn hM hg hsz1 hB
  go_in
  go_wp2_with (first
   |(go_at_call 192;with_reducible refine c.mono ?_;rintro e w' ⟨rfl,rfl⟩)
   |(with_reducible refine wpList_copy_splice rfl (.tmp 19) (.tmp 26) 22 22 rfl 3 underlying22 HP.out.2.2.2.2.2.2.1 (some ⟨w.heap.size,0,none⟩) so l.length l.length l.length cap rfl rfl w.heap.size 0 (madeCells #[.int .i64 0] l.length).toList 3 HP.out.2.2.2.2.2.1 L (by rw [HP.out.2.2.1];exact (Nat.min_self _).symm) (λh0=>⟨rfl,HP.out.1 h0⟩) (by rw [HP.out.2.2.1,HP.out.2.2.2.2.1];omega) HP.out.2.1 w.heap.size w HP.out.2.2.2.2.2.2.2 (Nat.le_refl _) ?_;intro w2 hg2 hb2))
  go_ret;obtain ⟨hp,h1,Yw,Xg,hM,_⟩:=HP.out;refine ⟨_,_,rfl,⟨by simp,.inr ⟨w.heap.size,l.length,_,rfl,Nat.le_refl _,hg2.out,Nat.le_refl _,by unfold maxLen;omega,?_,?_⟩⟩,Wr.PC hb2⟩
  ·simp only [List.size_toArray]
   rw [length_splice _ _ _ (by rw [Yw,hM];omega),hM,Nat.mul_one]
  ·rw [Nat.mul_one,<-Xg]
   unfold splice;rw [List.take_zero,List.nil_append,List.drop_of_length_le (by rw [Yw,hM];omega),List.append_nil,<-Yw];exact List.take_length
 ·rw [decide_eq_false ht] at c
  rw [Qq ht] at hL ⊢;clear h
  go_in
  go_wp2_with (go_at_call 192;with_reducible refine c.mono ?_;rintro e w' ⟨rfl,rfl⟩)
  go_ret;exact ⟨none,0,rfl,World.ownsRow_nil _ _ _ _,Wr.refl _ _⟩
theorem Jz {α β:Type} {f g:α->List β}:∀ {l:List α},(∀ x∈l,f x=g x)->l.flatMap f=l.flatMap g
 |[],_=>rfl
 |x::r,h=>by rw [List.flatMap_cons,List.flatMap_cons,h x (by simp),Jz λy hy=>h y (by simp [hy])]
theorem PoolAt.congr {w:World} {q:Pp} {s s':PS} (h:PoolAt w q s) (hn:s'.n=s.n) (hT:s'.T=s.T) (ho:∀ id,1<=id->id<=s.n->s'.own id=s.own id/\s'.out id=s.out id) (hr:∀ t,t<s.T->s'.row t=s.row t):PoolAt w q s':=by
 refine ⟨by rw [hT];exact h.obj,?_,by rw [hT];exact h.rows,λt ht=> ?_,by rw [hT];exact h.apart,by rw [hT];exact h.far,h.low⟩
 ·rw [hn]
  have e:(ids s.n).flatMap (Ec s')=(ids s.n).flatMap (Ec s):=by
   refine Jz λx hx=> ?_;obtain ⟨k,hk⟩:=List.getElem?_of_mem hx;obtain ⟨hk,rfl⟩:=T3 hk;obtain ⟨e1,e2⟩:=ho (k+1) (by omega) (by omega);simp [Ec,e1,e2]
  rw [e];exact h.nodes
 ·rw [hT] at ht
  rw [hr t ht];exact h.row t ht
open _root_.Go.Proofs.Tryz Go.Deep
theorem tk {P:Program} {md:Region.Mode} {ops:Array Oper} {Q:Exit->Act->World->Prop} {S:World->Prop} {i:Nat} {oi:Oper} {v:Value} {fuel:Nat} {listed:Array Bool} {a:Act} {w:World} (hi:ops[i]?=some oi) (hy:∀ w,S w->(execOp a.eval oi).run P w= .ok (.value v) w) (h:wpAnyH P md ops Q S fuel (listed.setIfInBounds i true) (a.put oi.dst v) w) (hs:Region.noSelect ops=true:=by kernel_rfl) (hf:Region.free md ops listed i=true:=by kernel_rfl) (hr:(Region.ready md ops listed).contains i=true:=by kernel_rfl) (hQ:∀ c a w,Q (.panic c) (a.put oi.dst v) w->Q (.panic c) a w:=by exact fun _ _ _ h=>h) (hw:Region.wanted oi (yielded ops a.tmps)=true:=by rfl) (hS:S w:=by assumption):wpAnyH P md ops Q S (fuel+1) listed a w:=wpAnyH_take hi hs hf hr hQ (.inl ⟨hw,hy⟩) hS h
theorem Qp:(prog.info? 22).map (λi=>(i.zero,i.size,i.bytes))=some (some (.slice none 0 0),1,24):=by kernel_rfl
def Jo (T e m:Nat):PS:={n:=m,T:=T,own:=λid=>(((id-1)/e:Nat):Int),out:=λ_=>false,row:=λu=>(List.range (min e (m-u*e))).map λj=>u*e+j+1}
def E6 (T e:Nat):PS:=Jo T e (T*e)
theorem TL {T e t k:Nat} (hk:k<=e):(Jo T e (t*e+k)).row t=(List.range k).map λj=>t*e+j+1:=by
 show (List.range (min e (t*e+k-t*e))).map _=_;rw [show min e (t*e+k-t*e)=k by omega]
theorem Vv {T e t k:Nat} (hk:k<e) (u:Nat):(Jo T e (t*e+k+1)).row u=upd (Jo T e (t*e+k)).row t ((Jo T e (t*e+k)).row t++[t*e+k+1]) u:=by
 by_cases h:u=t
 ·subst h
  rw [upd_same,TL (Nat.le_of_lt hk),show u*e+k+1=u*e+(k+1) by omega,TL (show k+1<=e by omega),List.range_succ,List.map_append];rfl
 ·rw [A0 _ _ h]
  show (List.range (min e (t*e+k+1-u*e))).map _=(List.range (min e (t*e+k-u*e))).map _;have:min e (t*e+k+1-u*e)=min e (t*e+k-u*e):=by
   rcases Nat.lt_or_ge u t with h1|h1
   ·have:=Nat.mul_le_mul_right e (show u+1<=t by omega)
    rw [Nat.succ_mul] at this;omega
   ·have:=Nat.mul_le_mul_right e (show t+1<=u by omega)
    rw [Nat.succ_mul] at this;omega
  rw [this]
theorem Y6 {T e t k:Nat} (hk:k<e):(Jo T e (t*e+k)).own (t*e+k+1)=(t:Int):=by
 show (((t*e+k+1-1)/e:Nat):Int)=_;rw [Nat.add_sub_cancel,Nat.add_comm,Nat.add_mul_div_right _ _ (by omega),Nat.div_eq_of_lt hk,Nat.zero_add]
theorem LZ {T e t:Nat} (ht:t<T):(E6 T e).row t=(List.range e).map λj=>t*e+j+1:=by
 show (List.range (min e (T*e-t*e))).map _=_;have:=Nat.mul_le_mul_right e (show t+1<=T by omega);rw [Nat.succ_mul] at this;rw [show min e (T*e-t*e)=e by omega]
theorem T4 (n:Nat):ids (n+1)=ids n++[n+1]:=by
 unfold ids;rw [List.range_succ,List.map_append];rfl
structure NMk (w:World) (s:PS) (q:Pp) (wr:World):Prop where
 p:q.p=w.heap.size+1
 rb:q.rb=w.heap.size
 DC:PoolAt wr q s
 new:∀ k,q.F s.T k->w.heap.size<=k
 wrote:Wr Nil w wr
namespace NMk
variable {w wr wr' w1:World} {q:Pp} {s s':PS}
theorem after (h:NMk w s q wr) (k:Wr Nil wr wr'):NMk w s q wr':=⟨h.p,h.rb,h.DC.after k,h.new,h.wrote.nil k⟩
theorem congr (h:NMk w s q wr) (hn:s'.n=s.n) (hT:s'.T=s.T) (ho:∀ id,1<=id->id<=s.n->s'.own id=s.own id/\s'.out id=s.out id) (hr:∀ t,t<s.T->s'.row t=s.row t):NMk w s' q wr:=
 ⟨h.p,h.rb,h.DC.congr hn hT ho hr,by rw [hT];exact h.new,h.wrote⟩
theorem setRow (h:NMk w s q wr) {t:Nat} (ht:t<s.T) {v:Value} {l:List Nat} (hown:w1.ownsRow 0 3 1 v l.length (l.map MR)) (hW:Wr (λk=>(q.rv t).ownBlock=some k) wr w1) (hat:∀ k,v.ownBlock=some k->(q.rv t).ownBlock=some k\/wr.heap.size<=k):
  NMk w (s.setRow t l) (q.Ig t v) (w1.setCell ⟨w.heap.size,t,none⟩ v):=by
 obtain ⟨a1,a2,a3⟩:=h.DC.setRow ht hown hW hat;rw [h.rb] at a1 a2;refine ⟨h.p,h.rb,a1,λk hk=> ?_,h.wrote.trans a2 λb hb x=>absurd (h.new b x) (by omega)⟩;rcases a3 k hk with x|x
 ·exact h.new k x
 ·have:=h.wrote.size
  omega
theorem addNode (h:NMk w s q wr) {v:Value} (hown:w1.ownsRow 0 166 2 v (s.n+1) ((ids s.n).flatMap (Ec s)++Ec s (s.n+1))) (hW:Wr (λk=>q.nv.ownBlock=some k) wr w1) (hat:∀ k,v.ownBlock=some k->q.nv.ownBlock=some k\/wr.heap.size<=k):
  NMk w {s with n:=s.n+1} {q with nv:=v} (w1.setCell ⟨w.heap.size+1,0,none⟩ v):=by
 rw [<-h.p];have P:=h.DC;have lp:=A2 P.obj;have lr:=P.rows.lt;have hB:Wr (One q.p) w1 (w1.setCell ⟨q.p,0,none⟩ v):=(Wr.refl _ w1).setCell _ _ λ_=>rfl;have hA:Wr (λk=>k=q.p\/q.nv.ownBlock=some k) wr (w1.setCell ⟨q.p,0,none⟩ v):=(hW.mono λ_ _ e=> .inr e).trans hB λb _ e=> .inl e;have hne:∀ k,v.ownBlock=some k->k≠q.p/\k≠q.rb:=λk hk=>by
  rcases hat k hk with x|x
  ·exact ⟨λe=>P.low.2.1 (by rw [<-e];exact x),λe=>P.low.2.2 (by rw [<-e];exact x)⟩
  ·exact ⟨by omega,by omega⟩
 have gL:w1.heap[q.p]? =wr.heap[q.p]? :=hW.block q.p lp P.low.2.1;have hnew:∀ k,({q with nv:=v}:Pp).F s.T k->w.heap.size<=k:=λk hk=>by
  rcases hk with x|x|x|x
  ·exact h.new k (.inl x)
  ·exact h.new k (.inr (.inl x))
  ·rcases hat k x with y|y
   ·exact h.new k (.inr (.inr (.inl y)))
   ·have:=h.wrote.size
    omega
  ·exact h.new k (.inr (.inr (.inr x)))
 refine ⟨h.p,h.rb,⟨?_,?_,?_,λt ht=> ?_,P.apart,λt ht k hk=>⟨(P.far t ht k hk).1,(P.far t ht k hk).2.1,λe=> ?_⟩,P.low.1,λe=>(hne _ e).1 rfl,λe=>(hne _ e).2 rfl⟩,hnew,h.wrote.trans hA λb hb x=> ?_⟩
 ·show (w1.setCell ⟨q.p,0,none⟩ v).heap[q.p]? =_
  rw [A3 (gL.trans P.obj)];rfl
 ·show (w1.setCell ⟨q.p,0,none⟩ v).ownsRow 0 _ 2 v (s.n+1) ((ids (s.n+1)).flatMap (Ec s))
  rw [T4,List.flatMap_append,show ([s.n+1].flatMap (Ec s))=Ec s (s.n+1) by simp];exact Ak hown λb hb=>hB.block b (hown.lt b hb).2 (hne b hb).1
 ·exact P.rows.of_block (hA.block q.rb lr λe=>e.elim (λx=>P.low.1 x.symm) P.low.2.2)
 ·exact Ak (P.row t ht) λb hb=>hA.block b ((P.row t ht).lt b hb).2 λe=>e.elim (P.far t ht b hb).1 (P.far t ht b hb).2.2
 ·rcases hat k e with x|x
  ·exact (P.far t ht k hk).2.2 x
  ·have:=((P.row t ht).lt k hk).2
   omega
 ·rcases x with x|x
  ·exact absurd (h.new b (.inl x)) (by omega)
  ·exact absurd (h.new b (.inr (.inr (.inl x)))) (by omega)
end NMk
def dh (w:World) (s:PS) (wr:World):Prop:=∃ q,NMk w s q wr
def IG (w:World) (T e:Nat) (en:Ending) (w':World):Prop:=
 ∃ q:Pp,en= .returned (.tuple #[.pointer (some ⟨q.p,0,none⟩),.int .i64 0])/\PoolAt w' q (E6 T e)/\(∀ k,q.F T k->w.heap.size<=k)/\Wr Nil w w'
theorem Qc (w:World) (T e:Nat):NMk w (Jo T e (0*e)) ⟨w.heap.size+1,.slice none 0 0,w.heap.size,λ_=> .slice none 0 0⟩ ((w.alloc (.cells (madeCells #[.slice none 0 0] T) 22)).alloc (.cells #[.slice none 0 0,.slice (some ⟨w.heap.size,0,none⟩) T T] 164)):=by
 have h1:=World.rowIs_made w (.slice none 0 0) T 22;have hs:(w.alloc (.cells (madeCells #[.slice none 0 0] T) 22)).heap.size=w.heap.size+1:=nblk_alloc _ _;have hb:=blk_alloc_new (w.alloc (.cells (madeCells #[.slice none 0 0] T) 22)) (.cells #[.slice none 0 0,.slice (some ⟨w.heap.size,0,none⟩) T T] 164);rw [hs] at hb;have hn:∀ k:Nat,(Value.slice none 0 0).ownBlock≠some k:=λk h=>by simp [Value.ownBlock] at h
 refine ⟨rfl,rfl,⟨hb,?_,h1.of_block (blk_alloc_lt _ _ _ (by rw [hs];omega)),λt ht=> ?_,λt u _ _ k h _=>absurd h (hn k),λt _ k h=>absurd h (hn k),by show w.heap.size+1≠w.heap.size;omega,hn _,hn _⟩,λk hk=> ?_,((Wr.refl Nil w).alloc _).alloc _⟩
 ·show World.ownsRow _ 0 _ 2 _ (0*e) ((ids (0*e)).flatMap _)
  rw [Nat.zero_mul];exact World.ownsRow_nil _ _ _ _
 ·have e0:(Jo T e (0*e)).row t=[]:=by
   show (List.range (min e (0*e-t*e))).map _=_;rw [Nat.zero_mul,Nat.zero_sub,Nat.min_zero];rfl
  rw [e0];exact World.ownsRow_nil _ _ _ _
 ·rcases hk with x|x|x|⟨t,_,x⟩
  ·show w.heap.size<=k
   have x':k=w.heap.size+1:=x;omega
  ·have x':k=w.heap.size:=x
   omega
  ·exact absurd x (hn k)
  ·exact absurd x (hn k)
set_option maxRecDepth 100000 in
theorem YG (T e:Nat) (t1:1<=T) (t2:T<=64) (e1:1<=e) (e2:e<=8) (w:World):
  Calls prog 56 #[.int .i64 (T:Int),.int .i64 (e:Int)] w (IG w T e):=by
 obtain ⟨i0,hi,hz0,hz1,hz2⟩:=info_parts I2;obtain ⟨i1,ji,mG,mH,mI⟩:=info_parts Nw;have hmk:=Go.run_make_row' (P:=prog) 161 22 (.slice none 0 0) 24 underlying161 Qp rfl .i64 .i64 T (by omega) (by omega);have h1:¬ (T:Int)<1:=by omega
 have h2:¬ (64:Int)<T:=by omega
 have h3:¬ (e:Int)<1:=by omega
 have h4:¬ (8:Int)<e:=by omega
 have hm:T*e<=64*8:=Nat.mul_le_mul t2 e2;have HM:=Qw hm;clear hm;have hS:dh w (Jo T e (0*e)) ((w.alloc (.cells (madeCells #[.slice none 0 0] T) 22)).alloc (.cells #[.slice none 0 0,.slice (some ⟨w.heap.size,0,none⟩) T T] 164)):=⟨_,Qc w T e⟩
 go_in
 go_wp2;clear hmk;generalize (w.alloc (.cells (madeCells #[.slice none 0 0] T) 22)).alloc (.cells #[.slice none 0 0,.slice (some ⟨w.heap.size,0,none⟩) T T] 164)=w0 at hS ⊢;go_loopw [27] (λi wr=>∃ t:Nat,t<=T/\i= .int .i64 t/\dh w (Jo T e (t*e)) wr) (λi _=>T-(intOf i).toNat)
 case atStart=>exact ⟨0,Nat.zero_le _,rfl,hS⟩
 case round=>
  clear hS;obtain ⟨t,ht,rfl,hS⟩:=hrel;by_cases hlt:t<T
  ·go_wp2
   go_loopw [31] (λi wr=>∃ k:Nat,k<=e/\i= .int .i64 k/\dh w (Jo T e (t*e+k)) wr) (λi _=>e-(intOf i).toNat)
   case atStart=>exact ⟨0,Nat.zero_le _,rfl,hS⟩
   case round=>
    clear hS;obtain ⟨k,hk,rfl,q,hG⟩:=hrel;by_cases hlk:k<e
    ·have hmm:t*e+k+1<=512:=by
      have:=Nat.mul_le_mul_right e (show t+1<=T by omega);rw [Nat.succ_mul] at this;have:=HM.out;omega
     have jQ:=Qw (Vv (T:=T) (t:=t) hlk);have hown0:=hG.DC.nodes;have hO:=Y6 (T:=T) (t:=t) hlk;have c0:=hG.DC.cell0;have f0:=hG.DC.frozen 0;rw [hG.p] at c0 f0;obtain ⟨m,hm⟩:∃ m,m=t*e+k:=⟨_,rfl⟩
     rw [<-hm] at hG jQ hown0 hO hmm;have gG:(Jo T e m).n=m:=rfl;rw [gG] at hown0;obtain ⟨so,cap,hv,_⟩:=Dt hown0;rw [hv] at c0 hown0;have hA:Wr Nil wr (wr.alloc (.cells #[.int .i64 (t:Int),.bool false] 166)):=(Wr.refl Nil wr).alloc _;have UN:=hG.after hA;have Wy:(wr.alloc (.cells #[.int .i64 (t:Int),.bool false] 166)).ownsRow 0 166 2 (.slice so m cap) m ((ids m).flatMap (Ec (Jo T e m))):=hown0.alloc _;have hnc:Ec (Jo T e m) (m+1)=[.int .i64 (t:Int),.bool false]:=by
      show [Value.int .i64 ((Jo T e m).own (m+1)),Value.bool false]=_;rw [hO]
     have hnews:∀ (j:Nat) (u:Value),[Value.int .i64 (t:Int),.bool false][j]? =some u->(wr.alloc (.cells #[.int .i64 (t:Int),.bool false] 166)).cell? ((⟨wr.heap.size,0,none⟩:Addr).add j)=some u:=λj u hu=>by
      rw [Go.Addr.add_lit,Nat.zero_add,A1 (blk_alloc_new wr _)];have hj:j<2:=(List.getElem?_eq_some_iff.1 hu).1;have:j=0\/j=1:=by omega
      rcases this with rfl|rfl<;>exact hu
     have hone:∀ u∈[Value.int .i64 (t:Int),.bool false],u.oneCell'=true:=by
      intro u hu;simp only [List.mem_cons,List.not_mem_nil,or_false] at hu;rcases hu with rfl|rfl<;>rfl
     have jS:∀ g cp w5,w5.ownsRow 0 166 2 (.slice (some ⟨g,0,none⟩) (m+1) cp) (m+1) ((ids m).flatMap (Ec (Jo T e m))++[.int .i64 (t:Int),.bool false])->(wr.alloc (.cells #[.int .i64 (t:Int),.bool false] 166)).grownBy w5 (Value.slice so m cap).ownBlock->
       ((Value.slice so m cap).ownBlock=some g\/g=(wr.alloc (.cells #[.int .i64 (t:Int),.bool false] 166)).heap.size)->
       w5.cell? ⟨w.heap.size+1,0,none⟩=some (.slice so m cap)/\w5.frozen? ⟨w.heap.size+1,0,none⟩=false/\∃ q2:Pp,q2.nv= .slice (some ⟨g,0,none⟩) (m+1) cp/\NMk w {Jo T e m with n:=m+1} q2 (w5.setCell ⟨w.heap.size+1,0,none⟩ (.slice (some ⟨g,0,none⟩) (m+1) cp)):=λg cp w5 g1 g2 g3=>by
      have lp:=A2 UN.DC.obj;have Io:¬ (Value.slice so m cap).ownBlock=some (w.heap.size+1):=by rw [<-hv,<-hG.p];exact hG.DC.low.2.1
      have hc:=UN.DC.cell0;have hf:=UN.DC.frozen 0;rw [hG.p] at lp hc hf;rw [hv] at hc;refine ⟨g2.cell hc λe=>Io e.symm,?_,⟨q.p,.slice (some ⟨g,0,none⟩) (m+1) cp,q.rb,q.rv⟩,rfl,?_⟩
      ·rw [World.frozen?_of_block (w:=wr.alloc (.cells #[.int .i64 (t:Int),.bool false] 166)) (g2.block _ lp λe=>Io e.symm)]
       exact hf
      ·refine UN.addNode (v:= .slice (some ⟨g,0,none⟩) (m+1) cp) (by rw [gG,hnc];exact g1) (by rw [hv];exact (Wr.refl _ _).grown g2 λb hb _=>hb) λb hb=> ?_
       have hb':g=b:=by simpa [Value.ownBlock] using hb
       subst hb';rw [hv];rcases g3 with x|x
       ·exact .inl x
       ·exact .inr (by omega)
     have jO:=Qw jS;have dc:=Qw (Qz Wy (Qz hnews hone));have Rb:=Qw hm;have HOW:=Qw hO;have eG:m+1<=maxLen:=by unfold maxLen;omega
     clear jS Wy hnews hone UN hA hnc hown0 hv hG hm gG hO;go_upto_region 10 with (at_builtin;refine wpList_append_lies _ (by rfl) (.tmp 37) (.tmp 40) 162 (by rfl) 0 166 i1 (.agg #[.int .i64 0,.bool false]) 2 16 underlying162 ji mG mH mI rfl (by decide) (.slice so m cap) m ((ids m).flatMap (Ec (Jo T e m))) (by rfl) dc.out.1 ⟨wr.heap.size,0,none⟩ 1 1 [.int .i64 (t:Int),.bool false] (by rfl) rfl dc.out.2.1 dc.out.2.2 (by decide) eG (by omega) (Nat.zero_le _) _ rfl ?_;intro g cp w5 g1 g2 g3 g4;obtain ⟨d0,df,hq⟩:=jO.out g cp w5 g1 g2 g3;have HQ:=Qw hq;clear g1 g2 g3 g4 hq)
     generalize w5.setCell ⟨w.heap.size+1,0,none⟩ (.slice (some ⟨g,0,none⟩) (m+1) cp)=W6 at HQ ⊢;clear d0 df jO dc c0 f0;obtain ⟨q2,kF,hG⟩:=HQ.out;clear HQ;have c0:=hG.DC.cell0;have c1:=hG.DC.cell1;rw [hG.p,kF] at c0;rw [hG.p,hG.rb] at c1;have c1:W6.cell? ⟨w.heap.size+1,1,none⟩=some (.slice (some ⟨w.heap.size,0,none⟩) T T):=c1;have c3:=hG.DC.PN (show t<T from hlt);have f3:=hG.DC.rows.frozen t;rw [hG.rb] at c3 f3;have hrow:=hG.DC.row t hlt;obtain ⟨sr,cr,hv,_⟩:=Dt hrow;obtain ⟨L,hL⟩:∃ L,L=(Jo T e m).row t:=⟨_,rfl⟩
     have hrow:W6.ownsRow 0 3 1 (q2.rv t) L.length (L.map MR):=by rw [hL];exact hrow
     have hv:q2.rv t= .slice sr L.length cr:=by rw [hL];exact hv
     obtain ⟨n,hn'⟩:∃ n,n=L.length:=⟨_,rfl⟩
     rw [<-hn'] at hrow hv;rw [hv] at c3 hrow;have hnl:n<=512:=by
      have:L.length<=e:=by rw [hL];show ((List.range _).map _).length<=e;rw [List.length_map,List.length_range];exact Nat.min_le_left _ _
      omega
     have hA:Wr Nil W6 (W6.alloc (.cells #[.int .i64 ((m:Int)+1)] 3)).drew:=((Wr.refl Nil W6).alloc _).drew;have UN:=hG.after hA;have e0:=hA.old c0;have e1:=hA.old c1;have e3:=hA.old c3;have hown:(W6.alloc (.cells #[.int .i64 ((m:Int)+1)] 3)).drew.ownsRow 0 3 1 (.slice sr n cr) n (L.map MR):=hrow.alloc _;have hnews:∀ (j:Nat) (u:Value),[Value.int .i64 ((m:Int)+1)][j]? =some u->(W6.alloc (.cells #[.int .i64 ((m:Int)+1)] 3)).drew.cell? ((⟨W6.heap.size,0,none⟩:Addr).add j)=some u:=λj u hu=>cell_one_new W6 _ _ j u hu;have aA:n+1<=maxLen:=by unfold maxLen;omega
     have ht':(t:Int)<(T:Int):=by omega
     have Su:∀ b,(Value.slice sr n cr).ownBlock=some b->b≠w.heap.size+1/\b≠w.heap.size:=λb hb=>by
      have:=hG.DC.far t hlt b (by rw [hv];exact hb);rw [hG.p,hG.rb] at this;exact ⟨this.1,this.2.1⟩
     have lr:=UN.DC.rows.lt;rw [hG.rb] at lr
     have KF:∀ (g2 Od:Nat) w5,(W6.alloc (.cells #[.int .i64 ((m:Int)+1)] 3)).drew.grownBy w5 (Value.slice sr n cr).ownBlock->
       w5.cell? ⟨w.heap.size+1,1,none⟩=some (.slice (some ⟨w.heap.size,0,none⟩) T T)/\w5.cell? ⟨w.heap.size+1,0,none⟩=some (.slice (some ⟨g,0,none⟩) (m+1) cp)/\w5.cell? ⟨w.heap.size,t,none⟩=some (.slice sr n cr)/\w5.frozen? ⟨w.heap.size,t,none⟩=false:=λg2 Od w5 k2=>by
      refine ⟨k2.cell e1 λe=>(Su _ e.symm).1 rfl,k2.cell e0 λe=>(Su _ e.symm).1 rfl,k2.cell e3 λe=>(Su _ e.symm).2 rfl,?_⟩;rw [World.frozen?_of_block (w:=(W6.alloc (.cells #[.int .i64 ((m:Int)+1)] 3)).drew) (k2.block w.heap.size lr λe=>(Su _ e.symm).2 rfl)];have:=UN.DC.rows.frozen t;rw [hG.rb] at this;exact this
     have KE:∀ g2 Od w5,w5.ownsRow 0 3 1 (.slice (some ⟨g2,0,none⟩) (n+1) Od) (n+1) (L.map MR++[.int .i64 ((m:Int)+1)])->(W6.alloc (.cells #[.int .i64 ((m:Int)+1)] 3)).drew.grownBy w5 (Value.slice sr n cr).ownBlock->
       ((Value.slice sr n cr).ownBlock=some g2\/g2=(W6.alloc (.cells #[.int .i64 ((m:Int)+1)] 3)).drew.heap.size)->
       dh w (Jo T e (t*e+(k+1))) (w5.setCell ⟨w.heap.size,t,none⟩ (.slice (some ⟨g2,0,none⟩) (n+1) Od)):=λg2 Od w5 k1 k2 k3=>by
      have hl:(L++[m+1]).length=n+1:=by simp [hn']
      have gF:(L++[m+1]).map MR=L.map MR++[.int .i64 ((m:Int)+1)]:=by simp [MR]
      have G1:=UN.setRow (t:=t) hlt (v:= .slice (some ⟨g2,0,none⟩) (n+1) Od) (l:=L++[m+1]) (by rw [hl,gF];exact k1) (by rw [hv];exact (Wr.refl _ _).grown k2 λb hb _=>hb) λb hb=>by
       have hb':g2=b:=by simpa [Value.ownBlock] using hb
       subst hb';rw [hv];rcases k3 with x|x
       ·exact .inl x
       ·exact .inr (by omega)
      refine ⟨_,G1.congr (by show t*e+(k+1)=m+1;rw [Rb.out];omega) rfl (λ_ _ _=>⟨rfl,rfl⟩) λu hu=> ?_⟩;show (Jo T e (t*e+(k+1))).row u=upd (Jo T e m).row t (L++[m+1]) u;rw [hL,show t*e+(k+1)=m+1 by rw [Rb.out];omega];exact jQ.out u
     have HN:=Qw (show (⟨w.heap.size,t,none⟩:Addr)≠⟨w.heap.size+1,1,none⟩/\(⟨w.heap.size,t,none⟩:Addr)≠⟨w.heap.size+1,0,none⟩ from ⟨λe=>by simp only [Addr.mk.injEq] at e;omega,λe=>by simp only [Addr.mk.injEq] at e;omega⟩);have HK:=Qw (Qz KF KE);have HO:=Qw (Qz hown hnews);have eX:=Qw (Qz e1 e0);have E3:=Qw (show (W6.alloc (.cells #[.int .i64 ((m:Int)+1)] 3)).cell? ⟨w.heap.size,t,none⟩=some (.slice sr n cr) from e3);clear hG hrow hv KF KE hown hnews UN Su lr hA hL hn' e0 e1 e3 kF;refine wp_region_held_drew (S:=λw'=>w'.cell? ⟨w.heap.size+1,1,none⟩=some (.slice (some ⟨w.heap.size,0,none⟩) T T)/\w'.cell? ⟨w.heap.size+1,0,none⟩=some (.slice (some ⟨g,0,none⟩) (m+1) cp)) (by kernel_rfl) ⟨c1,c0⟩ (λhHeld=> ?_);refine tk (i:=0) (v:= ?v1) rfl ?hy1 ?bZ
     case hy1=>intro w hSw;(try dsimp only at hSw);go_simp;try with_reducible rfl
     (try simp only [Act.put,List.setIfInBounds_toArray])
     refine tk (i:=1) (v:= ?v2) rfl ?hy2 ?bb
     case hy2=>intro w hSw;(try dsimp only at hSw);go_simp;try with_reducible rfl
     (try simp only [Act.put])
     refine tk (i:=2) (v:= ?v3) rfl ?gj ?bf
     case gj=>intro w hSw;(try dsimp only at hSw);go_simp;try with_reducible rfl
     (try simp only [Act.put])
     refine tk (i:=3) (v:= ?v4) rfl ?gm ?bg
     case gm=>intro w hSw;(try dsimp only at hSw);go_simp;try with_reducible rfl
     (try simp only [Act.put])
     refine tk (i:=4) (v:= ?v5) rfl ?gp ?bj
     case gp=>intro w hSw;(try dsimp only at hSw);go_simp;try with_reducible rfl
     (try simp only [Act.put])
     refine tk (i:=5) (v:= ?v6) rfl ?gq ?bl
     case gq=>intro w hSw;(try dsimp only at hSw);go_simp;try with_reducible rfl
     (try simp only [Act.put])
     refine tk (i:=6) (v:= ?v7) rfl ?gu ?bp
     case gu=>intro w hSw;(try dsimp only at hSw);go_simp;try with_reducible rfl
     (try simp only [Act.put])
     refine tk (i:=7) (v:= ?v8) rfl ?gv ?bq
     case gv=>intro w hSw;(try dsimp only at hSw);go_simp;try with_reducible rfl
     (try simp only [Act.put])
     refine tk (i:=8) (v:= ?v9) rfl ?gw ?br
     case gw=>intro w hSw;(try dsimp only at hSw);go_simp;try with_reducible rfl
     (try simp only [Act.put])
     refine tk (i:=9) (v:= ?v10) rfl ?gT ?iN
     case gT=>intro w hSw;(try dsimp only at hSw);go_simp;try with_reducible rfl
     (try simp only [Act.put])
     refine tk (i:=10) (v:= ?v11) rfl ?gU ?iO
     case gU=>intro w hSw;(try dsimp only at hSw);go_simp;try with_reducible rfl
     (try simp only [Act.put])
     refine tk (i:=12) (v:= ?v12) rfl ?gV ?iP
     case gV=>intro w hSw;(try dsimp only at hSw);go_simp;try with_reducible rfl
     (try simp only [Act.put])
     refine tk (i:=13) (v:= ?v13) rfl ?gW ?iR
     case gW=>intro w hSw;(try dsimp only at hSw);go_simp;try with_reducible rfl
     (try simp only [Act.put])
     refine tk (i:=14) (v:= ?v14) rfl ?gX ?iS
     case gX=>intro w hSw;(try dsimp only at hSw);go_simp;try with_reducible rfl
     (try simp only [Act.put])
     refine tk (i:=15) (v:= ?v15) rfl ?gY ?iT
     case gY=>intro w hSw;(try dsimp only at hSw);go_simp;try with_reducible rfl
     (try simp only [Act.put])
     refine tk (i:=16) (v:= ?v16) rfl ?gZ ?iU
     case gZ=>intro w hSw;(try dsimp only at hSw);go_simp;try with_reducible rfl
     (try simp only [Act.put])
     refine wpAnyH_ready (rs:=[11,17]) (by kernel_rfl) (by simp) ?_;refine AllReadyH.cons rfl (λK hK=> ?_) (AllReadyH.cons rfl (λK hK=> ?_) (AllReadyH.nil))
     ·skip
      go_simp;refine hK.out _ _ ⟨c1,c0⟩ (λAj=> ?_);clear hHeld K hK;have hHeld:=Aj;clear Aj
      (try simp only [Act.put,List.setIfInBounds_toArray,List.set_cons_zero,List.set_cons_succ])
      refine wpAnyH_ready (rs:=[17]) (by kernel_rfl) (by simp) ?_;refine AllReadyH.cons rfl (λK hK=> ?_) (AllReadyH.nil);go_simp;refine hK.out _ _ eX.out (λAj=> ?_);clear hHeld K hK;have hHeld:=Aj;clear Aj
      (try simp only [Act.put,List.setIfInBounds_toArray,List.set_cons_zero,List.set_cons_succ])
      refine wpAnyH_ready (rs:=[18]) (by kernel_rfl) (by simp) ?_;refine AllReadyH.cons rfl (λK hK=> ?_) (AllReadyH.nil);refine step_append_lies _ (by rfl) _ _ 22 (by rfl) 0 3 i0 (.int .i64 0) 1 8 underlying22 hi hz0 hz1 hz2 rfl (by decide) (.slice sr n cr) n (L.map MR) (by simp [Act.eval]) HO.out.1 ⟨W6.heap.size,0,none⟩ 1 1 [.int .i64 ((m:Int)+1)] (by simp [Act.eval]) rfl HO.out.2 (by simp [Value.oneCell']) (by decide) aA (by omega) (Nat.zero_le _) _ rfl ?_;intro g2 Od w7 g1 k2 k3 k4;obtain ⟨d1,d2,d3,d4⟩:=HK.out.1 g2 Od w7 k2;have HE:=Qw (HK.out.2 g2 Od w7 g1 k2 k3);clear g1 k2 k3 k4;refine hK.out _ _ ⟨d1,d2⟩ (λAj=> ?_);clear hHeld K hK;have hHeld:=Aj;clear Aj
      (try simp only [Act.put,List.setIfInBounds_toArray])
      refine tk (i:=19) (v:= ?v17) rfl ?gf ?iV
      case gf=>intro w hSw;(try dsimp only at hSw);go_simp;try with_reducible rfl
      (try simp only [Act.put])
      exact zzz
     ·skip
      go_simp;refine hK.out _ _ eX.out (λAj=> ?_);clear hHeld K hK;have hHeld:=Aj;clear Aj
      (try simp only [Act.put,List.setIfInBounds_toArray,List.set_cons_zero,List.set_cons_succ])
      have e3:=E3.out;refine wpAnyH_ready (rs:=[11]) (by kernel_rfl) (by simp) ?_;refine AllReadyH.cons rfl (λK hK=> ?_) (AllReadyH.nil);go_simp;refine hK.out _ _ eX.out (λAj=> ?_);clear hHeld K hK;have hHeld:=Aj;clear Aj
      (try simp only [Act.put,List.setIfInBounds_toArray,List.set_cons_zero,List.set_cons_succ])
      refine wpAnyH_ready (rs:=[18]) (by kernel_rfl) (by simp) ?_;refine AllReadyH.cons rfl (λK hK=> ?_) (AllReadyH.nil);refine step_append_lies _ (by rfl) _ _ 22 (by rfl) 0 3 i0 (.int .i64 0) 1 8 underlying22 hi hz0 hz1 hz2 rfl (by decide) (.slice sr n cr) n (L.map MR) (by simp [Act.eval]) HO.out.1 ⟨W6.heap.size,0,none⟩ 1 1 [.int .i64 ((m:Int)+1)] (by simp [Act.eval]) rfl HO.out.2 (by simp [Value.oneCell']) (by decide) aA (by omega) (Nat.zero_le _) _ rfl ?_;intro g2 Od w7 g1 k2 k3 k4;obtain ⟨d1,d2,d3,d4⟩:=HK.out.1 g2 Od w7 k2;have HE:=Qw (HK.out.2 g2 Od w7 g1 k2 k3);clear g1 k2 k3 k4;refine hK.out _ _ ⟨d1,d2⟩ (λAj=> ?_);clear hHeld K hK;have hHeld:=Aj;clear Aj
      (try simp only [Act.put,List.setIfInBounds_toArray])
      refine tk (i:=19) (v:= ?v18) rfl ?gh ?iX
      case gh=>intro w hSw;(try dsimp only at hSw);go_simp;try with_reducible rfl
      (try simp only [Act.put])
      exact zzz
    ·obtain rfl:k=e:=by omega
     have HG:=Qw hG;clear hG;go_wp2;go_roundw
     case rel=>exact ⟨t+1,by omega,by go_num,q,by rw [Nat.succ_mul];exact HG.out⟩
     case measure=>simp [intOf];omega
  ·obtain rfl:t=T:=by omega
   obtain ⟨q,hG⟩:=hS;have HG:=Qw hG;clear hG;go_wp2
   go_ret2
   exact ⟨q,by rw [HG.out.p];rfl,HG.out.DC,HG.out.new,HG.out.wrote⟩
end Go.Proofs.YtmnephejhkfchaaGreat

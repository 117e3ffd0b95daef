
import Derived.Laws.AppendOwnNone
import Derived.Deep.OwnRows
import Derived.Deep.RegionLaw
import Derived.Deep.QuietTactic
import Derived.Deep.Fields
import Derived.Test.YtcikfcplagelaaaGreatRows
import Derived.WalkLawsBesides
import Derived.Handy
import Derived.Lib.Walk
import Derived.Lib.Hide
namespace Go.Proofs.YtcikfcplagelaaaGreat
open Go.RowKit Go.Deep
set_option linter.unusedVariables false
structure Wr (S:Nat→Prop) (w w':World):Prop where
 os:w'.os=w.os
 tape:w'.tape=w.tape
 output:w'.output=w.output
 size:w.heap.size≤w'.heap.size
 block:∀ k,k<w.heap.size→¬ S k→w'.heap[k]? =w.heap[k]?
def Nil (_:Nat):Prop:=False
def One (b:Nat) (k:Nat):Prop:=k=b
namespace Wr
variable {S T:Nat→Prop} {w w' w'':World}
theorem refl (S:Nat→Prop) (w:World):Wr S w w:=⟨rfl,rfl,rfl,Nat.le_refl _,λ_ _ _=>rfl⟩
theorem trans (h:Wr S w w') (k:Wr T w' w'') (hs:∀ b,b<w.heap.size→T b→S b):Wr S w w'':=
 ⟨k.os.trans h.os,k.tape.trans h.tape,k.output.trans h.output,Nat.le_trans h.size k.size,
   λb hb hn=>(k.block b (Nat.lt_of_lt_of_le hb h.size) (λht=>hn (hs b hb ht))).trans (h.block b hb hn)⟩
theorem mono (h:Wr S w w') (hs:∀ b,b<w.heap.size→S b→T b):Wr T w w':=
 ⟨h.os,h.tape,h.output,h.size,λb hb hn=>h.block b hb (λx=>hn (hs b hb x))⟩
theorem drew (h:Wr S w w'):Wr S w w'.drew:=⟨h.os,h.tape,h.output,h.size,h.block⟩
theorem drewN (h:Wr S w w') (n:Nat):Wr S w (w'.drewN n):=⟨h.os,h.tape,h.output,h.size,h.block⟩
theorem alloc (h:Wr S w w') (o:Obj):Wr S w (w'.alloc o):=
 h.trans (T:=Nil) ⟨rfl,rfl,rfl,by rw [nblk_alloc];omega,λk hk _=>blk_alloc_lt _ _ _ hk⟩ (λ_ _ x=>x.elim)
theorem setCell (h:Wr S w w') (a:Addr) (v:Value) (hs:a.block<w.heap.size→S a.block):Wr S w (w'.setCell a v):=
 h.trans (T:=One a.block) ⟨rfl,rfl,rfl,by rw [nblk_setCell];exact Nat.le_refl _,λk hk hn=>blk_setCell_other _ _ _ _ hn⟩ (λb hb x=>by cases x;exact hs hb)
theorem grown {row:Option Nat} (h:Wr S w w') (hg:w'.grownBy w'' row) (hr:∀ k,row=some k→k<w.heap.size→S k):Wr S w w'':=
 ⟨hg.os.trans h.os,hg.tape.trans h.tape,hg.output.trans h.output,Nat.le_trans h.size hg.size,
   λb hb hn=>(hg.block b (Nat.lt_of_lt_of_le hb h.size) (λe=>hn (hr b e.symm hb))).trans (h.block b hb hn)⟩
theorem below {B:Nat} (h:Wr S w w') (hB:B≤w.heap.size) (hs:∀ b,b<B→¬ S b):Below B w w':=
 ⟨h.os,h.tape,h.output,h.size,λk hk=>h.block k (Nat.lt_of_lt_of_le hk hB) (hs k hk)⟩
theorem ofBelow (h:Below w.heap.size w w'):Wr Nil w w':=⟨h.os,h.tape,h.output,h.size,λk hk _=>h.block k hk⟩
theorem one {b:Nat} (h:Wr Nil w w') (k:Wr (One b) w' w'') (hb:w.heap.size≤b):Wr Nil w w'':=h.trans k λj hj x=>by cases x;omega
theorem nil (h:Wr Nil w w') (k:Wr Nil w' w''):Wr Nil w w'':=h.trans k λ_ _ x=>x
theorem cell (h:Wr S w w') {a:Addr} {v:Value} (hc:w.cell? a=some v) (hs:¬ S a.block):w'.cell? a=some v:=
 (World.cell?_of_block (w:=w) (h.block _ (World.block_lt_of_cell? w _ hc) hs)).trans hc
theorem old (h:Wr Nil w w') {a:Addr} {v:Value} (hc:w.cell? a=some v):w'.cell? a=some v:=h.cell hc id
theorem law (h:Wr Nil w w'):Below w.heap.size w w':=h.below (Nat.le_refl _) λ_ _=>id
end Wr
theorem blk_cell {w:World} {b:Nat} {cs:Array Value} {t:TypeId} (h:w.heap[b]? =some (.cells cs t (0,0))) (i:Nat):w.cell? ⟨b,i,none⟩=cs[i]? :=by simp [World.cell?,h]
theorem blk_frozen {w:World} {b:Nat} {cs:Array Value} {t:TypeId} (h:w.heap[b]? =some (.cells cs t (0,0))) (i:Nat):w.frozen? ⟨b,i,none⟩=false:=by simp [World.frozen?,h]
theorem blk_lt {w:World} {b:Nat} {o:Obj} (h:w.heap[b]? =some o):b<w.heap.size:=(Array.getElem?_eq_some_iff.1 h).1
theorem blk_setCell {w:World} {b:Nat} {cs:Array Value} {t:TypeId} (h:w.heap[b]? =some (.cells cs t (0,0))) (i:Nat) (v:Value):
  (w.setCell ⟨b,i,none⟩ v).heap[b]? =some (.cells (cs.setIfInBounds i v) t (0,0)):=by
 simp [World.setCell,Array.getElem?_modify,h]
theorem ownsRow_keep {w w':World} {base:Nat} {e:TypeId} {size:Nat} {v:Value} {n:Nat} {xs:List Value} (h:w.ownsRow base e size v n xs)
  (hb:∀ k,v.ownBlock=some k→w'.heap[k]? =w.heap[k]?):w'.ownsRow base e size v n xs:=by
 refine ⟨h.1,?_⟩
 rcases h.2 with hn|⟨g,cap,cur,rfl,hbb,hg,rest⟩
 ·exact .inl hn
 ·exact .inr ⟨g,cap,cur,rfl,hbb,(hb g rfl).trans hg,rest⟩
theorem ownsRow_base {w:World} {base base':Nat} {e:TypeId} {size:Nat} {v:Value} {n:Nat} {xs:List Value} (h:w.ownsRow base e size v n xs) (hb:base'≤base):w.ownsRow base' e size v n xs:=by
 refine ⟨h.1,?_⟩
 rcases h.2 with hn|⟨g,cap,cur,rfl,hbb,hg,rest⟩
 ·exact .inl hn
 ·exact .inr ⟨g,cap,cur,rfl,by omega,hg,rest⟩
theorem ownsRow_cell {w:World} {base:Nat} {e:TypeId} {ao:Option Addr} {n cap:Nat} {xs:List Value} (h:w.ownsRow base e 1 (.slice ao n cap) n xs) {i:Nat} (hi:i<n):
  ∃ g,ao=some ⟨g,0,none⟩∧w.cell? ⟨g,i,none⟩=xs[i]?∧w.frozen? ⟨g,i,none⟩=false:=by
 rcases h.2 with ⟨hn,h0⟩|⟨g,cap',cur,hv,hbb,hg,hnc,hcm,hcs,ht⟩
 ·omega
 ·simp only [Value.slice.injEq] at hv
  obtain ⟨rfl,_,rfl⟩:=hv
  refine ⟨g,rfl,?_,by simp [World.frozen?,hg]⟩
  rw [←ht]
  simp [World.cell?,hg,hi]
theorem step_append_fresh {P:Program} {ops:Array Oper} {o:Oper} {a:Act} {w:World} {K:Act→World→Prop} {Q:Exit→Act→World→Prop} {E:Prop}
  (hg:o.guard=none) (s x:Operand) (t:TypeId) (hop:o.op=Op.call {callee:=Callee.builtin Builtin.append,args:= #[s,x],argTypes:= #[t,t]})
  (e:TypeId) (i:TypeInfo) (z:Value) (bytes:Nat) (h1:P.underlying t=some (.slice e)) (h2:P.info? e=some i) (h3:i.zero=some z) (h4:i.size=1) (h5:i.bytes=bytes) (h6:z.cells.size=1)
  (hs:a.eval s= .slice none 0 0) (sa:Option Addr) (m c:Nat) (news:List Value) (hx:a.eval x= .slice sa m c) (hnone:sa=none→m=0) (hn:news.length=m)
  (hc:∀ b,sa=some b→∀ j u,news[j]? =some u→w.cell? (b.add j)=some u) (h1c:∀ u∈news,u.oneCell'=true)
  (b1:m≤maxLen) (b2:m*bytes≤140737488355328)
  (hK:∀ ao cap w',w'.ownsRow w.heap.size e 1 (.slice ao m cap) m news→w.grownBy w' none→K (a.put o.dst (.slice ao m cap)) w'):
  if Region.wanted o (yielded ops a.tmps)=true then Oper.wp P o a w K Q else E:=by
 have hw:Region.wanted o (yielded ops a.tmps)=true:=by simp [Region.wanted,hg]
 rw [if_pos hw]
 have key:∃ ao cap w',(Builtin.append_ #[t,t] o.type #[.slice none 0 0,.slice sa m c]).run P w= .ok (.slice ao m cap) w'∧w'.ownsRow w.heap.size e 1 (.slice ao m cap) m news∧w.grownBy w' none:=by
  cases sa with
  |none=>
   obtain rfl:=hnone rfl
   obtain rfl:news=[]:=List.eq_nil_of_length_eq_zero hn
   refine ⟨none,0,w,?_,World.ownsRow_nil w _ e 1,⟨rfl,rfl,rfl,Nat.le_refl _,λ_ _ _=>rfl⟩⟩
   simp [Builtin.append_,run_underlying h1,sizeOf,typeInfo,h2,Builtin.lenOf,Builtin.firstCells]
  |some b=>
   obtain ⟨v',w',hrun,r1,r2,_⟩:=run_append_own (P:=P) w w.heap.size t o.type e i z 1 bytes h1 h2 h3 h4 h5 h6 (by omega) (.slice none 0 0) 0 [] (World.ownsRow_nil w _ e 1) b m c news (by omega) (hc b rfl) h1c (by omega) (by simpa using b2) (Nat.le_refl _)
   simp only [Nat.zero_add,List.nil_append] at r1
   have hf:∃ ao cap,v'= .slice ao m cap:=by
    rcases r1.2 with ⟨rfl,rfl⟩|⟨g,cap,cur,rfl,_⟩
    ·exact ⟨_,_,rfl⟩
    ·exact ⟨_,_,rfl⟩
   obtain ⟨ao,cap,rfl⟩:=hf
   exact ⟨ao,cap,w',hrun,r1,r2⟩
 obtain ⟨ao,cap,w',hrun,r1,r2⟩:=key
 unfold Oper.wp
 simp [execOp,hop,resolve,invoke,builtin,hs,hx,hrun,Result.andThen]
 exact hK ao cap w' r1 r2
theorem u32_bd {n:Int} (h:(Lit.int .u32 n).wf=true):0≤n∧n<4294967296:=by
 have:=bounds_u32 h;omega
open Go.ChangeShapes Go.WideShapes Go.Deep Go.RowKit
theorem list8 {α:Type} {l:List α} (h:l.length=8):∃ x0 x1 x2 x3 x4 x5 x6 x7,l=[x0,x1,x2,x3,x4,x5,x6,x7]:=by
 match l,h with
 |[x0,x1,x2,x3,x4,x5,x6,x7],_=>exact ⟨x0,x1,x2,x3,x4,x5,x6,x7,rfl⟩
structure RowAt (k:IntKind) (w:World) (sa:Option Addr) (m:Nat) (hs:List Int):Prop where
 len:hs.length=m
 empty:sa=none→m=0
 cell:∀ b,sa=some b→∀ j,j<m→w.cell? (b.add j)=some (.int k (hs.getD j 0))
theorem RowAt.news {k:IntKind} {w:World} {sa:Option Addr} {m:Nat} {hs:List Int} (h:RowAt k w sa m hs):
  ∀ b,sa=some b→∀ j u,(hs.map (Value.int k))[j]? =some u→w.cell? (b.add j)=some u:=by
 intro b hb j u hu
 simp only [List.getElem?_map,Option.map_eq_some_iff] at hu
 obtain ⟨z,hz,rfl⟩:=hu
 have hj:j<hs.length:=(List.getElem?_eq_some_iff.1 hz).1
 rw [h.cell b hb j (by rw [←h.len];exact hj),List.getD_eq_getElem?_getD,hz]
 rfl
theorem RowAt.wrote {k:IntKind} {w w':World} {sa:Option Addr} {m:Nat} {hs:List Int} (h:RowAt k w sa m hs) {S:Nat→Prop} (hw:Wr S w w') (hs':∀ b,sa=some b→¬ S b.block):RowAt k w' sa m hs:=by
 refine ⟨h.len,h.empty,λb hb j hj=> ?_⟩
 have hc:=h.cell b hb j hj
 have hbl:(b.add j).block=b.block:=by unfold Addr.add;split<;>rfl
 have hlt:(b.add j).block<w.heap.size:=World.block_lt_of_cell? w _ hc
 rw [World.cell?_of_block (w:=w) (hw.block _ hlt (by rw [hbl];exact hs' b hb)),hc]
theorem RowAt.after {k:IntKind} {w w':World} {sa:Option Addr} {m:Nat} {hs:List Int} (h:RowAt k w sa m hs) (hw:Wr Nil w w'):RowAt k w' sa m hs:=h.wrote hw λ_ _=>id
theorem spot_of_cell {w:World} {a:Addr} {v:Value} (h:w.cell? a=some v):a=⟨a.block,a.off,none⟩:=by
 obtain ⟨e,n,_,_,hs⟩:=World.shape?_of_cell? h
 cases a
 simp_all
theorem RowAt.at {k:IntKind} {w:World} {sa:Option Addr} {m:Nat} {hs:List Int} (h:RowAt k w sa m hs):
  m=0∨∃ b o,sa=some ⟨b,o,none⟩∧∀ j,j<m→w.cell? ⟨b,o+j,none⟩=some (.int k (hs.getD j 0)):=by
 rcases Nat.eq_zero_or_pos m with h0|h0
 ·exact .inl h0
 ·cases sa with
  |none=>exact .inl (h.empty rfl)
  |some a=>
   have hc:=h.cell a rfl 0 h0
   have ha:a.add 0=a:=by simp [Addr.add]
   rw [ha] at hc
   have hsp:=spot_of_cell hc
   refine .inr ⟨a.block,a.off,by rw [←hsp],λj hj=> ?_⟩
   have hcj:=h.cell a rfl j hj
   rw [hsp,Go.Addr.add_lit] at hcj
   exact hcj
theorem own_row {k:IntKind} {e:TypeId} {w:World} {base:Nat} {v:Value} {n:Nat} {zs:List Int} (h:w.ownsRow base e 1 v n (zs.map (Value.int k))) (hn:0<n):
  ∃ g cap,v= .slice (some ⟨g,0,none⟩) n cap∧n≤cap∧base≤g∧g<w.heap.size∧RowAt k w (some ⟨g,0,none⟩) n zs∧∀ j,w.frozen? ⟨g,j,none⟩=false:=by
 have hl:zs.length=n:=by have:=h.1;simpa using this
 rcases h.2 with ⟨_,h0⟩|⟨g,cap,cur,rfl,hb,hg,hnc,hcm,hcs,ht⟩
 ·omega
 ·refine ⟨g,cap,rfl,hnc,hb,blk_lt hg,⟨hl,(λh=>nomatch h),λa ha j hj=> ?_⟩,λj=>blk_frozen hg j⟩
  obtain rfl:⟨g,0,none⟩=a:=by simpa using ha
  rw [Go.Addr.add_lit,Nat.zero_add,blk_cell hg]
  have h2:(cur.toList.take (n*1))[j]? =(zs.map (Value.int k))[j]? :=by rw [ht]
  rw [List.getElem?_take_of_lt (by omega)] at h2
  rw [←Array.getElem?_toList,h2]
  simp [hl,hj]
theorem own_rowAt {k:IntKind} {e:TypeId} {w:World} {base:Nat} {v:Value} {n:Nat} {zs:List Int} (h:w.ownsRow base e 1 v n (zs.map (Value.int k))):
  ∃ sa cap,v= .slice sa n cap∧(n=0∨n≤cap)∧(sa=none→cap=0)∧RowAt k w sa n zs∧(∀ b,sa=some b→base≤b.block∧b.block<w.heap.size∧b.off=0∧b.spot=none∧∀ j,w.frozen? ⟨b.block,j,none⟩=false):=by
 have hl:zs.length=n:=by have:=h.1;simpa using this
 rcases h.2 with ⟨rfl,rfl⟩|⟨g,cap,cur,rfl,hb,hg,hnc,hcm,hcs,ht⟩
 ·exact ⟨none,0,rfl,.inl rfl,λ_=>rfl,⟨hl,λ_=>rfl,(λb hb=>nomatch hb)⟩,(λb hb=>nomatch hb)⟩
 ·refine ⟨some ⟨g,0,none⟩,cap,rfl,.inr hnc,(λh=>nomatch h),⟨hl,(λh=>nomatch h),λa ha j hj=> ?_⟩,λb hb'=> ?_⟩
  ·obtain rfl:⟨g,0,none⟩=a:=by simpa using ha
   rw [Go.Addr.add_lit,Nat.zero_add,blk_cell hg]
   have h2:(cur.toList.take (n*1))[j]? =(zs.map (Value.int k))[j]? :=by rw [ht]
   rw [List.getElem?_take_of_lt (by omega)] at h2
   rw [←Array.getElem?_toList,h2]
   simp [hl,hj]
  ·obtain rfl:⟨g,0,none⟩=b:=by simpa using hb'
   exact ⟨hb,blk_lt hg,rfl,rfl,λj=>blk_frozen hg j⟩
section
variable {H:Type} {enc:TypeId×Value→H} {P:Program} {w:World} {base:Nat} {spare:Nat→Bool} {held:Bool}
def cellI (w:World) (a:Addr):Int:=match w.cell? a with
 |some v=>intOf v
 |none=>0
theorem open_slice_row {t e:TypeId} {k:IntKind} {sa:Option Addr} {len cap:Nat} {d:DataW H} {p:List MemPlace} (ht:P.underlying t=some (.slice e)) (he:P.underlying e=some (.int k)) (hC:P.cellsOf e=1)
  (h:DataW.Trod enc P w base spare held t (.slice sa len cap) d p):
  (len≤cap∧cap≤maxLen∧(sa=none→cap=0))∧∃ zs,RowAt k w sa len zs∧∀ z∈zs,(Lit.int k z).wf=true:=by
 obtain ⟨fuel,hf⟩:=h
 rcases open_slice ht hf with ⟨h0,_⟩|⟨a,len',cap',m,n,D,Pl,hcs,hb,hl,hm,hmm,hx,hi⟩
 ·simp only [Value.cells,List.cons.injEq,Value.slice.injEq,and_true] at h0
  obtain ⟨rfl,rfl,rfl⟩:=h0
  exact ⟨⟨Nat.le_refl _,by unfold maxLen;omega,λ_=>rfl⟩,[],⟨rfl,λ_=>rfl,(λa ha=>nomatch ha)⟩,λz hz=>nomatch hz⟩
 ·simp only [Value.cells,List.cons.injEq,Value.slice.injEq,and_true] at hcs
  obtain ⟨rfl,rfl,rfl⟩:=hcs
  have key:∀ i,i<len→w.cell? (a.add i)=some (.int k (cellI w (a.add i)))∧(Lit.int k (cellI w (a.add i))).wf=true:=by
   intro i hil
   have hlm:len≤m:=by rw [hmm];split<;>omega
   obtain ⟨cs',hc,ht'⟩:=hi i (by omega)
   rw [hC,Nat.mul_one] at hc
   obtain ⟨_,hcl,hat⟩:=World.cells?_some hc
   obtain ⟨z,rfl,_,hwf⟩:=DataW.trod_int he ht'
   have hcell:=hat 0 (by omega)
   rw [Go.Deep.add_add] at hcell
   have hcell:w.cell? (a.add i)=some (.int k z):=hcell
   have hZ:cellI w (a.add i)=z:=by unfold cellI;rw [hcell];rfl
   rw [hZ]
   exact ⟨hcell,hwf⟩
  refine ⟨⟨hl,hm,(λh=>nomatch h)⟩,(List.range len).map λi=>cellI w (a.add i),⟨by simp,(λh=>nomatch h),λa' ha i him=> ?_⟩,λz hz=> ?_⟩
  ·obtain rfl:a=a':=by simpa using ha
   simp only [List.getD_eq_getElem?_getD,List.getElem?_map,List.getElem?_range him,Option.map_some,Option.getD_some]
   exact (key i him).1
  ·simp only [List.mem_map,List.mem_range] at hz
   obtain ⟨i,hil,rfl⟩:=hz
   exact (key i hil).2
end
structure RecsAt {α:Type} (f:α→List Value) (s:Nat) (w:World) (sa:Option Addr) (n:Nat) (D:List α):Prop where
 len:D.length=n
 empty:sa=none→n=0
 cell:∀ b,sa=some b→∀ (k:Nat) (x:α),D[k]? =some x→∀ (j:Nat) (u:Value),(f x)[j]? =some u→w.cell? (b.add (k*s+j))=some u
section
variable {α:Type} {f:α→List Value} {s:Nat}
theorem flat_len (hf:∀ x,(f x).length=s) (D:List α):(D.flatMap f).length=D.length*s:=by
 induction D with
 |nil=>simp
 |cons x r ih=>simp [hf,ih,Nat.succ_mul,Nat.add_comm]
theorem flat_at' (hf:∀ x,(f x).length=s) (D:List α) {k:Nat} {x:α} (hx:D[k]? =some x) {j:Nat} (hj:j<s):(D.flatMap f)[k*s+j]? =(f x)[j]? :=by
 induction D generalizing k with
 |nil=>simp at hx
 |cons y r ih=>
  rw [List.flatMap_cons]
  cases k with
  |zero=>
   obtain rfl:y=x:=by simpa using hx
   rw [Nat.zero_mul,Nat.zero_add,List.getElem?_append_left (by rw [hf];exact hj)]
  |succ k=>
   rw [List.getElem?_append_right (by rw [hf,Nat.succ_mul];omega),hf,show (k+1)*s+j-s=k*s+j by rw [Nat.succ_mul];omega]
   exact ih (by simpa using hx)
theorem own_recs {w:World} {base:Nat} {e:TypeId} {v:Value} {n:Nat} {D:List α} (hf:∀ x,(f x).length=s) (h:w.ownsRow base e s v n (D.flatMap f)) (hs:0<s):
  ∃ sa cap,v= .slice sa n cap∧(sa=none→cap=0)∧RecsAt f s w sa n D∧(∀ b,sa=some b→base≤b.block∧b.block<w.heap.size∧b.off=0∧b.spot=none):=by
 have hl:D.length=n:=by
  have h1:=h.1
  rw [flat_len hf] at h1
  exact Nat.eq_of_mul_eq_mul_right hs h1
 rcases h.2 with ⟨rfl,rfl⟩|⟨g,cap,cur,rfl,hb,hg,hnc,hcm,hcs,ht⟩
 ·exact ⟨none,0,rfl,λ_=>rfl,⟨hl,λ_=>rfl,(λb hb=>nomatch hb)⟩,(λb hb=>nomatch hb)⟩
 ·refine ⟨some ⟨g,0,none⟩,cap,rfl,(λh=>nomatch h),⟨hl,(λh=>nomatch h),λa ha k x hx j u hu=> ?_⟩,λb hb'=> ?_⟩
  ·obtain rfl:⟨g,0,none⟩=a:=by simpa using ha
   have hj:j<s:=by rw [←hf x];exact (List.getElem?_eq_some_iff.1 hu).1
   have hk:k<n:=by rw [←hl];exact (List.getElem?_eq_some_iff.1 hx).1
   have hlt:k*s+j<n*s:=Nat.lt_of_lt_of_le (by rw [Nat.succ_mul];omega:k*s+j<(k+1)*s) (Nat.mul_le_mul_right s hk)
   rw [Go.Addr.add_lit,Nat.zero_add,blk_cell hg]
   have h2:=flat_at' hf D hx hj
   rw [hu,←ht,List.getElem?_take_of_lt hlt] at h2
   rw [←Array.getElem?_toList]
   exact h2
  ·obtain rfl:⟨g,0,none⟩=b:=by simpa using hb'
   exact ⟨hb,blk_lt hg,rfl,rfl⟩
end
def upd {α:Type} (f:Nat→α) (i:Nat) (x:α) (j:Nat):α:=if j=i then x else f j
theorem upd_same {α:Type} (f:Nat→α) (i:Nat) (x:α):upd f i x i=x:=if_pos rfl
theorem upd_other {α:Type} (f:Nat→α) {i j:Nat} (x:α) (h:j≠i):upd f i x j=f j:=if_neg h
theorem flat_set {α:Type} {f f':α→List Value} {s:Nat} (hf:∀ x,(f x).length=s) (hf':∀ x,(f' x).length=s) (D:List α) (k j:Nat) (hj:j<s) (v:Value)
  (h:∀ i x,D[i]? =some x→∀ l,l<s→(f' x)[l]? =if i=k∧l=j then some v else (f x)[l]?):(D.flatMap f).set (k*s+j) v=D.flatMap f':=by
 apply List.ext_getElem?
 intro m
 have hs:0<s:=by omega
 by_cases hm:m<D.length*s
 ·have ha:m/s<D.length:=Nat.div_lt_of_lt_mul (by rw [Nat.mul_comm];exact hm)
  have hb:m%s<s:=Nat.mod_lt _ hs
  have hx:D[m/s]? =some (D[m/s]'ha):=List.getElem?_eq_getElem ha
  have e:m=m/s*s+m%s:=by rw [Nat.mul_comm];exact (Nat.div_add_mod m s).symm
  have h1:=flat_at' hf D hx hb
  have h2:=flat_at' hf' D hx hb
  rw [←e] at h1 h2
  rw [h2,h _ _ hx _ hb,List.getElem?_set]
  by_cases hk:m/s=k∧m%s=j
  ·rw [if_pos hk,if_pos (by rw [←hk.1,←hk.2];exact e.symm),if_pos (by rw [flat_len hf];rw [←hk.1,←hk.2,←e];exact hm)]
  ·rw [if_neg hk,if_neg (λe2=>hk ?_),h1]
   rw [←e2]
   constructor
   ·rw [Nat.add_comm,Nat.add_mul_div_right _ _ hs,Nat.div_eq_of_lt hj,Nat.zero_add]
   ·rw [Nat.add_comm,Nat.add_mul_mod_self_right,Nat.mod_eq_of_lt hj]
 ·rw [List.getElem?_eq_none (by rw [List.length_set,flat_len hf];omega),List.getElem?_eq_none (by rw [flat_len hf'];omega)]
theorem own_slice {w:World} {base:Nat} {e:TypeId} {size:Nat} {v:Value} {n:Nat} {xs:List Value} (h:w.ownsRow base e size v n xs):∃ so cap,v= .slice so n cap∧(so=none→cap=0):=by
 rcases h.2 with ⟨rfl,rfl⟩|⟨g,cap,cur,rfl,_⟩
 ·exact ⟨none,0,rfl,λ_=>rfl⟩
 ·exact ⟨some ⟨g,0,none⟩,cap,rfl,λh=>nomatch h⟩
open Go.RowKit
set_option maxRecDepth 100000
structure SS where
 n:Nat
 timed:Bool
 probed:Bool
 st:Nat→Int
 dl:Nat→Int
def newSeat (n:Nat) (timed probed:Bool):SS:=⟨n,timed,probed,λ_=>0,λ_=>0⟩
def ctxC (s:SS) (t:Nat):List Value:=[.int .i64 (s.st t),.int .i64 (s.dl t)]
theorem ctxC_len (s:SS):∀ x,(ctxC s x).length=2:=λ_=>rfl
def ctxs (s:SS):List Value:=(List.range s.n).flatMap (ctxC s)
theorem ctxs_len (s:SS):(ctxs s).length=s.n*2:=by unfold ctxs;rw [flat_len (ctxC_len s),List.length_range]
theorem ctxs_at (s:SS) {k:Nat} (hk:k<s.n) {j:Nat} (hj:j<2):(ctxs s)[k*2+j]? =(ctxC s k)[j]? :=flat_at' (ctxC_len s) _ (by rw [List.getElem?_range hk]) hj
structure SeatAt (w:World) (p b:Nat) (s:SS):Prop where
 obj:w.heap[p]? =some (.cells #[.slice (some ⟨b,0,none⟩) s.n s.n,.bool s.timed,.bool s.probed] 260 (0,0))
 ctx:w.heap[b]? =some (.cells (ctxs s).toArray 310 (0,0))
 ne:p≠b
 n1:1≤s.n
 n2:s.n≤64
namespace SeatAt
variable {w w':World} {p b:Nat} {s:SS}
theorem wrote {S:Nat→Prop} (h:SeatAt w p b s) (k:Wr S w w') (hp:¬ S p) (hb:¬ S b):SeatAt w' p b s:=
 ⟨(k.block p (blk_lt h.obj) hp).trans h.obj,(k.block b (blk_lt h.ctx) hb).trans h.ctx,h.ne,h.n1,h.n2⟩
theorem after (h:SeatAt w p b s) (k:Wr Nil w w'):SeatAt w' p b s:=h.wrote k id id
theorem cell0 (h:SeatAt w p b s):w.cell? ⟨p,0,none⟩=some (.slice (some ⟨b,0,none⟩) s.n s.n):=by rw [blk_cell h.obj];rfl
end SeatAt
open _root_.Go.Proofs.Tryz
theorem se_len {w:World} {p b:Nat} {s:SS} (h:SeatAt w p b s):
  Calls prog 188 #[.pointer (some ⟨p,0,none⟩)] w λe w'=>e= .returned (.int .i64 (s.n:Nat))∧w=w':=by
 have c0:=h.cell0
 clear h
 go_enter func188,ntmps188
 go_wp2
 go_ret
 exact ⟨rfl,rfl⟩
open _root_.Go.Proofs.Tryz Go.Deep
theorem sinfo_ctx:(prog.info? 310).map (λi=>(i.zero,i.size,i.bytes))=some (some (.agg #[.int .i64 0,.int .i64 0]),2,16):=by kernel_rfl
def NewSeatPost (w:World) (n:Nat) (timed probed:Bool) (e:Ending) (w':World):Prop:=
 ∃ p b,e= .returned (.tuple #[.pointer (some ⟨p,0,none⟩),.int .i64 0])∧SeatAt w' p b (newSeat n timed probed)∧w.heap.size≤p∧w.heap.size≤b∧Wr Nil w w'
theorem se_new_no (n:Int) (timed probed:Bool) (h:n<1∨64<n) (w:World):
  Calls prog 104 #[.int .i64 n,.bool timed,.bool probed] w λe w'=>e= .returned (.tuple #[.pointer none,.int .i64 1])∧w=w':=by
 by_cases h1:n<1
 ·go_enter func104,ntmps104
  go_wp2
  go_ret2
  exact ⟨rfl,rfl⟩
 have h2:64<n:=by omega
 go_enter func104,ntmps104
 go_wp2
 go_ret2
 exact ⟨rfl,rfl⟩
theorem made_ctx (n:Nat) (timed probed:Bool):madeCells (Value.agg #[.int .i64 0,.int .i64 0]).cells (n*2)=(ctxs (newSeat n timed probed)).toArray:=by
 apply Array.ext'
 show (madeCells (#[.int .i64 0,.int .i64 0]:Array Value) (n*2)).toList=ctxs (newSeat n timed probed)
 apply List.ext_getElem?
 intro m
 by_cases hm:m<n*2
 ·have ha:m/2<n:=by omega
  have e:m=m/2*2+m%2:=by omega
  have h2:=ctxs_at (newSeat n timed probed) (k:=m/2) ha (j:=m%2) (Nat.mod_lt _ (by decide))
  rw [←e] at h2
  rw [h2]
  unfold madeCells
  rw [Array.toList_map,List.getElem?_map,Array.toList_range,List.getElem?_range hm]
  have:m%2=0∨m%2=1:=by omega
  rcases this with h|h<;>simp [h,ctxC,newSeat]
 ·rw [List.getElem?_eq_none (by simp [madeCells];omega),List.getElem?_eq_none (by rw [ctxs_len];show n*2≤m;omega)]
theorem se_new (n:Nat) (timed probed:Bool) (h1:1≤n) (h2:n≤64) (w:World):
  Calls prog 104 #[.int .i64 (n:Int),.bool timed,.bool probed] w (NewSeatPost w n timed probed):=by
 obtain ⟨i0,hi,hz0,hz1,hz2⟩:=info_parts sinfo_ctx
 have hmk:∀ w:World,(Instr.makeSlice 258 (.int .i64 (n:Int)) (.int .i64 (n:Int))).run prog w= .ok (.slice (some ⟨w.heap.size,0,none⟩) n n) (w.alloc (.cells (ctxs (newSeat n timed probed)).toArray 310)):=by
  intro w
  have h:=Go.run_make (P:=prog) w 258 310 i0 _ underlying258 hi hz0 .i64 .i64 n n (by omega) (by omega) (by rw [hz2];omega) (by omega)
  rw [hz1] at h
  simp only [Int.toNat_natCast] at h
  rw [made_ctx n timed probed] at h
  exact h
 have k1:¬ (n:Int)<1:=by omega
 have k2:¬ (64:Int)<n:=by omega
 generalize hA:(ctxs (newSeat n timed probed)).toArray=A at hmk
 have HA:=Lib.hid hA
 clear hA
 go_enter func104,ntmps104
 go_wp2
 go_ret2
 obtain rfl:=HA.out
 have hs:(w.alloc (.cells (ctxs (newSeat n timed probed)).toArray 310)).heap.size=w.heap.size+1:=nblk_alloc _ _
 have hb:=blk_alloc_new (w.alloc (.cells (ctxs (newSeat n timed probed)).toArray 310)) (.cells #[.slice (some ⟨w.heap.size,0,none⟩) n n,.bool timed,.bool probed] 260)
 rw [hs] at hb
 refine ⟨w.heap.size+1,w.heap.size,rfl,⟨hb,?_,by omega,h1,h2⟩,by omega,Nat.le_refl _,((Wr.refl Nil w).alloc _).alloc _⟩
 rw [blk_alloc_lt _ _ _ (by rw [hs];omega),blk_alloc_new]
structure Grow (e:TypeId) (s:Nat) (w0:World) (base:Nat) (w:World) (n:Nat) (xs:List Value) (dv:Value):Prop where
 own:w.ownsRow base e s dv n xs
 wrote:Wr Nil w0 w
 size:base≤w.heap.size
 low:w0.heap.size≤base
namespace Grow
variable {e:TypeId} {s:Nat} {w0:World} {base:Nat} {w w':World} {n:Nat} {xs:List Value} {dv:Value}
theorem lt (h:Grow e s w0 base w n xs dv):∀ k,dv.ownBlock=some k→base≤k∧k<w.heap.size:=λk hk=>h.own.lt k hk
theorem after (h:Grow e s w0 base w n xs dv) (k:Wr Nil w w'):Grow e s w0 base w' n xs dv:=
 ⟨ownsRow_keep h.own (λj hj=>k.block j (h.lt j hj).2 id),h.wrote.nil k,Nat.le_trans h.size k.size,h.low⟩
theorem more (h:Grow e s w0 base w n xs dv) {m:Nat} {news:List Value} {v':Value} (ho:w'.ownsRow base e s v' (n+m) (xs++news)) (hg:w.grownBy w' dv.ownBlock):Grow e s w0 base w' (n+m) (xs++news) v':=
 ⟨ho,h.wrote.grown hg (λk hk hl=>by have:=(h.lt k hk).1;have:=h.low;omega),Nat.le_trans h.size hg.size,h.low⟩
end Grow
section
variable {H:Type} {enc:TypeId×Value→H} {P:Program} {w:World} {base:Nat} {spare:Nat→Bool} {held:Bool}
theorem open_struct_fields {r:Reach} {b0:Nat} {e:TypeId} {fs:Array Field} {m:Nat} {v:Value} {d:DataW H} {p:List MemPlace} (he:P.underlying e=some (.struct fs)) (hone:oneCellFields P fs=true) (hC:P.cellsOf e=m)
  (hv:Value.okWide P w r b0 e v) (h:DataW.Trod enc P w base spare held e v d p):
  ∃ cs:List Value,v= .agg cs.toArray∧cs.length=m∧∀ (j:Nat) (f:Field) (c:Value),fs[j]? =some f→cs[j]? =some c→∃ (n:Nat) (y:DataW H×List MemPlace),DataW.trod enc P w base spare held n f.type [c]=some y:=by
 obtain ⟨⟨cs⟩,rfl,hsz⟩:=okWide_struct he hv
 have hl:cs.length=m:=by rw [←hC,←hsz];rfl
 obtain ⟨fuel,hf⟩:=h
 obtain ⟨ys,n,_,_,hlen,hyl,hg⟩:=DataW.trod_struct he (by simpa [Value.cells] using hf)
 refine ⟨cs,rfl,hl,λj f c hj hc=> ?_⟩
 obtain ⟨ho,hk⟩:=hone_of hone j f hj
 have h1:=hg j f hj
 have hjl:j<cs.length:=(List.getElem?_eq_some_iff.1 hc).1
 have hjy:j<ys.length:=by rw [hyl];exact (Array.getElem?_eq_some_iff.1 hj).1
 have e1:cs[j]=c:=(List.getElem?_eq_some_iff.1 hc).2
 have h2:(cs.drop j).take 1=[c]:=by rw [List.drop_eq_getElem_cons hjl,e1];rfl
 rw [ho,hk,h2,List.getElem?_eq_getElem hjy] at h1
 exact ⟨n,_,h1⟩
theorem fld_int {t:TypeId} {k:IntKind} {n:Nat} {c:Value} {y:DataW H×List MemPlace} (ht:P.underlying t=some (.int k)) (h:DataW.trod enc P w base spare held n t [c]=some y):∃ a,c= .int k a∧(Lit.int k a).wf=true:=by
 obtain ⟨z,hz,_,hw⟩:=DataW.trod_int ht h
 exact ⟨z,by simpa using hz,hw⟩
theorem fld_slice {t e:TypeId} {n:Nat} {c:Value} {y:DataW H×List MemPlace} (ht:P.underlying t=some (.slice e)) (h:DataW.trod enc P w base spare held n t [c]=some y):
  ∃ sa len cap,c= .slice sa len cap∧DataW.Trod enc P w base spare held t (.slice sa len cap) y.1 y.2:=by
 have key:∃ sa len cap,c= .slice sa len cap:=by
  rcases open_slice ht h with ⟨h0,_⟩|⟨a,len,cap,m,n,D,Pl,hcs,_⟩
  ·exact ⟨none,0,0,by simpa using h0⟩
  ·exact ⟨some a,len,cap,by simpa using hcs⟩
 obtain ⟨sa,len,cap,rfl⟩:=key
 exact ⟨sa,len,cap,rfl,n,by simpa [Value.cells] using h⟩
end
end Go.Proofs.YtcikfcplagelaaaGreat

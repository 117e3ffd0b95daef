
import Derived.Test.YtmnephejhkfchaaGreatZz
import Derived.Test.YtmnephejhkfchaaGreatRows
namespace Go.Proofs.YtmnephejhkfchaaGreat
open Go.RowKit Go.Deep
set_option linter.unusedVariables false
theorem Qq {c:Prop} {_:Decidable c} (h:¬c) {α:Sort _} {t e:α}:ite c t e=e:=if_neg h
theorem Qj {c:Prop} {_:Decidable c} (h:c) {α:Sort _} {t e:α}:ite c t e=t:=if_pos h
theorem Qz {a b:Prop} (x:a) (y:b):a/\b:=⟨x,y⟩
theorem Qx {a:Int} (h:0<=a):∃ n:Nat,a=n:=Int.eq_ofNat_of_zero_le h
theorem Qw {p:Prop} (h:p):Go.RowKit.Hid p:=Lib.hid h
structure Wr (S:Nat->Prop) (w w':World):Prop where
 os:w'.os=w.os
 tape:w'.tape=w.tape
 output:w'.output=w.output
 size:w.heap.size<=w'.heap.size
 block:∀ k,k<w.heap.size->¬ S k->w'.heap[k]? =w.heap[k]?
def Nil (_:Nat):Prop:=False
def One (b:Nat) (k:Nat):Prop:=k=b
namespace Wr
variable {S T:Nat->Prop} {w w' w'':World}
theorem refl (S:Nat->Prop) (w:World):Wr S w w:=⟨rfl,rfl,rfl,Nat.le_refl _,λ_ _ _=>rfl⟩
theorem trans (h:Wr S w w') (k:Wr T w' w'') (hs:∀ b,b<w.heap.size->T b->S b):Wr S w w'':=
 ⟨k.os.trans h.os,k.tape.trans h.tape,k.output.trans h.output,Nat.le_trans h.size k.size,
   λb hb hn=>(k.block b (Nat.lt_of_lt_of_le hb h.size) (λht=>hn (hs b hb ht))).trans (h.block b hb hn)⟩
theorem mono (h:Wr S w w') (hs:∀ b,b<w.heap.size->S b->T b):Wr T w w':=
 ⟨h.os,h.tape,h.output,h.size,λb hb hn=>h.block b hb (λx=>hn (hs b hb x))⟩
theorem drew (h:Wr S w w'):Wr S w w'.drew:=⟨h.os,h.tape,h.output,h.size,h.block⟩
theorem drewN (h:Wr S w w') (n:Nat):Wr S w (w'.drewN n):=⟨h.os,h.tape,h.output,h.size,h.block⟩
theorem alloc (h:Wr S w w') (o:Obj):Wr S w (w'.alloc o):=
 h.trans (T:=Nil) ⟨rfl,rfl,rfl,by rw [nblk_alloc];omega,λk hk _=>blk_alloc_lt _ _ _ hk⟩ (λ_ _ x=>x.elim)
theorem setCell (h:Wr S w w') (a:Addr) (v:Value) (hs:a.block<w.heap.size->S a.block):Wr S w (w'.setCell a v):=
 h.trans (T:=One a.block) ⟨rfl,rfl,rfl,by rw [nblk_setCell];exact Nat.le_refl _,λk hk hn=>blk_setCell_other _ _ _ _ hn⟩ (λb hb x=>by cases x;exact hs hb)
theorem grown {row:Option Nat} (h:Wr S w w') (hg:w'.grownBy w'' row) (hr:∀ k,row=some k->k<w.heap.size->S k):Wr S w w'':=
 ⟨hg.os.trans h.os,hg.tape.trans h.tape,hg.output.trans h.output,Nat.le_trans h.size hg.size,
   λb hb hn=>(hg.block b (Nat.lt_of_lt_of_le hb h.size) (λe=>hn (hr b e.symm hb))).trans (h.block b hb hn)⟩
theorem below {B:Nat} (h:Wr S w w') (hB:B<=w.heap.size) (hs:∀ b,b<B->¬ S b):Below B w w':=
 ⟨h.os,h.tape,h.output,h.size,λk hk=>h.block k (Nat.lt_of_lt_of_le hk hB) (hs k hk)⟩
theorem PC (h:Below w.heap.size w w'):Wr Nil w w':=⟨h.os,h.tape,h.output,h.size,λk hk _=>h.block k hk⟩
theorem one {b:Nat} (h:Wr Nil w w') (k:Wr (One b) w' w'') (hb:w.heap.size<=b):Wr Nil w w'':=h.trans k λj hj x=>by cases x;omega
theorem nil (h:Wr Nil w w') (k:Wr Nil w' w''):Wr Nil w w'':=h.trans k λ_ _ x=>x
theorem cell (h:Wr S w w') {a:Addr} {v:Value} (hc:w.cell? a=some v) (hs:¬ S a.block):w'.cell? a=some v:=
 (World.cell?_of_block (w:=w) (h.block _ (World.block_lt_of_cell? w _ hc) hs)).trans hc
theorem old (h:Wr Nil w w') {a:Addr} {v:Value} (hc:w.cell? a=some v):w'.cell? a=some v:=h.cell hc id
theorem law (h:Wr Nil w w'):Below w.heap.size w w':=h.below (Nat.le_refl _) λ_ _=>id
end Wr
theorem A1 {w:World} {b:Nat} {cs:Array Value} {t:TypeId} (h:w.heap[b]? =some (.cells cs t (0,0))) (i:Nat):w.cell? ⟨b,i,none⟩=cs[i]? :=by simp [World.cell?,h]
theorem A4 {w:World} {b:Nat} {cs:Array Value} {t:TypeId} (h:w.heap[b]? =some (.cells cs t (0,0))) (i:Nat):w.frozen? ⟨b,i,none⟩=false:=by simp [World.frozen?,h]
theorem A2 {w:World} {b:Nat} {o:Obj} (h:w.heap[b]? =some o):b<w.heap.size:=(Array.getElem?_eq_some_iff.1 h).1
theorem A3 {w:World} {b:Nat} {cs:Array Value} {t:TypeId} (h:w.heap[b]? =some (.cells cs t (0,0))) (i:Nat) (v:Value):
  (w.setCell ⟨b,i,none⟩ v).heap[b]? =some (.cells (cs.setIfInBounds i v) t (0,0)):=by
 simp [World.setCell,Array.getElem?_modify,h]
theorem Ak {w w':World} {base:Nat} {e:TypeId} {size:Nat} {v:Value} {n:Nat} {xs:List Value} (h:w.ownsRow base e size v n xs)
  (hb:∀ k,v.ownBlock=some k->w'.heap[k]? =w.heap[k]?):w'.ownsRow base e size v n xs:=by
 refine ⟨h.1,?_⟩;rcases h.2 with hn|⟨g,cap,cur,rfl,hbb,hg,rest⟩
 ·exact .inl hn
 ·exact .inr ⟨g,cap,cur,rfl,hbb,(hb g rfl).trans hg,rest⟩
theorem Gx {w:World} {base base':Nat} {e:TypeId} {size:Nat} {v:Value} {n:Nat} {xs:List Value} (h:w.ownsRow base e size v n xs) (hb:base'<=base):w.ownsRow base' e size v n xs:=by
 refine ⟨h.1,?_⟩;rcases h.2 with hn|⟨g,cap,cur,rfl,hbb,hg,rest⟩
 ·exact .inl hn
 ·exact .inr ⟨g,cap,cur,rfl,by omega,hg,rest⟩
theorem EI {w:World} {base:Nat} {e:TypeId} {ao:Option Addr} {n cap:Nat} {xs:List Value} (h:w.ownsRow base e 1 (.slice ao n cap) n xs) {i:Nat} (hi:i<n):
  ∃ g,ao=some ⟨g,0,none⟩/\w.cell? ⟨g,i,none⟩=xs[i]?/\w.frozen? ⟨g,i,none⟩=false:=by
 rcases h.2 with ⟨hn,h0⟩|⟨g,cap',cur,hv,hbb,hg,hnc,hcm,hcs,ht⟩
 ·omega
 ·simp only [Value.slice.injEq] at hv
  obtain ⟨rfl,_,rfl⟩:=hv;refine ⟨g,rfl,?_,by simp [World.frozen?,hg]⟩;rw [<-ht];simp [World.cell?,hg,hi]
theorem Ha {P:Program} {ops:Array Oper} {o:Oper} {a:Act} {w:World} {K:Act->World->Prop} {Q:Exit->Act->World->Prop} {E:Prop}
  (hg:o.guard=none) (s x:Operand) (t:TypeId) (hop:o.op=Op.call {callee:=Callee.builtin Builtin.append,args:= #[s,x],argTypes:= #[t,t]})
  (e:TypeId) (i:TypeInfo) (z:Value) (bytes:Nat) (h1:P.underlying t=some (.slice e)) (h2:P.info? e=some i) (h3:i.zero=some z) (h4:i.size=1) (h5:i.bytes=bytes) (h6:z.cells.size=1)
  (hs:a.eval s= .slice none 0 0) (sa:Option Addr) (m c:Nat) (news:List Value) (hx:a.eval x= .slice sa m c) (hnone:sa=none->m=0) (hn:news.length=m)
  (hc:∀ b,sa=some b->∀ j u,news[j]? =some u->w.cell? (b.add j)=some u) (h1c:∀ u∈news,u.oneCell'=true)
  (b1:m<=maxLen) (b2:m*bytes<=140737488355328)
  (hK:∀ ao cap w',w'.ownsRow w.heap.size e 1 (.slice ao m cap) m news->w.grownBy w' none->K (a.put o.dst (.slice ao m cap)) w'):
  if Region.wanted o (yielded ops a.tmps)=true then Oper.wp P o a w K Q else E:=by
 have hw:Region.wanted o (yielded ops a.tmps)=true:=by simp [Region.wanted,hg]
 rw [Qj hw];have key:∃ ao cap w',(Builtin.append_ #[t,t] o.type #[.slice none 0 0,.slice sa m c]).run P w= .ok (.slice ao m cap) w'/\w'.ownsRow w.heap.size e 1 (.slice ao m cap) m news/\w.grownBy w' none:=by
  cases sa with
  |none=>
   obtain rfl:=hnone rfl;obtain rfl:news=[]:=List.eq_nil_of_length_eq_zero hn;refine ⟨none,0,w,?_,World.ownsRow_nil w _ e 1,⟨rfl,rfl,rfl,Nat.le_refl _,λ_ _ _=>rfl⟩⟩;simp [Builtin.append_,run_underlying h1,sizeOf,typeInfo,h2,Builtin.lenOf,Builtin.firstCells]
  |some b=>
   obtain ⟨v',w',hrun,r1,r2,_⟩:=run_append_own (P:=P) w w.heap.size t o.type e i z 1 bytes h1 h2 h3 h4 h5 h6 (by omega) (.slice none 0 0) 0 [] (World.ownsRow_nil w _ e 1) b m c news (by omega) (hc b rfl) h1c (by omega) (by simpa using b2) (Nat.le_refl _);simp only [Nat.zero_add,List.nil_append] at r1;have hf:∃ ao cap,v'= .slice ao m cap:=by
    rcases r1.2 with ⟨rfl,rfl⟩|⟨g,cap,cur,rfl,_⟩
    ·exact ⟨_,_,rfl⟩
    ·exact ⟨_,_,rfl⟩
   obtain ⟨ao,cap,rfl⟩:=hf;exact ⟨ao,cap,w',hrun,r1,r2⟩
 obtain ⟨ao,cap,w',hrun,r1,r2⟩:=key;unfold Oper.wp;simp [execOp,hop,resolve,invoke,builtin,hs,hx,hrun,Result.andThen];exact hK ao cap w' r1 r2
theorem Jt {P:Program} {f:FuncId} {fn:Func} (hf:P.funcs[f]? =some fn) (hname:(fn.name=="runtime.NumGoroutine")=false) (hb:fn.body.isNone=true) (hn:Extern.findNext fn=none) (k:IntKind)
  (he:Extern.find fn=some (Extern.Atomic.swapT (.int k))) {a:Addr} {x y:Int} {w:World} (hc:w.cell? a=some (.int k x)) (hz:w.frozen? a=false):
  (callFunc f #[.pointer (some a),.int k y]).run P w= .ok (.value (.int k x)) (w.setCell a (.int k y)):=by
 rw [run_callFunc_extern hf hname hb hn he]
 change (Sem.run P (do
  let a'<-asAddr (.pointer (some a))
  let old<-Extern.Atomic.read (.int k) a'
  store a' (.int k y) .atomic
  pure old) w).andThen _=_
 simp [Extern.Atomic.read,asAddr,hc,hz,run_store P w a (.int k y) .atomic rfl,Result.andThen]
theorem UA {n:Int} (h:(Lit.int .u32 n).wf=true):0<=n/\n<4294967296:=by
 have:=bounds_u32 h;omega
open Go.ChangeShapes Go.WideShapes Go.Deep Go.RowKit
def Gi (P:Program) (fs:Array Field) (ks:List IntKind):Bool:=
 fs.size==ks.length&&oneCellFields P fs&&(List.range fs.size).all λj=>match fs[j]?,ks[j]? with
  |some f,some k=>(match P.underlying f.type with
   |some (.int k')=>decide (k'=k)
   |_=>false)
  |_,_=>false
theorem af {α:Type} {l:List α} (h:l.length=8):∃ x0 x1 x2 x3 x4 x5 x6 x7,l=[x0,x1,x2,x3,x4,x5,x6,x7]:=by
 match l,h with
 |[x0,x1,x2,x3,x4,x5,x6,x7],_=>exact ⟨x0,x1,x2,x3,x4,x5,x6,x7,rfl⟩
structure Ad (k:IntKind) (w:World) (sa:Option Addr) (m:Nat) (hs:List Int):Prop where
 len:hs.length=m
 empty:sa=none->m=0
 cell:∀ b,sa=some b->∀ j,j<m->w.cell? (b.add j)=some (.int k (hs.getD j 0))
theorem Ad.news {k:IntKind} {w:World} {sa:Option Addr} {m:Nat} {hs:List Int} (h:Ad k w sa m hs):
  ∀ b,sa=some b->∀ j u,(hs.map (Value.int k))[j]? =some u->w.cell? (b.add j)=some u:=by
 intro b hb j u hu;simp only [List.getElem?_map,Option.map_eq_some_iff] at hu;obtain ⟨z,hz,rfl⟩:=hu;have hj:j<hs.length:=(List.getElem?_eq_some_iff.1 hz).1;rw [h.cell b hb j (by rw [<-h.len];exact hj),List.getD_eq_getElem?_getD,hz];rfl
theorem Ad.wrote {k:IntKind} {w w':World} {sa:Option Addr} {m:Nat} {hs:List Int} (h:Ad k w sa m hs) {S:Nat->Prop} (hw:Wr S w w') (hs':∀ b,sa=some b->¬ S b.block):Ad k w' sa m hs:=by
 refine ⟨h.len,h.empty,λb hb j hj=> ?_⟩;have hc:=h.cell b hb j hj;have QH:(b.add j).block=b.block:=by unfold Addr.add;split<;>rfl
 have hlt:(b.add j).block<w.heap.size:=World.block_lt_of_cell? w _ hc;rw [World.cell?_of_block (w:=w) (hw.block _ hlt (by rw [QH];exact hs' b hb)),hc]
theorem Ad.after {k:IntKind} {w w':World} {sa:Option Addr} {m:Nat} {hs:List Int} (h:Ad k w sa m hs) (hw:Wr Nil w w'):Ad k w' sa m hs:=h.wrote hw λ_ _=>id
theorem FT {w:World} {a:Addr} {v:Value} (h:w.cell? a=some v):a=⟨a.block,a.off,none⟩:=by
 obtain ⟨e,n,_,_,hs⟩:=World.shape?_of_cell? h;cases a;simp_all
theorem Ad.at {k:IntKind} {w:World} {sa:Option Addr} {m:Nat} {hs:List Int} (h:Ad k w sa m hs):
  m=0\/∃ b o,sa=some ⟨b,o,none⟩/\∀ j,j<m->w.cell? ⟨b,o+j,none⟩=some (.int k (hs.getD j 0)):=by
 rcases Nat.eq_zero_or_pos m with h0|h0
 ·exact .inl h0
 ·cases sa with
  |none=>exact .inl (h.empty rfl)
  |some a=>
   have hc:=h.cell a rfl 0 h0;have ha:a.add 0=a:=by simp [Addr.add]
   rw [ha] at hc;have hsp:=FT hc;refine .inr ⟨a.block,a.off,by rw [<-hsp],λj hj=> ?_⟩;have Wv:=h.cell a rfl j hj;exact zz6z
theorem KC {k:IntKind} {e:TypeId} {w:World} {base:Nat} {v:Value} {n:Nat} {zs:List Int} (h:w.ownsRow base e 1 v n (zs.map (Value.int k))):
  ∃ sa cap,v= .slice sa n cap/\(n=0\/n<=cap)/\(sa=none->cap=0)/\Ad k w sa n zs/\(∀ b,sa=some b->base<=b.block/\b.block<w.heap.size/\b.off=0/\b.spot=none/\∀ j,w.frozen? ⟨b.block,j,none⟩=false):=by
 have hl:zs.length=n:=by have:=h.1;simpa using this
 rcases h.2 with ⟨rfl,rfl⟩|⟨g,cap,cur,rfl,hb,hg,hnc,hcm,hcs,ht⟩
 ·exact ⟨none,0,rfl,.inl rfl,λ_=>rfl,⟨hl,λ_=>rfl,(λb hb=>nomatch hb)⟩,(λb hb=>nomatch hb)⟩
 ·refine ⟨some ⟨g,0,none⟩,cap,rfl,.inr hnc,(λh=>nomatch h),⟨hl,(λh=>nomatch h),λa ha j hj=> ?_⟩,λb hb'=> ?_⟩
  ·obtain rfl:⟨g,0,none⟩=a:=by simpa using ha
   rw [Go.Addr.add_lit,Nat.zero_add,A1 hg];have h2:(cur.toList.take (n*1))[j]? =(zs.map (Value.int k))[j]? :=by rw [ht]
   rw [List.getElem?_take_of_lt (by omega)] at h2;rw [<-Array.getElem?_toList,h2];simp [hl,hj]
  ·obtain rfl:⟨g,0,none⟩=b:=by simpa using hb'
   exact ⟨hb,A2 hg,rfl,rfl,λj=>A4 hg j⟩
section
variable {H:Type} {enc:TypeId×Value->H} {P:Program} {w:World} {base:Nat} {spare:Nat->Bool} {held:Bool}
theorem VG {fs:Array Field} {ks:List IntKind} (h:Gi P fs ks=true) {j:Nat} {k:IntKind} (hk:ks[j]? =some k):
  ∃ f,fs[j]? =some f/\f.offset=j/\P.cellsOf f.type=1/\P.underlying f.type=some (.int k):=by
 simp only [Gi,Bool.and_eq_true,beq_iff_eq] at h;obtain ⟨⟨hn,hone⟩,hall⟩:=h;have hj:j<fs.size:=by rw [hn];exact (List.getElem?_eq_some_iff.1 hk).1
 have h1:=List.all_eq_true.1 hall j (List.mem_range.2 hj);have hf:fs[j]? =some fs[j]:=Array.getElem?_eq_getElem hj;rw [hf,hk] at h1;obtain ⟨ho,hc⟩:=hone_of hone j _ hf;refine ⟨fs[j],hf,ho,hc,?_⟩
 revert h1
 simp only;split
 ·rename_i k' hu
  intro h2;rw [hu,of_decide_eq_true h2]
 ·intro h2
  cases h2
theorem Mv {e:TypeId} {fs:Array Field} {ks:List IntKind} {fuel:Nat} {cs:List Value} {x:DataW H×List MemPlace} (he:P.underlying e=some (.struct fs)) (hfl:Gi P fs ks=true)
  (h:DataW.trod enc P w base spare held fuel e cs=some x) (hl:cs.length=ks.length):
  ∀ (j:Nat) (k:IntKind),ks[j]? =some k->∃ z,cs[j]? =some (Value.int k z)/\(Lit.int k z).wf=true:=by
 intro j k hk;obtain ⟨ys,n,_,_,hlen,gy,hf⟩:=DataW.trod_struct he h;obtain ⟨f,hj,ho,hc,hu⟩:=VG hfl hk;have h1:=hf j f hj;have hjl:j<cs.length:=by rw [hl];exact (List.getElem?_eq_some_iff.1 hk).1
 have gA:j<ys.length:=by rw [gy];exact (Array.getElem?_eq_some_iff.1 hj).1
 have h2:(cs.drop j).take 1=[cs[j]]:=by rw [List.drop_eq_getElem_cons hjl];rfl
 rw [ho,hc,h2,List.getElem?_eq_getElem gA] at h1;obtain ⟨z,hz,_,hwf⟩:=DataW.trod_int hu h1;refine ⟨z,?_,hwf⟩;rw [List.getElem?_eq_getElem hjl];simpa using hz
def II (w:World) (a:Addr):Int:=match w.cell? a with
 |some v=>intOf v
 |none=>0
structure Structs (w:World) (ks:List IntKind) (sa:Option Addr) (len:Nat) (Z:Nat->Nat->Int):Prop where
 empty:sa=none->len=0
 cell:∀ a,sa=some a->∀ i,i<len->∀ (j:Nat) (k:IntKind),ks[j]? =some k->w.cell? (a.add (i*ks.length+j))=some (.int k (Z i j))/\(Lit.int k (Z i j)).wf=true
theorem Structs.at {w:World} {ks:List IntKind} {sa:Option Addr} {len:Nat} {Z:Nat->Nat->Int} (h:Structs w ks sa len Z) (hk:0<ks.length):
  len=0\/∃ b o,sa=some ⟨b,o,none⟩/\∀ i,i<len->∀ (j:Nat) (k:IntKind),ks[j]? =some k->w.cell? ⟨b,o+(i*ks.length+j),none⟩=some (.int k (Z i j))/\(Lit.int k (Z i j)).wf=true:=by
 rcases Nat.eq_zero_or_pos len with h0|h0
 ·exact .inl h0
 ·cases sa with
  |none=>exact .inl (h.empty rfl)
  |some a=>
   have hc:=(h.cell a rfl 0 h0 0 _ (List.getElem?_eq_getElem hk)).1;have ha:a.add (0*ks.length+0)=a:=by simp [Addr.add]
   rw [ha] at hc;have hsp:=FT hc;refine .inr ⟨a.block,a.off,by rw [<-hsp],λi hi j k hj=> ?_⟩;have Wv:=h.cell a rfl i hi j k hj;exact zz6z
theorem Ic {t e:TypeId} {fs:Array Field} {ks:List IntKind} {sa:Option Addr} {len cap:Nat} {d:DataW H} {p:List MemPlace} (ht:P.underlying t=some (.slice e)) (he:P.underlying e=some (.struct fs))
  (hfl:Gi P fs ks=true) (hC:P.cellsOf e=ks.length) (h:DataW.Trod enc P w base spare held t (.slice sa len cap) d p):
  (len<=cap/\cap<=maxLen/\(sa=none->cap=0))/\∃ Z,Structs w ks sa len Z:=by
 obtain ⟨fuel,hf⟩:=h;rcases open_slice ht hf with ⟨h0,_⟩|⟨a,len',cap',m,n,D,Pl,hcs,hb,hl,hm,hmm,hx,hi⟩
 ·simp only [Value.cells,List.cons.injEq,Value.slice.injEq,and_true] at h0
  obtain ⟨rfl,rfl,rfl⟩:=h0;exact ⟨⟨Nat.le_refl _,by unfold maxLen;omega,λ_=>rfl⟩,λ_ _=>0,⟨λ_=>rfl,(λa ha=>nomatch ha)⟩⟩
 ·simp only [Value.cells,List.cons.injEq,Value.slice.injEq,and_true] at hcs
  obtain ⟨rfl,rfl,rfl⟩:=hcs;refine ⟨⟨hl,hm,(λh=>nomatch h)⟩,λi j=>II w (a.add (i*ks.length+j)),⟨(λh=>nomatch h),λa' ha i him j k hk=> ?_⟩⟩;obtain rfl:a=a':=by simpa using ha
  have hlm:len<=m:=by rw [hmm];split<;>omega
  obtain ⟨cs',hc,ht'⟩:=hi i (by omega);rw [hC] at hc;obtain ⟨_,hcl,hat⟩:=World.cells?_some hc;obtain ⟨z,hz,hwf⟩:=Mv he hfl ht' hcl j k hk;have hcell:=hat j (List.getElem?_eq_some_iff.1 hk).1;rw [Go.Deep.add_add,hz] at hcell;have hZ:II w (a.add (i*ks.length+j))=z:=by unfold II;rw [hcell];rfl
  exact ⟨by rw [hZ];exact hcell,by rw [hZ];exact hwf⟩
theorem JS {t e:TypeId} {k:IntKind} {sa:Option Addr} {len cap:Nat} {d:DataW H} {p:List MemPlace} (ht:P.underlying t=some (.slice e)) (he:P.underlying e=some (.int k)) (hC:P.cellsOf e=1)
  (h:DataW.Trod enc P w base spare held t (.slice sa len cap) d p):
  (len<=cap/\cap<=maxLen/\(sa=none->cap=0))/\∃ zs,Ad k w sa len zs/\∀ z∈zs,(Lit.int k z).wf=true:=by
 obtain ⟨fuel,hf⟩:=h;rcases open_slice ht hf with ⟨h0,_⟩|⟨a,len',cap',m,n,D,Pl,hcs,hb,hl,hm,hmm,hx,hi⟩
 ·simp only [Value.cells,List.cons.injEq,Value.slice.injEq,and_true] at h0
  obtain ⟨rfl,rfl,rfl⟩:=h0;exact ⟨⟨Nat.le_refl _,by unfold maxLen;omega,λ_=>rfl⟩,[],⟨rfl,λ_=>rfl,(λa ha=>nomatch ha)⟩,λz hz=>nomatch hz⟩
 ·simp only [Value.cells,List.cons.injEq,Value.slice.injEq,and_true] at hcs
  obtain ⟨rfl,rfl,rfl⟩:=hcs;have key:∀ i,i<len->w.cell? (a.add i)=some (.int k (II w (a.add i)))/\(Lit.int k (II w (a.add i))).wf=true:=by
   intro i hil;have hlm:len<=m:=by rw [hmm];split<;>omega
   obtain ⟨cs',hc,ht'⟩:=hi i (by omega);rw [hC,Nat.mul_one] at hc;obtain ⟨_,hcl,hat⟩:=World.cells?_some hc;obtain ⟨z,rfl,_,hwf⟩:=DataW.trod_int he ht';have hcell:=hat 0 (by omega);rw [Go.Deep.add_add] at hcell;have hcell:w.cell? (a.add i)=some (.int k z):=hcell;have hZ:II w (a.add i)=z:=by unfold II;rw [hcell];rfl
   rw [hZ];exact ⟨hcell,hwf⟩
  refine ⟨⟨hl,hm,(λh=>nomatch h)⟩,(List.range len).map λi=>II w (a.add i),⟨by simp,(λh=>nomatch h),λa' ha i him=> ?_⟩,λz hz=> ?_⟩
  ·obtain rfl:a=a':=by simpa using ha
   simp only [List.getD_eq_getElem?_getD,List.getElem?_map,List.getElem?_range him,Option.map_some,Option.getD_some];exact (key i him).1
  ·simp only [List.mem_map,List.mem_range] at hz
   obtain ⟨i,hil,rfl⟩:=hz;exact (key i hil).2
end
structure J1 {α:Type} (f:α->List Value) (s:Nat) (w:World) (sa:Option Addr) (n:Nat) (D:List α):Prop where
 len:D.length=n
 empty:sa=none->n=0
 cell:∀ b,sa=some b->∀ (k:Nat) (x:α),D[k]? =some x->∀ (j:Nat) (u:Value),(f x)[j]? =some u->w.cell? (b.add (k*s+j))=some u
section
variable {α:Type} {f:α->List Value} {s:Nat}
theorem J1.at {w:World} {sa:Option Addr} {n:Nat} {D:List α} (h:J1 f s w sa n D) (hf:∀ x,f x≠[]):
  n=0\/∃ b o,sa=some ⟨b,o,none⟩/\∀ (k:Nat) (x:α),D[k]? =some x->∀ (j:Nat) (u:Value),(f x)[j]? =some u->w.cell? ⟨b,o+(k*s+j),none⟩=some u:=by
 rcases Nat.eq_zero_or_pos n with h0|h0
 ·exact .inl h0
 ·cases sa with
  |none=>exact .inl (h.empty rfl)
  |some a=>
   have hD:D[0]? =some (D[0]'(by rw [h.len];exact h0)):=List.getElem?_eq_getElem _;have hl:0<(f (D[0]'(by rw [h.len];exact h0))).length:=List.length_pos_iff.2 (hf _);have hc:=h.cell a rfl 0 _ hD 0 _ (List.getElem?_eq_getElem hl);have ha:a.add (0*s+0)=a:=by simp [Addr.add]
   rw [ha] at hc;have hsp:=FT hc;refine .inr ⟨a.block,a.off,by rw [<-hsp],λk x hx j u hu=> ?_⟩;have Wv:=h.cell a rfl k x hx j u hu;exact zz6z
theorem CF (hf:∀ x,(f x).length=s) (D:List α):(D.flatMap f).length=D.length*s:=by
 induction D with
 |nil=>simp
 |cons x r ih=>simp [hf,ih,Nat.succ_mul,Nat.add_comm]
theorem Cb (hf:∀ x,(f x).length=s) (D:List α) {k:Nat} {x:α} (hx:D[k]? =some x) {j:Nat} (hj:j<s):(D.flatMap f)[k*s+j]? =(f x)[j]? :=by
 induction D generalizing k with
 |nil=>simp at hx
 |cons y r ih=>
  rw [List.flatMap_cons];cases k with
  |zero=>
   obtain rfl:y=x:=by simpa using hx
   rw [Nat.zero_mul,Nat.zero_add,List.getElem?_append_left (by rw [hf];exact hj)]
  |succ k=>
   rw [List.getElem?_append_right (by rw [hf,Nat.succ_mul];omega),hf,show (k+1)*s+j-s=k*s+j by rw [Nat.succ_mul];omega];exact ih (by simpa using hx)
theorem Mf {w:World} {base:Nat} {e:TypeId} {v:Value} {n:Nat} {D:List α} (hf:∀ x,(f x).length=s) (h:w.ownsRow base e s v n (D.flatMap f)) (hs:0<s):
  ∃ sa cap,v= .slice sa n cap/\(sa=none->cap=0)/\J1 f s w sa n D/\(∀ b,sa=some b->base<=b.block/\b.block<w.heap.size/\b.off=0/\b.spot=none):=by
 have hl:D.length=n:=by
  have h1:=h.1;rw [CF hf] at h1;exact Nat.eq_of_mul_eq_mul_right hs h1
 rcases h.2 with ⟨rfl,rfl⟩|⟨g,cap,cur,rfl,hb,hg,hnc,hcm,hcs,ht⟩
 ·exact ⟨none,0,rfl,λ_=>rfl,⟨hl,λ_=>rfl,(λb hb=>nomatch hb)⟩,(λb hb=>nomatch hb)⟩
 ·refine ⟨some ⟨g,0,none⟩,cap,rfl,(λh=>nomatch h),⟨hl,(λh=>nomatch h),λa ha k x hx j u hu=> ?_⟩,λb hb'=> ?_⟩
  ·obtain rfl:⟨g,0,none⟩=a:=by simpa using ha
   have hj:j<s:=by rw [<-hf x];exact (List.getElem?_eq_some_iff.1 hu).1
   have hk:k<n:=by rw [<-hl];exact (List.getElem?_eq_some_iff.1 hx).1
   have hlt:k*s+j<n*s:=Nat.lt_of_lt_of_le (by rw [Nat.succ_mul];omega:k*s+j<(k+1)*s) (Nat.mul_le_mul_right s hk);rw [Go.Addr.add_lit,Nat.zero_add,A1 hg];have h2:=Cb hf D hx hj;rw [hu,<-ht,List.getElem?_take_of_lt hlt] at h2;rw [<-Array.getElem?_toList];exact h2
  ·obtain rfl:⟨g,0,none⟩=b:=by simpa using hb'
   exact ⟨hb,A2 hg,rfl,rfl⟩
end
def upd {α:Type} (f:Nat->α) (i:Nat) (x:α) (j:Nat):α:=if j=i then x else f j
theorem upd_same {α:Type} (f:Nat->α) (i:Nat) (x:α):upd f i x i=x:=Qj rfl
theorem A0 {α:Type} (f:Nat->α) {i j:Nat} (x:α) (h:j≠i):upd f i x j=f j:=Qq h
theorem Bi {α:Type} {f f':α->List Value} {s:Nat} (hf:∀ x,(f x).length=s) (hf':∀ x,(f' x).length=s) (D:List α) (k j:Nat) (hj:j<s) (v:Value)
  (h:∀ i x,D[i]? =some x->∀ l,l<s->(f' x)[l]? =if i=k/\l=j then some v else (f x)[l]?):(D.flatMap f).set (k*s+j) v=D.flatMap f':=by
 apply List.ext_getElem?;intro m;have hs:0<s:=by omega
 by_cases hm:m<D.length*s
 ·have ha:m/s<D.length:=Nat.div_lt_of_lt_mul (by rw [Nat.mul_comm];exact hm)
  have hb:m%s<s:=Nat.mod_lt _ hs;have hx:D[m/s]? =some (D[m/s]'ha):=List.getElem?_eq_getElem ha;have e:m=m/s*s+m%s:=by rw [Nat.mul_comm];exact (Nat.div_add_mod m s).symm
  have h1:=Cb hf D hx hb;have h2:=Cb hf' D hx hb;rw [<-e] at h1 h2;rw [h2,h _ _ hx _ hb,List.getElem?_set];by_cases hk:m/s=k/\m%s=j
  ·rw [Qj hk,Qj (by rw [<-hk.1,<-hk.2];exact e.symm),Qj (by rw [CF hf];rw [<-hk.1,<-hk.2,<-e];exact hm)]
  ·rw [Qq hk,Qq (λe2=>hk ?_),h1]
   rw [<-e2];constructor
   ·rw [Nat.add_comm,Nat.add_mul_div_right _ _ hs,Nat.div_eq_of_lt hj,Nat.zero_add]
   ·rw [Nat.add_comm,Nat.add_mul_mod_self_right,Nat.mod_eq_of_lt hj]
 ·rw [List.getElem?_eq_none (by rw [List.length_set,CF hf];omega),List.getElem?_eq_none (by rw [CF hf'];omega)]
theorem Dt {w:World} {base:Nat} {e:TypeId} {size:Nat} {v:Value} {n:Nat} {xs:List Value} (h:w.ownsRow base e size v n xs):∃ so cap,v= .slice so n cap/\(so=none->cap=0):=by
 rcases h.2 with ⟨rfl,rfl⟩|⟨g,cap,cur,rfl,_⟩
 ·exact ⟨none,0,rfl,λ_=>rfl⟩
 ·exact ⟨some ⟨g,0,none⟩,cap,rfl,λh=>nomatch h⟩
open Go.RowKit
set_option maxRecDepth 100000
structure SS where
 n:Nat
 C7:Bool
 Af:Bool
 st:Nat->Int
 dl:Nat->Int
def SS.FD (s:SS) (t:Int):Int:=if 0<=t/\t<s.n then s.st t.toNat else 0
def SS.Yu (s:SS) (t:Int):Int:=if 0<=t/\t<s.n then (if s.st t.toNat=1 then s.dl t.toNat else-1) else-1
def SS.set (s:SS) (t:Nat) (x d:Int):SS:={s with st:=upd s.st t x,dl:=upd s.dl t d}
def BZ (s:SS) (t d:Int):Int:=if (0<=t/\t<s.n)/\(d= -1\/(0<=d/\s.C7=true)) then (if s.st t.toNat=0 then 0 else 2) else 1
def SS.lock (s:SS) (t d:Int):SS:=if BZ s t d=0 then s.set t.toNat 1 d else s
def BR (s:SS) (t:Int):Int:=if 0<=t/\t<s.n then (if s.st t.toNat=0 then 3 else if s.st t.toNat=2 then 0 else 2) else 1
def SS.turn (s:SS) (t x:Int):SS:=if BR s t=0 then s.set t.toNat x (s.dl t.toNat) else s
def I3 (s:SS) (t:Int):Int:=if s.Af=true then BR s t else 1
def SS.JV (s:SS) (t:Int):SS:=if s.Af=true then s.turn t 4 else s
def AH (x ev:Int):Option Int:=if x=1/\ev=1 then some 2 else if x=1/\(ev=2\/ev=6) then some 0 else if x=3/\ev=3 then some 0 else if x=4/\(ev=4\/ev=5) then some 2 else none
def Bo (s:SS) (t ev:Int):Option Int:=if 0<=t/\t<s.n then AH (s.st t.toNat) ev else none
def Gd (s:SS) (t ev:Int):Bool:=(Bo s t ev).isSome
def SS.fin (s:SS) (t ev:Int):SS:=match Bo s t ev with
 |some y=>s.set t.toNat y 0
 |none=>s
def AQ (n:Nat) (C7 Af:Bool):SS:=⟨n,C7,Af,λ_=>0,λ_=>0⟩
theorem SS.Bz (s:SS) (t d:Int):(s.lock t d).n=s.n:=by unfold SS.lock;split<;>rfl
theorem SS.Bu (s:SS) (t x:Int):(s.turn t x).n=s.n:=by unfold SS.turn;split<;>rfl
theorem SS.Bv (s:SS) (t ev:Int):(s.fin t ev).n=s.n:=by unfold SS.fin;split<;>rfl
def IZ (s:SS) (t:Nat):List Value:=[.int .i64 (s.st t),.int .i64 (s.dl t)]
theorem F6 (s:SS):∀ x,(IZ s x).length=2:=λ_=>rfl
def Ia (s:SS):List Value:=(List.range s.n).flatMap (IZ s)
theorem S4 (s:SS):(Ia s).length=s.n*2:=by unfold Ia;rw [CF (F6 s),List.length_range]
theorem L1 (s:SS) {k:Nat} (hk:k<s.n) {j:Nat} (hj:j<2):(Ia s)[k*2+j]? =(IZ s k)[j]? :=Cb (F6 s) _ (by rw [List.getElem?_range hk]) hj
structure SeatAt (w:World) (p b:Nat) (s:SS):Prop where
 obj:w.heap[p]? =some (.cells #[.slice (some ⟨b,0,none⟩) s.n s.n,.bool s.C7,.bool s.Af] 188 (0,0))
 ctx:w.heap[b]? =some (.cells (Ia s).toArray 225 (0,0))
 ne:p≠b
 n1:1<=s.n
 n2:s.n<=64
namespace SeatAt
variable {w w':World} {p b:Nat} {s:SS}
theorem wrote {S:Nat->Prop} (h:SeatAt w p b s) (k:Wr S w w') (hp:¬ S p) (hb:¬ S b):SeatAt w' p b s:=
 ⟨(k.block p (A2 h.obj) hp).trans h.obj,(k.block b (A2 h.ctx) hb).trans h.ctx,h.ne,h.n1,h.n2⟩
theorem after (h:SeatAt w p b s) (k:Wr Nil w w'):SeatAt w' p b s:=h.wrote k id id
theorem cell0 (h:SeatAt w p b s):w.cell? ⟨p,0,none⟩=some (.slice (some ⟨b,0,none⟩) s.n s.n):=by rw [A1 h.obj];rfl
theorem cell1 (h:SeatAt w p b s):w.cell? ⟨p,1,none⟩=some (.bool s.C7):=by rw [A1 h.obj];rfl
theorem AY (h:SeatAt w p b s):w.cell? ⟨p,2,none⟩=some (.bool s.Af):=by rw [A1 h.obj];rfl
theorem st (h:SeatAt w p b s) {k:Nat} (hk:k<s.n):w.cell? ⟨b,k*2,none⟩=some (.int .i64 (s.st k)):=by
 rw [A1 h.ctx,List.getElem?_toArray];exact L1 s hk (j:=0) (by decide)
theorem dl (h:SeatAt w p b s) {k:Nat} (hk:k<s.n):w.cell? ⟨b,k*2+1,none⟩=some (.int .i64 (s.dl k)):=by
 rw [A1 h.ctx,List.getElem?_toArray];exact L1 s hk (j:=1) (by decide)
theorem frozen (h:SeatAt w p b s) (k:Nat):w.frozen? ⟨b,k,none⟩=false:=A4 h.ctx k
theorem I6 (h:SeatAt w p b s) {k:Nat} (hk:k<s.n) (x:Int):
  SeatAt (w.setCell ⟨b,k*2,none⟩ (.int .i64 x)) p b (s.set k x (s.dl k))/\Wr (One b) w (w.setCell ⟨b,k*2,none⟩ (.int .i64 x)):=by
 have hW:Wr (One b) w (w.setCell ⟨b,k*2,none⟩ (.int .i64 x)):=(Wr.refl _ w).setCell _ _ λ_=>rfl;refine ⟨⟨(hW.block p (A2 h.obj) h.ne).trans h.obj,?_,h.ne,h.n1,h.n2⟩,hW⟩;rw [A3 h.ctx,List.setIfInBounds_toArray]
 congr 3
 refine Bi (F6 s) (F6 _) _ k 0 (by decide) _ λi t ht l hl=> ?_;exact zz7r
theorem Du (h:SeatAt w p b s) {k:Nat} (hk:k<s.n) (d:Int):
  SeatAt (w.setCell ⟨b,k*2+1,none⟩ (.int .i64 d)) p b (s.set k (s.st k) d)/\Wr (One b) w (w.setCell ⟨b,k*2+1,none⟩ (.int .i64 d)):=by
 have hW:Wr (One b) w (w.setCell ⟨b,k*2+1,none⟩ (.int .i64 d)):=(Wr.refl _ w).setCell _ _ λ_=>rfl;refine ⟨⟨(hW.block p (A2 h.obj) h.ne).trans h.obj,?_,h.ne,h.n1,h.n2⟩,hW⟩;rw [A3 h.ctx,List.setIfInBounds_toArray]
 congr 3
 refine Bi (F6 s) (F6 _) _ k 1 (by decide) _ λi t ht l hl=> ?_;exact zz7r
theorem O7 (h:SeatAt w p b s) {k:Nat} (hk:k<s.n) (x d:Int):
  SeatAt ((w.setCell ⟨b,k*2,none⟩ (.int .i64 x)).setCell ⟨b,k*2+1,none⟩ (.int .i64 d)) p b (s.set k x d)/\Wr (One b) w ((w.setCell ⟨b,k*2,none⟩ (.int .i64 x)).setCell ⟨b,k*2+1,none⟩ (.int .i64 d)):=by
 obtain ⟨h1,Gk⟩:=h.I6 hk x;obtain ⟨h2,Ba⟩:=h1.Du (k:=k) hk d;refine ⟨?_,Gk.trans Ba λ_ _ x=>x⟩;have e:(s.set k x (s.dl k)).set k ((s.set k x (s.dl k)).st k) d=s.set k x d:=by
  unfold SS.set;simp only [SS.mk.injEq,true_and];constructor
  ·funext j;unfold upd;split<;>simp_all
  ·funext j;unfold upd;split<;>simp_all
 rw [e] at h2;exact h2
end SeatAt
def Ag (w:World) (p b:Nat) (s:SS) (r:Value) (e:Ending) (w':World):Prop:=e= .returned r/\SeatAt w' p b s/\Wr (One b) w w'
open _root_.Go.Proofs.Tryz
theorem I5 {w:World} {p b:Nat} {s:SS} (h:SeatAt w p b s) (k:Nat) (hk:k<s.n):
  Calls prog 133 #[.pointer (some ⟨p,0,none⟩),.int .i64 (k:Int)] w λe w'=>e= .returned (.pointer (some ⟨b,k*2,none⟩))/\w=w':=by
 have c0:=h.cell0;have h1:¬ ((k:Int)<0):=by omega
 have h2:¬ ((s.n:Int)<=(k:Int)):=by omega
 have hn:=h.n2;clear h;generalize s.n=n at*;exact zzo
theorem EM {w:World} {p b:Nat} {s:SS} (h:SeatAt w p b s) (t:Int) (ht:¬ (0<=t/\t<s.n)):
  Calls prog 133 #[.pointer (some ⟨p,0,none⟩),.int .i64 t] w λe w'=>e= .returned (.pointer none)/\w=w':=by
 have c0:=h.cell0;have hn:=h.n2;clear h;generalize s.n=n at*;by_cases h1:t<0
 ·exact zzo
 ·have h2:((n:Int)<=t):=by omega
  clear ht;exact zzo
def I9 (s:SS) (d:Int):Bool:=decide (d= -1\/(0<=d/\s.C7=true))
theorem Tp {w:World} {p b:Nat} {s:SS} (h:SeatAt w p b s) (d:Int):
  Calls prog 134 #[.pointer (some ⟨p,0,none⟩),.int .i64 d] w λe w'=>e= .returned (.bool (I9 s d))/\w=w':=by
 have c1:=h.cell1;clear h;unfold I9;generalize s.C7=b at*;by_cases h1:d= -1
 ·subst h1
  go_in
  go_wp2;go_ret;exact ⟨by simp,rfl⟩
 ·have h1b:(d==(-1:Int))=false:=beq_false_of_ne h1
  by_cases h2:0<=d
  ·go_in
   go_wp2;go_ret;exact ⟨by simp [h1,h2],rfl⟩
  ·go_in
   go_wp2;go_ret;exact ⟨by simp only [];simp;omega,rfl⟩
theorem YP {w:World} {p b:Nat} {s:SS} (h:SeatAt w p b s):
  Calls prog 126 #[.pointer (some ⟨p,0,none⟩)] w λe w'=>e= .returned (.int .i64 (s.n:Nat))/\w=w':=by
 have c0:=h.cell0;clear h;exact zzo
theorem De {w:World} {p b:Nat} {s:SS} (h:SeatAt w p b s) (t:Int):
  Calls prog 129 #[.pointer (some ⟨p,0,none⟩),.int .i64 t] w λe w'=>e= .returned (.int .i64 (s.FD t))/\w=w':=by
 by_cases ht:0<=t/\t<s.n
 ·rw [show s.FD t=s.st t.toNat from Qj ht]
  obtain ⟨k,rfl⟩:=Qx ht.1;have hk:k<s.n:=by omega
  have c:=I5 h k hk;have c1:=h.st hk;rw [Int.toNat_natCast];generalize s.st k=x at*;clear h;exact zz7d
 ·rw [show s.FD t=0 from Qq ht]
  have c:=EM h t ht;clear h;exact zz7d
theorem Fs {w:World} {p b:Nat} {s:SS} (h:SeatAt w p b s) (t:Int):
  Calls prog 191 #[.pointer (some ⟨p,0,none⟩),.int .i64 t] w λe w'=>e= .returned (.int .i64 (s.Yu t))/\w=w':=by
 by_cases ht:0<=t/\t<s.n
 ·rw [show s.Yu t=if s.st t.toNat=1 then s.dl t.toNat else-1 from Qj ht]
  obtain ⟨k,rfl⟩:=Qx ht.1;have hk:k<s.n:=by omega
  have c:=I5 h k hk;have c1:=h.st hk;have c2:=h.dl hk;rw [Int.toNat_natCast];generalize s.st k=x at*;generalize s.dl k=y at*;clear h;by_cases hx:x=1
  ·subst hx
   rw [Qj rfl];exact zz7d
  ·rw [Qq hx]
   exact zz7d
 ·rw [show s.Yu t= -1 from Qq ht]
  have c:=EM h t ht;clear h;exact zz7d
theorem Eo {w:World} {p b:Nat} {s:SS} (h:SeatAt w p b s) (t d:Int):
  Calls prog 127 #[.pointer (some ⟨p,0,none⟩),.int .i64 t,.int .i64 d] w (Ag w p b (s.lock t d) (.int .i64 (BZ s t d))):=by
 have cT:=Tp h d;by_cases ht:0<=t/\t<s.n
 ·obtain ⟨k,rfl⟩:=Qx ht.1
  have hk:k<s.n:=by omega
  have c:=I5 h k hk;have c1:=h.st hk;have f0:=h.frozen (k*2);have f1:=h.frozen (k*2+1);have c3:=h.dl hk;obtain ⟨hS,hW⟩:=h.O7 hk 1 d;by_cases hT:I9 s d=true
  ·rw [hT] at cT
   have hT':d= -1\/(0<=d/\s.C7=true):=by simpa [I9] using hT
   by_cases hx:s.st k=0
   ·have e0:BZ s (k:Int) d=0:=by unfold BZ;rw [Qj ⟨ht,hT'⟩,Int.toNat_natCast,Qj hx]
    have e1:s.lock (k:Int) d=s.set k 1 d:=by unfold SS.lock;rw [Qj e0,Int.toNat_natCast]
    rw [e0,e1];rw [hx] at c1;have HE:=Qw (Qz hS hW);clear h hS hW hT hT' e0 e1
    go_in
    go_wp2_with (first
     |(go_at_call 133;with_reducible refine c.mono ?_;rintro e w' ⟨rfl,rfl⟩)
     |(go_at_call 134;with_reducible refine cT.mono ?_;rintro e w' ⟨rfl,rfl⟩))
    exact zz6t
   ·have e0:BZ s (k:Int) d=2:=by unfold BZ;rw [Qj ⟨ht,hT'⟩,Int.toNat_natCast,Qq hx]
    have e1:s.lock (k:Int) d=s:=by unfold SS.lock;rw [Qq (by rw [e0];decide)]
    rw [e0,e1];have HE:=Qw h;generalize s.st k=x at*;clear h hS hW hT hT' e0 e1;exact zz7k
  ·have jl:I9 s d=false:=by simpa using hT
   rw [jl] at cT;have hT':¬ (d= -1\/(0<=d/\s.C7=true)):=by simpa [I9] using hT
   have e0:BZ s (k:Int) d=1:=by unfold BZ;rw [Qq (λx=>hT' x.2)]
   have e1:s.lock (k:Int) d=s:=by unfold SS.lock;rw [Qq (by rw [e0];decide)]
   rw [e0,e1];have HE:=Qw h;clear h hS hW hT hT' jl e0 e1;exact zz7k
 ·have c:=EM h t ht
  have e0:BZ s t d=1:=by unfold BZ;rw [Qq (λx=>ht x.1)]
  have e1:s.lock t d=s:=by unfold SS.lock;rw [Qq (by rw [e0];decide)]
  rw [e0,e1];have HE:=Qw h;clear h e0 e1
  go_in
  go_wp2_with (first
   |(go_at_call 133;with_reducible refine c.mono ?_;rintro e w' ⟨rfl,rfl⟩))
  exact zz2g
theorem IU (w:World) (x:Int):Calls prog 135 #[.pointer none,.int .i64 x] w λe w'=>e= .returned (.int .i64 1)/\w=w':=zzo
theorem Mq {w:World} {p b:Nat} {s:SS} (h:SeatAt w p b s) (k:Nat) (hk:k<s.n) (x:Int):
  Calls prog 135 #[.pointer (some ⟨b,k*2,none⟩),.int .i64 x] w (Ag w p b (s.turn (k:Int) x) (.int .i64 (BR s (k:Int)))):=by
 have ht:0<=(k:Int)/\(k:Int)<s.n:=by omega
 have eE:BR s (k:Int)=if s.st k=0 then 3 else if s.st k=2 then 0 else 2:=by unfold BR;rw [Qj ht,Int.toNat_natCast]
 have eS:s.turn (k:Int) x=if BR s (k:Int)=0 then s.set k x (s.dl k) else s:=by unfold SS.turn;rw [Int.toNat_natCast]
 rw [eS];have c1:=h.st hk;have f0:=h.frozen (k*2);obtain ⟨hS,hW⟩:=h.I6 hk x;by_cases h0:s.st k=0
 ·rw [Qj h0] at eE
  rw [eE,Qq (by decide)];rw [h0] at c1;have HE:=Qw h;clear h hS hW eE eS ht
  go_in
  go_wp2;exact zz2g
 ·rw [Qq h0] at eE
  by_cases h2:s.st k=2
  ·rw [Qj h2] at eE
   rw [eE,Qj rfl];rw [h2] at c1;have HE:=Qw (Qz hS hW);clear h hS hW eE eS h0 ht
   go_in
   go_wp2;exact zz6t
  ·rw [Qq h2] at eE
   rw [eE,Qq (by decide)];have HE:=Qw h;generalize s.st k=y at*;clear h hS hW eE eS ht
   go_in
   go_wp2;exact zz2g
theorem DJ {w:World} {p b:Nat} {s:SS} (h:SeatAt w p b s) (t:Int):
  Calls prog 131 #[.pointer (some ⟨p,0,none⟩),.int .i64 t] w (Ag w p b (s.turn t 3) (.int .i64 (BR s t))):=by
 by_cases ht:0<=t/\t<s.n
 ·obtain ⟨k,rfl⟩:=Qx ht.1
  have hk:k<s.n:=by omega
  have c:=I5 h k hk;have c2:=Mq h k hk 3;exact zz3h
 ·have e0:BR s t=1:=by unfold BR;rw [Qq ht]
  have e1:s.turn t 3=s:=by unfold SS.turn;rw [Qq (by rw [e0];decide)]
  rw [e0,e1];have c:=EM h t ht;have c2:=IU w 3;exact zz7i
theorem Tn {w:World} {p b:Nat} {s:SS} (h:SeatAt w p b s) (t:Int):
  Calls prog 128 #[.pointer (some ⟨p,0,none⟩),.int .i64 t] w (Ag w p b (s.JV t) (.int .i64 (I3 s t))):=by
 have c1:=h.AY;cases hp:s.Af
 ·rw [show I3 s t=1 from by unfold I3;rw [hp];rfl,show s.JV t=s from by unfold SS.JV;rw [hp];rfl]
  rw [hp] at c1;have HE:=Qw h;clear h hp
  go_in
  go_wp2;exact zz2g
 ·rw [show I3 s t=BR s t from by unfold I3;rw [hp];rfl,show s.JV t=s.turn t 4 from by unfold SS.JV;rw [hp];rfl]
  rw [hp] at c1;clear hp;by_cases ht:0<=t/\t<s.n
  ·obtain ⟨k,rfl⟩:=Qx ht.1
   have hk:k<s.n:=by omega
   have c:=I5 h k hk;have c2:=Mq h k hk 4;exact zz3h
  ·have e0:BR s t=1:=by unfold BR;rw [Qq ht]
   have e1:s.turn t 4=s:=by unfold SS.turn;rw [Qq (by rw [e0];decide)]
   rw [e0,e1];have c:=EM h t ht;have c2:=IU w 4;exact zz7i
theorem R_ (w:World) (x ev:Int):
  Calls prog 142 #[.int .i64 x,.int .i64 ev] w λe w'=>e= .returned (.tuple #[.int .i64 ((AH x ev).getD 0),.bool (AH x ev).isSome])/\w=w':=by
 by_cases k1:x=1
 ·subst k1
  by_cases q1:ev=1
  ·subst q1
   exact zz27
  ·by_cases q2:ev=2
   ·subst q2
    exact zz27
   ·by_cases q3:ev=6
    ·subst q3
     exact zz27
    ·have e:AH 1 ev=none:=by simp [AH,q1,q2,q3]
     rw [e];have p1:(ev==1)=false:=beq_false_of_ne q1;have p2:(ev==2)=false:=beq_false_of_ne q2;have p3:(ev==6)=false:=beq_false_of_ne q3;clear q1 q2 q3 e;exact zz27
 ·by_cases k3:x=3
  ·subst k3
   by_cases q1:ev=3
   ·subst q1
    exact zz27
   ·have e:AH 3 ev=none:=by simp [AH,q1]
    rw [e];have p1:(ev==3)=false:=beq_false_of_ne q1;clear q1 e k1;exact zz27
  ·by_cases k4:x=4
   ·subst k4
    by_cases q1:ev=4
    ·subst q1
     exact zz27
    ·by_cases q2:ev=5
     ·subst q2
      exact zz27
     ·have e:AH 4 ev=none:=by simp [AH,q1,q2]
      rw [e];have p1:(ev==4)=false:=beq_false_of_ne q1;have p2:(ev==5)=false:=beq_false_of_ne q2;clear q1 q2 e;exact zz27
   ·have e:AH x ev=none:=by simp [AH,k1,k3,k4]
    rw [e];have p1:(x==1)=false:=beq_false_of_ne k1;have p2:(x==3)=false:=beq_false_of_ne k3;have p3:(x==4)=false:=beq_false_of_ne k4;clear k1 k3 k4 e;exact zz27
theorem Bb {w:World} {p b:Nat} {s:SS} (h:SeatAt w p b s) (t ev:Int):
  Calls prog 140 #[.pointer (some ⟨p,0,none⟩),.int .i64 t,.int .i64 ev] w (Ag w p b (s.fin t ev) (.bool (Gd s t ev))):=by
 by_cases ht:0<=t/\t<s.n
 ·have eO:Bo s t ev=AH (s.st t.toNat) ev:=Qj ht
  obtain ⟨k,rfl⟩:=Qx ht.1;rw [Int.toNat_natCast] at eO;have hk:k<s.n:=by omega
  have c:=I5 h k hk;have c1:=h.st hk;have c2:=R_ w (s.st k) ev;have f0:=h.frozen (k*2);have f1:=h.frozen (k*2+1);have c3:=h.dl hk;cases hO:AH (s.st k) ev with
  |none=>
   rw [hO] at c2 eO;rw [show Gd s (k:Int) ev=false from by unfold Gd;rw [eO];rfl,show s.fin (k:Int) ev=s from by unfold SS.fin;rw [eO]];have HE:=Qw h;generalize s.st k=x at*;simp only [Option.getD_none,Option.isSome_none] at c2;clear h eO hO
   go_in
   go_wp2_with (first
    |(go_at_call 133;with_reducible refine c.mono ?_;rintro e w' ⟨rfl,rfl⟩)
    |(go_at_call 142;with_reducible refine c2.mono ?_;rintro e w' ⟨rfl,rfl⟩))
   exact zz2g
  |some y=>
   rw [hO] at c2 eO;rw [show Gd s (k:Int) ev=true from by unfold Gd;rw [eO];rfl,show s.fin (k:Int) ev=s.set k y 0 from by unfold SS.fin;rw [eO,Int.toNat_natCast]];have HE:=Qw (h.O7 hk y 0);generalize s.st k=x at*;simp only [Option.getD_some,Option.isSome_some] at c2;clear h eO hO
   go_in
   go_wp2_with (first
    |(go_at_call 133;with_reducible refine c.mono ?_;rintro e w' ⟨rfl,rfl⟩)
    |(go_at_call 142;with_reducible refine c2.mono ?_;rintro e w' ⟨rfl,rfl⟩))
   exact zz6t
 ·have eO:Bo s t ev=none:=Qq ht
  rw [show Gd s t ev=false from by unfold Gd;rw [eO];rfl,show s.fin t ev=s from by unfold SS.fin;rw [eO]];have c:=EM h t ht;have HE:=Qw h;clear h eO
  go_in
  go_wp2_with (go_at_call 133;with_reducible refine c.mono ?_;rintro e w' ⟨rfl,rfl⟩)
  exact zz2g
open _root_.Go.Proofs.Tryz Go.Deep
theorem RA:(prog.info? 225).map (λi=>(i.zero,i.size,i.bytes))=some (some (.agg #[.int .i64 0,.int .i64 0]),2,16):=by kernel_rfl
def Br (w:World) (n:Nat) (C7 Af:Bool) (e:Ending) (w':World):Prop:=
 ∃ p b,e= .returned (.tuple #[.pointer (some ⟨p,0,none⟩),.int .i64 0])/\SeatAt w' p b (AQ n C7 Af)/\w.heap.size<=p/\w.heap.size<=b/\Wr Nil w w'
theorem TG (n:Nat) (C7 Af:Bool):madeCells (Value.agg #[.int .i64 0,.int .i64 0]).cells (n*2)=(Ia (AQ n C7 Af)).toArray:=by
 apply Array.ext';show (madeCells (#[.int .i64 0,.int .i64 0]:Array Value) (n*2)).toList=Ia (AQ n C7 Af);apply List.ext_getElem?;intro m;by_cases hm:m<n*2
 ·have ha:m/2<n:=by omega
  have e:m=m/2*2+m%2:=by omega
  have h2:=L1 (AQ n C7 Af) (k:=m/2) ha (j:=m%2) (Nat.mod_lt _ (by decide));rw [<-e] at h2;rw [h2];unfold madeCells;rw [Array.toList_map,List.getElem?_map,Array.toList_range,List.getElem?_range hm];have:m%2=0\/m%2=1:=by omega
  rcases this with h|h<;>simp [h,IZ,AQ]
 ·rw [List.getElem?_eq_none (by simp [madeCells];omega),List.getElem?_eq_none (by rw [S4];show n*2<=m;omega)]
theorem YQ (n:Nat) (C7 Af:Bool) (h1:1<=n) (h2:n<=64) (w:World):
  Calls prog 69 #[.int .i64 (n:Int),.bool C7,.bool Af] w (Br w n C7 Af):=by
 obtain ⟨i0,hi,hz0,hz1,hz2⟩:=info_parts RA;have hmk:∀ w:World,(Instr.makeSlice 186 (.int .i64 (n:Int)) (.int .i64 (n:Int))).run prog w= .ok (.slice (some ⟨w.heap.size,0,none⟩) n n) (w.alloc (.cells (Ia (AQ n C7 Af)).toArray 225)):=by
  intro w;have h:=Go.run_make (P:=prog) w 186 225 i0 _ underlying186 hi hz0 .i64 .i64 n n (by omega) (by omega) (by rw [hz2];omega) (by omega);rw [hz1] at h;simp only [Int.toNat_natCast] at h;rw [TG n C7 Af] at h;exact h
 have k1:¬ (n:Int)<1:=by omega
 have k2:¬ (64:Int)<n:=by omega
 generalize hA:(Ia (AQ n C7 Af)).toArray=A at hmk;have HA:=Qw hA;clear hA
 go_in
 go_wp2
 go_ret2
 obtain rfl:=HA.out;have hs:(w.alloc (.cells (Ia (AQ n C7 Af)).toArray 225)).heap.size=w.heap.size+1:=nblk_alloc _ _;have hb:=blk_alloc_new (w.alloc (.cells (Ia (AQ n C7 Af)).toArray 225)) (.cells #[.slice (some ⟨w.heap.size,0,none⟩) n n,.bool C7,.bool Af] 188);rw [hs] at hb;refine ⟨w.heap.size+1,w.heap.size,rfl,⟨hb,?_,by omega,h1,h2⟩,by omega,Nat.le_refl _,((Wr.refl Nil w).alloc _).alloc _⟩;rw [blk_alloc_lt _ _ _ (by rw [hs];omega),blk_alloc_new]
theorem Vz (w:World) (cs:List Value) (t:TypeId) (b:Nat) (hb:b=w.heap.size):∀ (j:Nat) (u:Value),cs[j]? =some u->(w.alloc (.cells cs.toArray t)).cell? ((⟨b,0,none⟩:Addr).add j)=some u:=by
 subst hb;intro j u hu;rw [Go.Addr.add_lit,Nat.zero_add,A1 (Go.Deep.blk_alloc_new w _)];simpa using hu
theorem IK {P:Program} {t:TypeId} {z:Value} {s b:Nat} (h:(P.info? t).map (λi=>(i.zero,i.size,i.bytes))=some (some z,s,b)):∃ i,P.info? t=some i/\i.zero=some z/\i.size=s/\i.bytes=b:=by
 simp only [Option.map_eq_some_iff,Prod.mk.injEq] at h;obtain ⟨i,h1,h2,h3,h4⟩:=h;exact ⟨i,h1,h2,h3,h4⟩
section
variable {H:Type} {enc:TypeId×Value->H} {P:Program} {w:World} {base:Nat} {spare:Nat->Bool} {held:Bool}
theorem GF {r:Reach} {b0:Nat} {e:TypeId} {fs:Array Field} {m:Nat} {v:Value} {d:DataW H} {p:List MemPlace} (he:P.underlying e=some (.struct fs)) (hone:oneCellFields P fs=true) (hC:P.cellsOf e=m)
  (hv:Value.okWide P w r b0 e v) (h:DataW.Trod enc P w base spare held e v d p):
  ∃ cs:List Value,v= .agg cs.toArray/\cs.length=m/\∀ (j:Nat) (f:Field) (c:Value),fs[j]? =some f->cs[j]? =some c->∃ (n:Nat) (y:DataW H×List MemPlace),DataW.trod enc P w base spare held n f.type [c]=some y:=by
 obtain ⟨⟨cs⟩,rfl,hsz⟩:=okWide_struct he hv;have hl:cs.length=m:=by rw [<-hC,<-hsz];rfl
 obtain ⟨fuel,hf⟩:=h;obtain ⟨ys,n,_,_,hlen,gy,hg⟩:=DataW.trod_struct he (by simpa [Value.cells] using hf);refine ⟨cs,rfl,hl,λj f c hj hc=> ?_⟩;obtain ⟨ho,hk⟩:=hone_of hone j f hj;have h1:=hg j f hj;have hjl:j<cs.length:=(List.getElem?_eq_some_iff.1 hc).1;have gA:j<ys.length:=by rw [gy];exact (Array.getElem?_eq_some_iff.1 hj).1
 have e1:cs[j]=c:=(List.getElem?_eq_some_iff.1 hc).2;have h2:(cs.drop j).take 1=[c]:=by rw [List.drop_eq_getElem_cons hjl,e1];rfl
 rw [ho,hk,h2,List.getElem?_eq_getElem gA] at h1;exact ⟨n,_,h1⟩
theorem FJ {t:TypeId} {k:IntKind} {n:Nat} {c:Value} {y:DataW H×List MemPlace} (ht:P.underlying t=some (.int k)) (h:DataW.trod enc P w base spare held n t [c]=some y):∃ a,c= .int k a/\(Lit.int k a).wf=true:=by
 obtain ⟨z,hz,_,hw⟩:=DataW.trod_int ht h;exact ⟨z,by simpa using hz,hw⟩
theorem Q8 {t e:TypeId} {n:Nat} {c:Value} {y:DataW H×List MemPlace} (ht:P.underlying t=some (.slice e)) (h:DataW.trod enc P w base spare held n t [c]=some y):
  ∃ sa len cap,c= .slice sa len cap/\DataW.Trod enc P w base spare held t (.slice sa len cap) y.1 y.2:=by
 have key:∃ sa len cap,c= .slice sa len cap:=by
  rcases open_slice ht h with ⟨h0,_⟩|⟨a,len,cap,m,n,D,Pl,hcs,_⟩
  ·exact ⟨none,0,0,by simpa using h0⟩
  ·exact ⟨some a,len,cap,by simpa using hcs⟩
 obtain ⟨sa,len,cap,rfl⟩:=key;exact ⟨sa,len,cap,rfl,n,by simpa [Value.cells] using h⟩
end
end Go.Proofs.YtmnephejhkfchaaGreat

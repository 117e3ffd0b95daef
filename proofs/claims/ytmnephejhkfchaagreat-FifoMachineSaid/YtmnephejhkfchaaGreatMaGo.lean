import Derived.Test.YtmnephejhkfchaaGreatMaDo
namespace Go.Proofs.YtmnephejhkfchaaGreat
set_option maxHeartbeats 8000000
open _root_.Go.Proofs.Tryz
open Go.RowKit Go.BigFrame
set_option linter.unusedVariables false
set_option maxRecDepth 100000
section
variable {w0 w:World} {base m sb:Nat} {s:MS} {tv:Value}
theorem mc_len (h:McAt w0 base w m sb s tv):Calls prog 9 #[.pointer (some ⟨m,0,none⟩)] w λe w'=>e= .returned (.int .i64 s.a.s.n)∧w=w':=by
 have c1:=h.c1
 have vT:=Any.via_len h.lk.cell0
 have nT:=s.a.nil_len
 have cT:=Any.any_len h.lk
 clear h
 go_enter func9,ntmps9
 go_wp2_with (go_at_call 126;(with_reducible refine cT.mono ?_);rintro e w' ⟨rfl,rfl⟩)
 go_ret
 exact ⟨rfl,rfl⟩
def CtPost (w:World) (tr:List Ent) (e:Ending) (w':World):Prop:=
 ∃ sa c,e= .returned (.slice sa tr.length c)∧RecsAt Ent.cells 4 w' sa tr.length tr∧tr.length≤c∧c≤maxLen∧(∀ b,sa=some b→w.heap.size≤b.block∧b.block<w'.heap.size∧b.off=0∧b.spot=none)∧Wr Nil w w'
theorem ct_of {w X w1:World} {tr:List Ent} {v:Value} (k:Wr Nil w X) (h:w1.ownsRow w.heap.size 48 4 v tr.length (tr.flatMap Ent.cells)) {o:Option Nat} (hg:X.grownBy w1 o) (ho:∀ j,o=some j→w.heap.size≤j):CtPost w tr (.returned v) w1:=by
 obtain ⟨sa,c,e1,_,e3,e4⟩:=own_recs Ent.clen h (by decide)
 subst e1
 refine ⟨sa,c,rfl,e3,?_,?_,e4,k.grown hg λj hj hlt=>by have:=ho j hj;unfold Nil;omega⟩
 ·rcases h.2 with ⟨e,e'⟩|⟨g,cap,cur,hv,_,_,hnc,_⟩
  ·rw [e'];exact Nat.zero_le _
  ·cases hv;exact hnc
 ·rcases h.2 with ⟨e,e'⟩|⟨g,cap,cur,hv,_,_,_,hcm,_⟩
  ·injection e with _ _ e;rw [e];exact Nat.zero_le _
  ·cases hv;exact hcm
theorem ct_clone {so:Option Addr} {cp:Nat} {tr:List Ent} (h:w.ownsRow base 48 4 (.slice so tr.length cp) tr.length (tr.flatMap Ent.cells)) (hn:tr.length≤1000000):
  Calls prog 21 #[.slice so tr.length cp] w (CtPost w tr):=by
 obtain ⟨i0,hi,hz0,hz1,hz2⟩:=info_parts3 info_en
 have q22:∀ (w:World) (a:Option Addr) (n c n' c':Nat),(binOp .eql 42 (.slice a n c) (.slice none n' c')).run prog w= .ok (.bool a.isNone) w:=λw a n c n' c'=>Lib.run_eql_slice_nil w _ _ a n c n' c' underlying42
 have hx:=h
 rcases h.2 with ⟨e,e0⟩|⟨g,cap,cur,hv,hb,hg,hnc,hcm,hcs,ht⟩
 ·obtain rfl:so=none:=by injection e
  have e0':tr=[]:=List.eq_nil_of_length_eq_zero e0
  subst e0'
  have HP:=Lib.hid (show CtPost w [] (.returned (.slice none 0 0)) w from ct_of (Wr.refl _ w) (World.ownsRow_nil _ _ _ _) (o:=none) ⟨rfl,rfl,rfl,Nat.le_refl _,λ_ _ _=>rfl⟩ λj hj=>by cases hj)
  clear h hx
  go_enter func21,ntmps21
  go_wp2
  go_ret
  exact HP.out
 ·obtain rfl:so=some ⟨g,0,none⟩:=by injection hv
  have hnews:∀ j u,(tr.flatMap Ent.cells)[j]? =some u→w.cell? ((⟨g,0,none⟩:Addr).add j)=some u:=λj u hu=>by
   rw [Go.Addr.add_lit,Nat.zero_add,blk_cell hg,←Array.getElem?_toList]
   rw [←ht,List.getElem?_take] at hu
   split at hu
   ·exact hu
   ·cases hu
  have hone:∀ u∈tr.flatMap Ent.cells,u.oneCell'=true:=λu hu=>by
   obtain ⟨e,_,hu⟩:=List.mem_flatMap.1 hu
   exact ent_one e u hu
  have hl:(tr.flatMap Ent.cells).length=tr.length*4:=flat_len Ent.clen tr
  have HN:=Lib.hid (And.intro hnews (And.intro hone hl))
  clear h hx hv hg hnc hcm hcs ht hb hnews hone hl
  generalize hxs:tr.flatMap Ent.cells=xs at*
  have HX:=Lib.hid hxs
  clear hxs
  go_enter func21,ntmps21
  go_wp2_with (at_builtin;refine wpList_append_own _ rfl _ _ 42 rfl w.heap.size 48 i0 (.agg #[.int .i64 0,.int .i64 0,.int .i64 0,.bool false]) 4 32 underlying42 hi hz0 hz1 hz2 rfl (by decide) _ _ _ rfl (World.ownsRow_made w #[] 0 (Nat.le_refl _) (Nat.zero_le _) rfl) ⟨g,0,none⟩ tr.length cp xs rfl ?qc1 ?qc2 ?qc3 ?qc4 ?qc5 ?qc6 ?_)
  case qc1=>exact HN.out.2.2
  case qc2=>intro j u hj;exact ((Wr.refl Nil w).alloc _).old (HN.out.1 j u hj)
  case qc3=>exact HN.out.2.1
  case qc4=>unfold maxLen;omega
  case qc5=>omega
  case qc6=>exact ((Wr.refl Nil w).alloc _).size
  intro v' w1 hown hgrow hnil
  go_wp2
  go_ret
  exact ct_of ((Wr.refl Nil w).alloc _) (by rw [HX.out];simpa using hown) hgrow (by intro j hj;simp [Value.ownBlock] at hj;omega)
theorem mc_trace (h:McAt w0 base w m sb s tv) (hn:s.tr.length≤1000000):Calls prog 14 #[.pointer (some ⟨m,0,none⟩)] w (CtPost w s.tr):=by
 obtain ⟨so,cp,rfl,_⟩:=own_slice h.row
 have c3:=h.c3
 have cC:=ct_clone h.row hn
 clear h
 generalize s.tr=tr at*
 go_enter func14,ntmps14
 go_wp2_with (go_at_call 21;(with_reducible refine cC.mono ?_);intro e w' hq;unfold CtPost at hq;obtain ⟨sa,c,rfl,hR⟩:=hq;have HR:=Lib.hid hR;clear hR)
 go_ret
 exact ⟨sa,c,rfl,HR.out⟩
theorem mc_dead (h:McAt w0 base w m sb s tv) (n0:0≤s.now) (n1:s.now≤1000000) (x:Int):
  Calls prog 43 #[.pointer (some ⟨m,0,none⟩),.int .i64 x] w λe w'=>e= .returned (.int .i64 (s.dead x))∧w=w':=by
 have c2:=h.c2
 clear h
 unfold MS.dead
 generalize s.now=now at*
 by_cases p0:x<0
 ·rw [if_pos p0]
  go_enter func43,ntmps43
  go_wp2
  go_ret
  exact ⟨rfl,rfl⟩
 ·rw [if_neg p0]
  go_enter func43,ntmps43
  go_wp2
  go_ret
  exact ⟨rfl,rfl⟩
theorem MS.more_more (s:MS) (l r:List Ent):(s.more l).more r=s.more (l++r):=by unfold MS.more;rw [List.append_assoc]
theorem MS.more_nil (s:MS):s.more []=s:=by unfold MS.more;rw [List.append_nil]
theorem MS.more_len (s:MS) (l:List Ent):(s.more l).tr.length=s.tr.length+l.length:=List.length_append
def Tld (w0:World) (base m sb:Nat) (s:MS) (w:World) (tv:Value) (l:List Ent) (w':World):Prop:=(∃ tv',McAt w0 base w' m sb (s.more l) tv'∧Went s.a.q m sb w tv w' tv')∧l.length≤3
theorem tld_more {w':World} {l:List Ent} (h:Tld w0 base m sb s w tv l w') (hl:s.tr.length≤900000) (k t z:Int) (ld:Bool) (h2:l.length≤2):
  Calls prog 44 #[.pointer (some ⟨m,0,none⟩),.agg #[.int .i64 k,.int .i64 t,.int .i64 z,.bool ld]] w' λe w''=>e= .returned (.tuple #[])∧Tld w0 base m sb s w tv (l++[⟨k,t,s.now,ld⟩]) w'':=by
 obtain ⟨⟨tv',hM,hW⟩,_⟩:=h
 refine (en_any hM k t z ld (by rw [MS.more_len];omega)).mono ?_
 rintro e w2 ⟨rfl,tv2,hA,hW2⟩
 rw [MS.more_more] at hA
 exact ⟨rfl,⟨tv2,hA,hW.trans hW2⟩,by rw [List.length_append];show _+1≤3;omega⟩
theorem Tld.box {w':World} {l:List Ent} {cs:Array Value} {ty:TypeId} {b:Nat} (h:Tld w0 base m sb s w tv l w') (hM:McAt w0 base w m sb s tv) (hb:w.heap[b]? =some (.cells cs ty (0,0))) (hx:base≤b) (ht:tv.ownBlock≠some b):w'.heap[b]? =some (.cells cs ty (0,0)):=by
 obtain ⟨⟨tv',_,hW⟩,_⟩:=h
 refine (hW.wr.block b (blk_lt hb) λe=> ?_).trans hb
 have:=hM.low
 rcases e with e|e|e|e
 ·omega
 ·omega
 ·omega
 ·exact ht e
theorem te_any (h:McAt w0 base w m sb s tv) (t:Int) (d:Dd) (hl:s.tr.length≤900000):
  Calls prog 42 #[.pointer (some ⟨m,0,none⟩),.int .i64 t,.agg #[.int .i64 d.ev,.bool d.enq,.bool d.arr,.bool d.lead]] w (MPost w0 base m sb (s.more (tells t s.now d)) (.tuple #[]) w tv):=by
 obtain ⟨ev,enq,arr,ld⟩:=d
 dsimp only
 obtain ⟨X,hX⟩:∃ X,X=w.alloc (.cells #[.int .i64 ev,.bool enq,.bool arr,.bool ld] 102):=⟨_,rfl⟩
 obtain ⟨b,hbe⟩:∃ b,b=w.heap.size:=⟨_,rfl⟩
 have hWX:Wr Nil w X:=by rw [hX];exact (Wr.refl _ w).alloc _
 have hB:X.heap[b]? =some (.cells #[.int .i64 ev,.bool enq,.bool arr,.bool ld] 102 (0,0)):=by rw [hX,hbe];exact Go.Deep.blk_alloc_new _ _
 have hMX:=h.after hWX
 have hbb:base≤b:=by rw [hbe];exact h.top
 have hbt:tv.ownBlock≠some b:=λe=>by have:=h.lt b e;omega
 have h0:Tld w0 base m sb s X tv [] X:=⟨⟨tv,by rw [MS.more_nil];exact hMX,Went.nil (Wr.refl _ _)⟩,Nat.zero_le 3⟩
 have hbx:∀ l w',Tld w0 base m sb s X tv l w'→w'.cell? ⟨b,0,none⟩=some (.int .i64 ev)∧w'.cell? ⟨b,1,none⟩=some (.bool enq)∧w'.cell? ⟨b,2,none⟩=some (.bool arr)∧w'.cell? ⟨b,3,none⟩=some (.bool ld):=λl w' hT=>by
  have hk:=hT.box hMX hB hbb hbt
  exact ⟨(blk_cell hk 0).trans rfl,(blk_cell hk 1).trans rfl,(blk_cell hk 2).trans rfl,(blk_cell hk 3).trans rfl⟩
 obtain ⟨x0,x1,x2,x3⟩:=hbx [] X h0
 have H0:=Lib.hid h0
 have HX:=Lib.hid (And.intro hX hbe)
 have HB:=Lib.hid hbx
 have HW:=Lib.hid hWX
 have hend:∀ l W,l=tells t s.now ⟨ev,enq,arr,ld⟩→Tld w0 base m sb s X tv l W→MPost w0 base m sb (s.more (tells t s.now ⟨ev,enq,arr,ld⟩)) (.tuple #[]) w tv (.returned (.tuple #[])) W:=λl W e hT=>by
  obtain ⟨⟨tv',hM,hWe⟩,_⟩:=hT
  rw [←e]
  exact ⟨rfl,tv',hM,(Went.nil HW.out).trans hWe⟩
 have HE:=Lib.hid hend
 clear hX hbe hWX hB h0 hbx h hend hMX hbb hbt
 have hcase:ev=1∨ev=2∨ev=6∨ev=3∨(ev≠1∧ev≠2∧ev≠6∧ev≠3):=by omega
 rcases hcase with rfl|rfl|rfl|rfl|⟨e1,e2,e6,e3⟩<;>cases enq<;>cases arr
 all_goals
  go_enter func42,ntmps42
  go_upto_region 1 with fail
  rw [←HX.out.1,←HX.out.2]
  go_wp2_with (go_at_call 44;(with_reducible refine (tld_more H0.out hl _ _ _ _ (by simp)).mono ?_);rintro e w2 ⟨rfl,hT⟩;obtain ⟨x0,x1,x2,x3⟩:=HB.out _ _ hT;have H0:=Lib.hid hT;clear hT)
  go_returns
  exact HE.out _ _ (by first|rfl|simp [tells,tellsE,tellsA,tellsV,e1,e2,e6,e3]) H0.out
end
end Go.Proofs.YtmnephejhkfchaaGreat

import Derived.Test.YtmnephejhkfchaaGreatMaDo
namespace Go.Proofs.YtmnephejhkfchaaGreat
set_option maxHeartbeats 8000000
open _root_.Go.Proofs.Tryz
open Go.RowKit Go.BigFrame
set_option linter.unusedVariables false
set_option maxRecDepth 100000
section
variable {w0 w:World} {base m sb:Nat} {s:MS} {tv:Value}
theorem MX (h:McAt w0 base w m sb s tv) (t:Int):Calls prog 10 #[.pointer (some ⟨m,0,none⟩),.int .i64 t] w λe w'=>e= .returned (.int .i64 (s.a.s.FD t))/\w=w':=by
 have c1:=h.c1;have vT:=Any.Bc h.lk.cell0;have nT:=s.a.KB;have cT:=Any.Jw h.lk t;exact zz7u
theorem Xy (h:McAt w0 base w m sb s tv):Calls prog 9 #[.pointer (some ⟨m,0,none⟩)] w λe w'=>e= .returned (.int .i64 s.a.s.n)/\w=w':=by
 have c1:=h.c1;have vT:=Any.CC h.lk.cell0;have nT:=s.a.PA;have cT:=Any.OW h.lk;exact zz7u
def Hj (w:World) (tr:List Ei) (e:Ending) (w':World):Prop:=
 ∃ sa c,e= .returned (.slice sa tr.length c)/\J1 Ei.cells 4 w' sa tr.length tr/\tr.length<=c/\c<=maxLen/\(∀ b,sa=some b->w.heap.size<=b.block/\b.block<w'.heap.size/\b.off=0/\b.spot=none)/\Wr Nil w w'
theorem Wp {w X w1:World} {tr:List Ei} {v:Value} (k:Wr Nil w X) (h:w1.ownsRow w.heap.size 48 4 v tr.length (tr.flatMap Ei.cells)) {o:Option Nat} (hg:X.grownBy w1 o) (ho:∀ j,o=some j->w.heap.size<=j):Hj w tr (.returned v) w1:=by
 obtain ⟨sa,c,e1,_,e3,e4⟩:=Mf Ei.ZU h (by decide);subst e1;refine ⟨sa,c,rfl,e3,?_,?_,e4,k.grown hg λj hj hlt=>by have:=ho j hj;unfold Nil;omega⟩
 ·rcases h.2 with ⟨e,e'⟩|⟨g,cap,cur,hv,_,_,hnc,_⟩
  ·rw [e'];exact Nat.zero_le _
  ·cases hv;exact hnc
 ·rcases h.2 with ⟨e,e'⟩|⟨g,cap,cur,hv,_,_,_,hcm,_⟩
  ·injection e with _ _ e;rw [e];exact Nat.zero_le _
  ·cases hv;exact hcm
theorem S3 {so:Option Addr} {cp:Nat} {tr:List Ei} (h:w.ownsRow base 48 4 (.slice so tr.length cp) tr.length (tr.flatMap Ei.cells)) (hn:tr.length<=1000000):
  Calls prog 21 #[.slice so tr.length cp] w (Hj w tr):=by
 obtain ⟨i0,hi,hz0,hz1,hz2⟩:=IK P5;have oQ:∀ (w:World) (a:Option Addr) (n c n' c':Nat),(binOp .eql 42 (.slice a n c) (.slice none n' c')).run prog w= .ok (.bool a.isNone) w:=λw a n c n' c'=>Lib.run_eql_slice_nil w _ _ a n c n' c' underlying42;have hx:=h;rcases h.2 with ⟨e,e0⟩|⟨g,cap,cur,hv,hb,hg,hnc,hcm,hcs,ht⟩
 ·obtain rfl:so=none:=by injection e
  have lU:tr=[]:=List.eq_nil_of_length_eq_zero e0;subst lU;have HP:=Qw (show Hj w [] (.returned (.slice none 0 0)) w from Wp (Wr.refl _ w) (World.ownsRow_nil _ _ _ _) (o:=none) ⟨rfl,rfl,rfl,Nat.le_refl _,λ_ _ _=>rfl⟩ λj hj=>by cases hj);clear h hx
  go_in
  go_wp2;go_ret;exact HP.out
 ·obtain rfl:so=some ⟨g,0,none⟩:=by injection hv
  have hnews:∀ j u,(tr.flatMap Ei.cells)[j]? =some u->w.cell? ((⟨g,0,none⟩:Addr).add j)=some u:=λj u hu=>by
   rw [Go.Addr.add_lit,Nat.zero_add,A1 hg,<-Array.getElem?_toList];rw [<-ht,List.getElem?_take] at hu;split at hu
   ·exact hu
   ·cases hu
  have hone:∀ u∈tr.flatMap Ei.cells,u.oneCell'=true:=λu hu=>by
   obtain ⟨e,_,hu⟩:=List.mem_flatMap.1 hu;exact L6 e u hu
  have hl:(tr.flatMap Ei.cells).length=tr.length*4:=CF Ei.ZU tr;have HN:=Qw (Qz hnews (Qz hone hl));clear h hx hv hg hnc hcm hcs ht hb hnews hone hl;generalize hxs:tr.flatMap Ei.cells=xs at*;have HX:=Qw hxs;clear hxs
  go_in
  go_wp2_with (at_builtin;refine wpList_append_own _ rfl _ _ 42 rfl w.heap.size 48 i0 (.agg #[.int .i64 0,.int .i64 0,.int .i64 0,.bool false]) 4 32 underlying42 hi hz0 hz1 hz2 rfl (by decide) _ _ _ rfl (World.ownsRow_made w #[] 0 (Nat.le_refl _) (Nat.zero_le _) rfl) ⟨g,0,none⟩ tr.length cp xs rfl ?mi ?mj ?ml ?mn ?mo ?mr ?_)
  case mi=>exact HN.out.2.2
  case mj=>intro j u hj;exact ((Wr.refl Nil w).alloc _).old (HN.out.1 j u hj)
  case ml=>exact HN.out.2.1
  case mn=>unfold maxLen;omega
  case mo=>omega
  case mr=>exact ((Wr.refl Nil w).alloc _).size
  intro v' w1 hown hgrow hnil;go_wp2;go_ret;exact Wp ((Wr.refl Nil w).alloc _) (by rw [HX.out];simpa using hown) hgrow (by intro j hj;simp [Value.ownBlock] at hj;omega)
theorem TI (h:McAt w0 base w m sb s tv) (hn:s.tr.length<=1000000):Calls prog 14 #[.pointer (some ⟨m,0,none⟩)] w (Hj w s.tr):=by
 obtain ⟨so,cp,rfl,_⟩:=Dt h.row;have c3:=h.c3;have cC:=S3 h.row hn;clear h;generalize s.tr=tr at*
 go_in
 go_wp2_with ((with_reducible refine cC.mono ?_);intro e w' hq;unfold Hj at hq;obtain ⟨sa,c,rfl,hR⟩:=hq;have HR:=Qw hR;clear hR)
 go_ret;exact ⟨sa,c,rfl,HR.out⟩
theorem Vp (h:McAt w0 base w m sb s tv) (n0:0<=s.now) (n1:s.now<=1000000) (x:Int):
  Calls prog 43 #[.pointer (some ⟨m,0,none⟩),.int .i64 x] w λe w'=>e= .returned (.int .i64 (s.dead x))/\w=w':=by
 have c2:=h.c2;clear h;unfold MS.dead;generalize s.now=now at*;by_cases p0:x<0
 ·rw [Qj p0]
  exact zzo
 ·rw [Qq p0]
  exact zzo
theorem MS.QX (s:MS) (l r:List Ei):(s.more l).more r=s.more (l++r):=by unfold MS.more;rw [List.append_assoc]
theorem MS.TN (s:MS):s.more []=s:=by unfold MS.more;rw [List.append_nil]
theorem MS.TM (s:MS) (l:List Ei):(s.more l).tr.length=s.tr.length+l.length:=List.length_append
def XS (w0:World) (base m sb:Nat) (s:MS) (w:World) (tv:Value) (l:List Ei) (w':World):Prop:=(∃ FE,McAt w0 base w' m sb (s.more l) FE/\Went s.a.q m sb w tv w' FE)/\l.length<=3
theorem U8 {w':World} {l:List Ei} (h:XS w0 base m sb s w tv l w') (hl:s.tr.length<=900000) (k t z:Int) (ld:Bool) (h2:l.length<=2):
  Calls prog 44 #[.pointer (some ⟨m,0,none⟩),.agg #[.int .i64 k,.int .i64 t,.int .i64 z,.bool ld]] w' λe w''=>e= .returned (.tuple #[])/\XS w0 base m sb s w tv (l++[⟨k,t,s.now,ld⟩]) w'':=by
 obtain ⟨⟨FE,hM,hW⟩,_⟩:=h;refine (NN hM k t z ld (by rw [MS.TM];omega)).mono ?_;rintro e w2 ⟨rfl,ZB,hA,Ba⟩;rw [MS.QX] at hA;exact ⟨rfl,⟨ZB,hA,hW.trans Ba⟩,by rw [List.length_append];show _+1<=3;omega⟩
theorem XS.box {w':World} {l:List Ei} {cs:Array Value} {ty:TypeId} {b:Nat} (h:XS w0 base m sb s w tv l w') (hM:McAt w0 base w m sb s tv) (hb:w.heap[b]? =some (.cells cs ty (0,0))) (hx:base<=b) (ht:tv.ownBlock≠some b):w'.heap[b]? =some (.cells cs ty (0,0)):=by
 obtain ⟨⟨FE,_,hW⟩,_⟩:=h;refine (hW.wr.block b (A2 hb) λe=> ?_).trans hb;have:=hM.low;rcases e with e|e|e|e
 ·omega
 ·omega
 ·omega
 ·exact ht e
theorem YY (h:McAt w0 base w m sb s tv) (t:Int) (d:Dd) (hl:s.tr.length<=900000):
  Calls prog 42 #[.pointer (some ⟨m,0,none⟩),.int .i64 t,.agg #[.int .i64 d.ev,.bool d.BW,.bool d.arr,.bool d.lead]] w (CE w0 base m sb (s.more (tells t s.now d)) (.tuple #[]) w tv):=by
 obtain ⟨ev,BW,arr,ld⟩:=d;dsimp only;obtain ⟨X,hX⟩:∃ X,X=w.alloc (.cells #[.int .i64 ev,.bool BW,.bool arr,.bool ld] 102):=⟨_,rfl⟩
 obtain ⟨b,eA⟩:∃ b,b=w.heap.size:=⟨_,rfl⟩
 have E_:Wr Nil w X:=by rw [hX];exact (Wr.refl _ w).alloc _
 have hB:X.heap[b]? =some (.cells #[.int .i64 ev,.bool BW,.bool arr,.bool ld] 102 (0,0)):=by rw [hX,eA];exact Go.Deep.blk_alloc_new _ _
 have Yx:=h.after E_;have hbb:base<=b:=by rw [eA];exact h.top
 have fw:tv.ownBlock≠some b:=λe=>by have:=h.lt b e;omega
 have h0:XS w0 base m sb s X tv [] X:=⟨⟨tv,by rw [MS.TN];exact Yx,Went.nil (Wr.refl _ _)⟩,Nat.zero_le 3⟩
 have Fy:∀ l w',XS w0 base m sb s X tv l w'->w'.cell? ⟨b,0,none⟩=some (.int .i64 ev)/\w'.cell? ⟨b,1,none⟩=some (.bool BW)/\w'.cell? ⟨b,2,none⟩=some (.bool arr)/\w'.cell? ⟨b,3,none⟩=some (.bool ld):=λl w' hT=>by
  have hk:=hT.box Yx hB hbb fw;exact ⟨(A1 hk 0).trans rfl,(A1 hk 1).trans rfl,(A1 hk 2).trans rfl,(A1 hk 3).trans rfl⟩
 obtain ⟨x0,x1,x2,x3⟩:=Fy [] X h0;have H0:=Qw h0;have HX:=Qw (Qz hX eA);have HB:=Qw Fy;have HW:=Qw E_;have hend:∀ l W,l=tells t s.now ⟨ev,BW,arr,ld⟩->XS w0 base m sb s X tv l W->CE w0 base m sb (s.more (tells t s.now ⟨ev,BW,arr,ld⟩)) (.tuple #[]) w tv (.returned (.tuple #[])) W:=λl W e hT=>by
  obtain ⟨⟨FE,hM,GC⟩,_⟩:=hT;rw [<-e];exact ⟨rfl,FE,hM,(Went.nil HW.out).trans GC⟩
 have HE:=Qw hend;clear hX eA E_ hB h0 Fy h hend Yx hbb fw;have Zv:ev=1\/ev=2\/ev=6\/ev=3\/(ev≠1/\ev≠2/\ev≠6/\ev≠3):=by omega
 rcases Zv with rfl|rfl|rfl|rfl|⟨e1,e2,e6,e3⟩<;>cases BW<;>cases arr
 all_goals
  go_in
  go_upto_region 1 with fail
  rw [<-HX.out.1,<-HX.out.2];go_wp2_with ((with_reducible refine (U8 H0.out hl _ _ _ _ (by simp)).mono ?_);rintro e w2 ⟨rfl,hT⟩;obtain ⟨x0,x1,x2,x3⟩:=HB.out _ _ hT;have H0:=Qw hT;clear hT)
  go_returns;exact HE.out _ _ (by first|rfl|simp [tells,OD,OC,OE,e1,e2,e6,e3]) H0.out
end
end Go.Proofs.YtmnephejhkfchaaGreat

import Derived.Test.YteokghghpmppnaaGreatBuFirst
namespace Go.Proofs.YteokghghpmppnaaGreat
set_option maxHeartbeats 8000000
open _root_.Go.Proofs.Tryz Go.Deep
open Go.RowKit Go.BigFrame
set_option linter.unusedVariables false
set_option maxRecDepth 100000
def CpPost (w:World) (n:Nat) (zs:List Int) (e:Ending) (w':World):Prop:=
 ∃ sa c,e= .returned (.slice sa n c)∧RowAt .i64 w' sa n zs∧(∀ b,sa=some b→w.heap.size≤b.block∧b.block<w'.heap.size∧b.off=0∧b.spot=none∧∀ j,w'.frozen? ⟨b.block,j,none⟩=false)∧Wr Nil w w'
theorem on_set {w w':World} {b k:Nat} {v:Value} (h:Wr (One b) w w'):Wr (One b) w (w'.setCell ⟨b,k,none⟩ v):=h.setCell _ _ λ_=>rfl
theorem i_int9:(prog.info? 3).map (λi=>(i.zero,i.size,i.bytes))=some (some (.int .i64 0),1,8):=by kernel_rfl
theorem copied {w X w1:World} {n:Nat} {zs:List Int} {v:Value} (k:Wr Nil w X) (h:w1.ownsRow w.heap.size 3 1 v n (zs.map (Value.int .i64))) {o:Option Nat} (hg:X.grownBy w1 o) (ho:∀ j,o=some j→w.heap.size≤j):CpPost w n zs (.returned v) w1:=by
 obtain ⟨sa,c,rfl,_,_,hr,hb⟩:=own_rowAt h
 exact ⟨sa,c,rfl,hr,hb,k.grown hg λj hj hlt=>by have:=ho j hj;unfold Nil;omega⟩
theorem cl_any {w:World} {a:Addr} {n c:Nat} {zs:List Int} (hr:RowAt .i64 w (some a) n zs) (hn:n≤1000):
  Calls prog 41 #[.slice (some a) n c] w (CpPost w n zs):=by
 obtain ⟨i0,hi,hz0,hz1,hz2⟩:=info_parts i_int9
 have hlen:=hr.len
 have hnews:=hr.news
 have q22:∀ (w:World) (a:Option Addr) (n c n' c':Nat),(binOp .eql 22 (.slice a n c) (.slice none n' c')).run prog w= .ok (.bool a.isNone) w:=λw a n c n' c'=>Lib.run_eql_slice_nil w _ _ a n c n' c' underlying22
 have HN:=Lib.hid hnews
 clear hr hnews
 go_enter func41,ntmps41
 go_wp2_with (at_builtin;refine wpList_append_own _ rfl _ _ 22 rfl w.heap.size 3 i0 (.int .i64 0) 1 8 underlying22 hi hz0 hz1 hz2 rfl (by decide) _ _ _ rfl (World.ownsRow_made w #[] 0 (Nat.le_refl _) (Nat.zero_le _) rfl) a n c (zs.map (Value.int .i64)) rfl ?qc1 ?qc2 ?qc3 ?qc4 ?qc5 ?qc6 ?_)
 case qc1=>simp;omega
 case qc2=>intro j u hj;exact ((Wr.refl Nil w).alloc _).old (HN.out _ rfl j u hj)
 case qc3=>intro u hu;obtain ⟨x,_,rfl⟩:=List.mem_map.1 hu;rfl
 case qc4=>unfold maxLen;omega
 case qc5=>omega
 case qc6=>exact ((Wr.refl Nil w).alloc _).size
 intro v' w1 hown hgrow hnil
 go_wp2
 go_ret
 exact copied ((Wr.refl Nil w).alloc _) (by simpa using hown) hgrow (by intro j hj;simp [Value.ownBlock] at hj;omega)
def MkAt (w:World) (b:Nat) (d st md:Int) (cf:Fin 8→Value) (l p:Value) (x:Int):Prop:=
 w.heap[b]? =some (.cells #[.int .u32 d,.int .i32 st,.int .u32 0,.int .u32 md,cf 0,cf 1,cf 2,cf 3,cf 4,cf 5,cf 6,cf 7,l,p,.int .i64 x] 126 (0,0))
def cfOf (kd:Int) (s:Value) (v sz pl B G D:Int):Fin 8→Value:=λi=>(#[.int .i64 kd,s,.int .u32 v,.int .i64 sz,.int .i64 pl,.int .i64 B,.int .i64 G,.int .i64 D]:Array Value)[i.val]!
def zfOf:Fin 8→Value:=cfOf 0 (.slice none 0 0) 0 0 0 0 0 0
namespace MkAt
variable {w w':World} {b:Nat} {d st md:Int} {cf:Fin 8→Value} {l p:Value} {x:Int}
theorem wrote {S:Nat→Prop} (h:MkAt w b d st md cf l p x) (k:Wr S w w') (hS:¬ S b):MkAt w' b d st md cf l p x:=(k.block b (blk_lt h) hS).trans h
theorem after (h:MkAt w b d st md cf l p x) (k:Wr Nil w w'):MkAt w' b d st md cf l p x:=h.wrote k id
theorem c0 (h:MkAt w b d st md cf l p x):w.cell? ⟨b,0,none⟩=some (.int .u32 d):=by rw [blk_cell h];rfl
theorem c1 (h:MkAt w b d st md cf l p x):w.cell? ⟨b,1,none⟩=some (.int .i32 st):=by rw [blk_cell h];rfl
theorem c3 (h:MkAt w b d st md cf l p x):w.cell? ⟨b,3,none⟩=some (.int .u32 md):=by rw [blk_cell h];rfl
theorem c4 (h:MkAt w b d st md cf l p x):w.cell? ⟨b,4,none⟩=some (cf 0):=by rw [blk_cell h];rfl
theorem c5 (h:MkAt w b d st md cf l p x):w.cell? ⟨b,5,none⟩=some (cf 1):=by rw [blk_cell h];rfl
theorem c6 (h:MkAt w b d st md cf l p x):w.cell? ⟨b,6,none⟩=some (cf 2):=by rw [blk_cell h];rfl
theorem c7 (h:MkAt w b d st md cf l p x):w.cell? ⟨b,7,none⟩=some (cf 3):=by rw [blk_cell h];rfl
theorem c8 (h:MkAt w b d st md cf l p x):w.cell? ⟨b,8,none⟩=some (cf 4):=by rw [blk_cell h];rfl
theorem c9 (h:MkAt w b d st md cf l p x):w.cell? ⟨b,9,none⟩=some (cf 5):=by rw [blk_cell h];rfl
theorem c10 (h:MkAt w b d st md cf l p x):w.cell? ⟨b,10,none⟩=some (cf 6):=by rw [blk_cell h];rfl
theorem c11 (h:MkAt w b d st md cf l p x):w.cell? ⟨b,11,none⟩=some (cf 7):=by rw [blk_cell h];rfl
theorem c12 (h:MkAt w b d st md cf l p x):w.cell? ⟨b,12,none⟩=some l:=by rw [blk_cell h];rfl
theorem c13 (h:MkAt w b d st md cf l p x):w.cell? ⟨b,13,none⟩=some p:=by rw [blk_cell h];rfl
theorem c14 (h:MkAt w b d st md cf l p x):w.cell? ⟨b,14,none⟩=some (.int .i64 x):=by rw [blk_cell h];rfl
theorem fz (h:MkAt w b d st md cf l p x) (k:Nat):w.frozen? ⟨b,k,none⟩=false:=blk_frozen h k
theorem s0 (h:MkAt w b d st md cf l p x) (y:Int):MkAt (w.setCell ⟨b,0,none⟩ (.int .u32 y)) b y st md cf l p x:=by unfold MkAt;rw [blk_setCell h];rfl
theorem s1 (h:MkAt w b d st md cf l p x) (y:Int):MkAt (w.setCell ⟨b,1,none⟩ (.int .i32 y)) b d y md cf l p x:=by unfold MkAt;rw [blk_setCell h];rfl
theorem s3 (h:MkAt w b d st md cf l p x) (y:Int):MkAt (w.setCell ⟨b,3,none⟩ (.int .u32 y)) b d st y cf l p x:=by unfold MkAt;rw [blk_setCell h];rfl
theorem s12 (h:MkAt w b d st md cf l p x) (y:Value):MkAt (w.setCell ⟨b,12,none⟩ y) b d st md cf y p x:=by unfold MkAt;rw [blk_setCell h];rfl
theorem s13 (h:MkAt w b d st md cf l p x) (y:Value):MkAt (w.setCell ⟨b,13,none⟩ y) b d st md cf l y x:=by unfold MkAt;rw [blk_setCell h];rfl
theorem s14 (h:MkAt w b d st md cf l p x) (y:Int):MkAt (w.setCell ⟨b,14,none⟩ (.int .i64 y)) b d st md cf l p y:=by unfold MkAt;rw [blk_setCell h];rfl
theorem t0 (h:MkAt w b d st md cf l p x) (y:Value):MkAt (w.setCell ⟨b,4,none⟩ y) b d st md (λi=>if i=0 then y else cf i) l p x:=by unfold MkAt;rw [blk_setCell h];rfl
theorem t1 (h:MkAt w b d st md cf l p x) (y:Value):MkAt (w.setCell ⟨b,5,none⟩ y) b d st md (λi=>if i=1 then y else cf i) l p x:=by unfold MkAt;rw [blk_setCell h];rfl
theorem t2 (h:MkAt w b d st md cf l p x) (y:Value):MkAt (w.setCell ⟨b,6,none⟩ y) b d st md (λi=>if i=2 then y else cf i) l p x:=by unfold MkAt;rw [blk_setCell h];rfl
theorem t3 (h:MkAt w b d st md cf l p x) (y:Value):MkAt (w.setCell ⟨b,7,none⟩ y) b d st md (λi=>if i=3 then y else cf i) l p x:=by unfold MkAt;rw [blk_setCell h];rfl
theorem t4 (h:MkAt w b d st md cf l p x) (y:Value):MkAt (w.setCell ⟨b,8,none⟩ y) b d st md (λi=>if i=4 then y else cf i) l p x:=by unfold MkAt;rw [blk_setCell h];rfl
theorem t5 (h:MkAt w b d st md cf l p x) (y:Value):MkAt (w.setCell ⟨b,9,none⟩ y) b d st md (λi=>if i=5 then y else cf i) l p x:=by unfold MkAt;rw [blk_setCell h];rfl
theorem t6 (h:MkAt w b d st md cf l p x) (y:Value):MkAt (w.setCell ⟨b,10,none⟩ y) b d st md (λi=>if i=6 then y else cf i) l p x:=by unfold MkAt;rw [blk_setCell h];rfl
theorem t7 (h:MkAt w b d st md cf l p x) (y:Value):MkAt (w.setCell ⟨b,11,none⟩ y) b d st md (λi=>if i=7 then y else cf i) l p x:=by unfold MkAt;rw [blk_setCell h];rfl
theorem cfgs (h:MkAt w b d st md cf l p x):MkAt ((((((((w.setCell ⟨b,4,none⟩ (.int .i64 0)).setCell ⟨b,5,none⟩ (.slice none 0 0)).setCell ⟨b,6,none⟩ (.int .u32 0)).setCell ⟨b,7,none⟩ (.int .i64 0)).setCell ⟨b,8,none⟩ (.int .i64 0)).setCell ⟨b,9,none⟩ (.int .i64 0)).setCell ⟨b,10,none⟩ (.int .i64 0)).setCell ⟨b,11,none⟩ (.int .i64 0)) b d st md zfOf l p x:=by
 have hh:=((((((((h.t0 (.int .i64 0)).t1 (.slice none 0 0)).t2 (.int .u32 0)).t3 (.int .i64 0)).t4 (.int .i64 0)).t5 (.int .i64 0)).t6 (.int .i64 0)).t7 (.int .i64 0))
 refine (congrArg (λg=>MkAt ((((((((w.setCell ⟨b,4,none⟩ (.int .i64 0)).setCell ⟨b,5,none⟩ (.slice none 0 0)).setCell ⟨b,6,none⟩ (.int .u32 0)).setCell ⟨b,7,none⟩ (.int .i64 0)).setCell ⟨b,8,none⟩ (.int .i64 0)).setCell ⟨b,9,none⟩ (.int .i64 0)).setCell ⟨b,10,none⟩ (.int .i64 0)).setCell ⟨b,11,none⟩ (.int .i64 0)) b d st md g l p x) ?_).mp hh
 funext i
 obtain ⟨i,hi⟩:=i
 have:i=0∨i=1∨i=2∨i=3∨i=4∨i=5∨i=6∨i=7:=by omega
 rcases this with rfl|rfl|rfl|rfl|rfl|rfl|rfl|rfl<;>rfl
end MkAt
def LtPost (w:World) (n:Nat) (zs:List Int) (kd v sz pl B G D:Int) (e:Ending) (w':World):Prop:=
 ∃ b sa c,e= .returned (.pointer (some ⟨b,0,none⟩))∧MkAt w' b 0 0 0 (cfOf kd (.slice sa n c) v sz pl B G D) .nilIface (.pointer none) 0∧RowAt .i64 w' sa n zs∧w.heap.size≤b∧(∀ x,sa=some x→w.heap.size≤x.block∧x.block≠b)∧Wr Nil w w'
theorem later_any {w:World} {a:Addr} {n c:Nat} {zs:List Int} {kd v sz pl B G D:Int} (hr:RowAt .i64 w (some a) n zs) (hn:n≤1000):
  Calls prog 16 #[.agg #[.int .i64 kd,.slice (some a) n c,.int .u32 v,.int .i64 sz,.int .i64 pl,.int .i64 B,.int .i64 G,.int .i64 D]] w (LtPost w n zs kd v sz pl B G D):=by
 obtain ⟨X,hX⟩:∃ X,X=w.alloc (.cells #[.int .i64 kd,.slice (some a) n c,.int .u32 v,.int .i64 sz,.int .i64 pl,.int .i64 B,.int .i64 G,.int .i64 D] 25):=⟨_,rfl⟩
 have hWX:Wr Nil w X:=by rw [hX];exact (Wr.refl _ w).alloc _
 have hblk:X.heap[w.heap.size]? =some (.cells #[.int .i64 kd,.slice (some a) n c,.int .u32 v,.int .i64 sz,.int .i64 pl,.int .i64 B,.int .i64 G,.int .i64 D] 25 (0,0)):=by rw [hX];exact blk_alloc_new _ _
 have x1:X.cell? ⟨w.heap.size,1,none⟩=some (.slice (some a) n c):=(blk_cell hblk 1).trans rfl
 have cC:=cl_any (c:=c) (hr.after hWX) hn
 have HX:=Lib.hid (And.intro hX (And.intro hWX hblk))
 clear hX hWX hblk hr
 go_enter func16,ntmps16
 go_wp2_with (first
  |(go_at_call 41;rw [←HX.out.1];(with_reducible refine cC.mono ?_);intro e w1 hq;unfold CpPost at hq;obtain ⟨sa,c',rfl,hr1,hb1,hW1⟩:=hq;have hk:=(hW1.block _ (blk_lt HX.out.2.2) id).trans HX.out.2.2;have y0:=(blk_cell hk 0).trans rfl;have y1:=(blk_cell hk 1).trans rfl;have y2:=(blk_cell hk 2).trans rfl;have y3:=(blk_cell hk 3).trans rfl;have y4:=(blk_cell hk 4).trans rfl;have y5:=(blk_cell hk 5).trans rfl;have y6:=(blk_cell hk 6).trans rfl;have y7:=(blk_cell hk 7).trans rfl;have yf:=blk_frozen hk 1;have H1:=Lib.hid (And.intro hr1 (And.intro hb1 (And.intro hW1 hk)));clear hr1 hb1 hW1 hk cC))
 go_ret
 obtain ⟨hr1,hb1,hW1,hk⟩:=H1.out
 have hsz:=(HX.out.2.1.nil hW1).size
 have hX1:X.heap.size=w.heap.size+1:=by rw [HX.out.1];exact nblk_alloc _ _
 have hS:Wr (One w.heap.size) w1 (w1.setCell ⟨w.heap.size,1,none⟩ (.slice sa n c')):=(Wr.refl _ w1).setCell _ _ λ_=>rfl
 have hS2:(w1.setCell ⟨w.heap.size,1,none⟩ (.slice sa n c')).heap.size=w1.heap.size:=nblk_setCell _ _ _
 have hlt:=blk_lt hk
 have hal:=(Wr.refl Nil (w1.setCell ⟨w.heap.size,1,none⟩ (.slice sa n c'))).alloc (.cells #[.int .u32 0,.int .i32 0,.int .u32 0,.int .u32 0,.int .i64 kd,.slice sa n c',.int .u32 v,.int .i64 sz,.int .i64 pl,.int .i64 B,.int .i64 G,.int .i64 D,.nilIface,.pointer none,.int .i64 0] 126)
 refine ⟨w1.heap.size,sa,c',rfl,?_,(hr1.wrote hS λb hb e=>by have:=hb1 b hb;unfold One at e;omega).after hal,by omega,λb hb=>by have:=hb1 b hb;omega,?_⟩
 ·have h:=blk_alloc_new (w1.setCell ⟨w.heap.size,1,none⟩ (.slice sa n c')) (.cells #[.int .u32 0,.int .i32 0,.int .u32 0,.int .u32 0,.int .i64 kd,.slice sa n c',.int .u32 v,.int .i64 sz,.int .i64 pl,.int .i64 B,.int .i64 G,.int .i64 D,.nilIface,.pointer none,.int .i64 0] 126)
  rw [hS2] at h
  exact h
 ·exact ((HX.out.2.1.nil hW1).trans hS λb hb e=>by unfold One at e;unfold Nil;omega).nil hal
def NwG (Y:World) (Pf:Value→Value→Int→World→Prop) (V:Value):Prop:=∀ W,Wr Nil Y W→Calls prog 11 #[V] W λe w'=>∃ ty l p x,e= .returned (.tuple #[.iface ty l,.pointer p,.int .i64 x])∧Pf (.iface ty l) (.pointer p) x w'∧Wr Nil W w'
theorem ck_G {Y:World} {b B0:Nat} {d st:Int} {kd v sz pl B G D:Int} {s l0 p0:Value} {x0:Int} {Pf:Value→Value→Int→World→Prop} (hM:MkAt Y b d st 0 (cfOf kd s v sz pl B G D) l0 p0 x0) (hp:Y.cell? ⟨B0,0,none⟩=some (.pointer (some ⟨b,0,none⟩))) (hpb:B0≠b)
  (hN:NwG Y Pf (.agg #[.int .i64 kd,s,.int .u32 v,.int .i64 sz,.int .i64 pl,.int .i64 B,.int .i64 G,.int .i64 D])) (keep:∀ l p x w w',Pf l p x w→Wr (One b) w w'→Pf l p x w'):
  Calls prog 44 #[.pointer (some ⟨B0,0,none⟩)] Y λe w'=>e= .returned (.tuple #[])∧∃ ty l p x,Pf (.iface ty l) (.pointer p) x w'∧MkAt w' b d st 1 zfOf (.iface ty l) (.pointer p) x∧Wr (One b) Y w':=by
 have k4:Y.cell? ⟨b,4,none⟩=some (.int .i64 kd):=hM.c4
 have k5:Y.cell? ⟨b,5,none⟩=some s:=hM.c5
 have k6:Y.cell? ⟨b,6,none⟩=some (.int .u32 v):=hM.c6
 have k7:Y.cell? ⟨b,7,none⟩=some (.int .i64 sz):=hM.c7
 have k8:Y.cell? ⟨b,8,none⟩=some (.int .i64 pl):=hM.c8
 have k9:Y.cell? ⟨b,9,none⟩=some (.int .i64 B):=hM.c9
 have ka:Y.cell? ⟨b,10,none⟩=some (.int .i64 G):=hM.c10
 have kb:Y.cell? ⟨b,11,none⟩=some (.int .i64 D):=hM.c11
 unfold NwG at hN
 have hpb2:¬ b=B0:=λe=>hpb e.symm
 have HM:=Lib.hid (And.intro hM (And.intro hN keep))
 clear hM hN keep
 go_enter func44,ntmps44
 go_wp2
 have P0:Y.drew.cell? ⟨B0,0,none⟩=some (.pointer (some ⟨b,0,none⟩)):=hp
 have K4:Y.drew.cell? ⟨b,4,none⟩=some (.int .i64 kd):=k4
 have K5:Y.drew.cell? ⟨b,5,none⟩=some s:=k5
 have K6:Y.drew.cell? ⟨b,6,none⟩=some (.int .u32 v):=k6
 have K7:Y.drew.cell? ⟨b,7,none⟩=some (.int .i64 sz):=k7
 have K8:Y.drew.cell? ⟨b,8,none⟩=some (.int .i64 pl):=k8
 have K9:Y.drew.cell? ⟨b,9,none⟩=some (.int .i64 B):=k9
 have Ka:Y.drew.cell? ⟨b,10,none⟩=some (.int .i64 G):=ka
 have Kb:Y.drew.cell? ⟨b,11,none⟩=some (.int .i64 D):=kb
 go_region_held3 (λw'=>w'.cell? ⟨B0,0,none⟩=some (.pointer (some ⟨b,0,none⟩))∧w'.cell? ⟨b,4,none⟩=some (.int .i64 kd)∧w'.cell? ⟨b,5,none⟩=some s∧w'.cell? ⟨b,6,none⟩=some (.int .u32 v)∧w'.cell? ⟨b,7,none⟩=some (.int .i64 sz)∧w'.cell? ⟨b,8,none⟩=some (.int .i64 pl)∧w'.cell? ⟨b,9,none⟩=some (.int .i64 B)∧w'.cell? ⟨b,10,none⟩=some (.int .i64 G)∧w'.cell? ⟨b,11,none⟩=some (.int .i64 D))
  (first|with_reducible exact ⟨q0,q4,q5,q6,q7,q8,q9,qa,qb⟩|exact ⟨P0,K4,K5,K6,K7,K8,K9,Ka,Kb⟩|(refine ⟨?_,?_,?_,?_,?_,?_,?_,?_,?_⟩<;>((repeat rw [World.cell?_setCell_other _ _ _ _ (by simp)])<;>assumption)))
  (first
  |(go_at_call 11;(with_reducible refine (HM.out.2.1 _ ((Wr.refl Nil Y).drew)).mono ?_);intro e w2 hq;obtain ⟨ty,l,p,x,rfl,hPf,hW⟩:=hq;have q0:=hW.old P0;have q4:=hW.old K4;have q5:=hW.old K5;have q6:=hW.old K6;have q7:=hW.old K7;have q8:=hW.old K8;have q9:=hW.old K9;have qa:=hW.old Ka;have qb:=hW.old Kb;have hM2:=(HM.out.1.after ((Wr.refl Nil Y).drew)).after hW;have g12:=hM2.c12;have g13:=hM2.c13;have g14:=hM2.c14;have z12:=hM2.fz 12;have z13:=hM2.fz 13;have z14:=hM2.fz 14;have HQ:=Lib.hid (And.intro hPf (And.intro hW hM2));clear hPf hW hM2))
 obtain ⟨hPf,hW,hM2⟩:=HQ.out
 have hM3:=((hM2.s12 (.iface ty l)).s13 (.pointer p)).s14 x
 have hW3:Wr (One b) w2 (((w2.setCell ⟨b,12,none⟩ (.iface ty l)).setCell ⟨b,13,none⟩ (.pointer p)).setCell ⟨b,14,none⟩ (.int .i64 x)):=on_set (on_set (on_set (Wr.refl (One b) w2)))
 obtain ⟨Z,hZ⟩:∃ Z,Z=((w2.setCell ⟨b,12,none⟩ (.iface ty l)).setCell ⟨b,13,none⟩ (.pointer p)).setCell ⟨b,14,none⟩ (.int .i64 x):=⟨_,rfl⟩
 rw [←hZ] at hM3 hW3
 rw [←hZ]
 have hPz:=HM.out.2.2 _ _ _ _ _ hPf hW3
 have pz:Z.cell? ⟨B0,0,none⟩=some (.pointer (some ⟨b,0,none⟩)):=hW3.cell q0 (λe=>hpb e)
 have hWz:Wr (One b) Y Z:=((((Wr.refl Nil Y).drew).nil hW).mono (T:=One b) λ_ _ e=>e.elim).trans hW3 λ_ _ e=>e
 have hNest:Wr (One b) Z (((((((((Z.setCell ⟨b,4,none⟩ (.int .i64 0)).setCell ⟨b,5,none⟩ (.slice none 0 0)).setCell ⟨b,6,none⟩ (.int .u32 0)).setCell ⟨b,7,none⟩ (.int .i64 0)).setCell ⟨b,8,none⟩ (.int .i64 0)).setCell ⟨b,9,none⟩ (.int .i64 0)).setCell ⟨b,10,none⟩ (.int .i64 0)).setCell ⟨b,11,none⟩ (.int .i64 0))):=(on_set (on_set (on_set (on_set (on_set (on_set (on_set (on_set (Wr.refl (One b) Z)))))))))
 have hM4:=hM3.cfgs
 have pz4:=hNest.cell pz (λe=>hpb e)
 have e0:=hM3.c4;have e1:=hM3.c5;have e2:=hM3.c6;have e3:=hM3.c7;have e4:=hM3.c8;have e5:=hM3.c9;have e6:=hM3.c10;have e7:=hM3.c11
 have f0:=hM3.fz 4;have f1:=hM3.fz 5;have f2:=hM3.fz 6;have f3:=hM3.fz 7;have f4:=hM3.fz 8;have f5:=hM3.fz 9;have f6:=hM3.fz 10;have f7:=hM3.fz 11
 have cS:=so_store ⟨b,3,none⟩ _ _ hM4.c3 (hM4.fz 3)
 have HZ:=Lib.hid (And.intro hPz (And.intro hWz (And.intro hNest hM4)))
 clear hPf hW hM2 hM3 hW3 hZ hPz hWz hNest hM4 HQ q0 q4 q5 q6 q7 q8 q9 qa qb g12 g13 g14 z12 z13 z14
 have held:True:=trivial
 go_wp2_with (first
  |(go_at_call 45;(with_reducible refine cS.mono ?_);rintro e w5 ⟨rfl,rfl⟩))
 go_end0
 obtain ⟨hPz,hWz,hNest,hM4⟩:=HZ.out
 generalize ((((((((Z.setCell ⟨b,4,none⟩ (.int .i64 0)).setCell ⟨b,5,none⟩ (.slice none 0 0)).setCell ⟨b,6,none⟩ (.int .u32 0)).setCell ⟨b,7,none⟩ (.int .i64 0)).setCell ⟨b,8,none⟩ (.int .i64 0)).setCell ⟨b,9,none⟩ (.int .i64 0)).setCell ⟨b,10,none⟩ (.int .i64 0)).setCell ⟨b,11,none⟩ (.int .i64 0))=N4 at*
 have hT:Wr (One b) Z (N4.setCell ⟨b,3,none⟩ (.int .u32 1)).drew:=(on_set hNest).drew
 exact ⟨rfl,ty,l,p,x,HM.out.2.2 _ _ _ _ _ hPz hT,(hM4.s3 1).after ((Wr.refl Nil _).drew),hWz.trans hT λ_ _ e=>e⟩
def NwN (Y:World) (Pf:Value→Value→Int→World→Prop) (V:Value):Prop:=∀ W,Wr Nil Y W→Calls prog 11 #[V] W λe w'=>∃ p x,e= .returned (.tuple #[.nilIface,.pointer p,.int .i64 x])∧Pf .nilIface (.pointer p) x w'∧Wr Nil W w'
theorem ck_N {Y:World} {b B0:Nat} {d st:Int} {kd v sz pl B G D:Int} {s l0 p0:Value} {x0:Int} {Pf:Value→Value→Int→World→Prop} (hM:MkAt Y b d st 0 (cfOf kd s v sz pl B G D) l0 p0 x0) (hp:Y.cell? ⟨B0,0,none⟩=some (.pointer (some ⟨b,0,none⟩))) (hpb:B0≠b)
  (hN:NwN Y Pf (.agg #[.int .i64 kd,s,.int .u32 v,.int .i64 sz,.int .i64 pl,.int .i64 B,.int .i64 G,.int .i64 D])) (keep:∀ l p x w w',Pf l p x w→Wr (One b) w w'→Pf l p x w'):
  Calls prog 44 #[.pointer (some ⟨B0,0,none⟩)] Y λe w'=>e= .returned (.tuple #[])∧∃ p x,Pf .nilIface (.pointer p) x w'∧MkAt w' b d st 1 zfOf .nilIface (.pointer p) x∧Wr (One b) Y w':=by
 have k4:Y.cell? ⟨b,4,none⟩=some (.int .i64 kd):=hM.c4
 have k5:Y.cell? ⟨b,5,none⟩=some s:=hM.c5
 have k6:Y.cell? ⟨b,6,none⟩=some (.int .u32 v):=hM.c6
 have k7:Y.cell? ⟨b,7,none⟩=some (.int .i64 sz):=hM.c7
 have k8:Y.cell? ⟨b,8,none⟩=some (.int .i64 pl):=hM.c8
 have k9:Y.cell? ⟨b,9,none⟩=some (.int .i64 B):=hM.c9
 have ka:Y.cell? ⟨b,10,none⟩=some (.int .i64 G):=hM.c10
 have kb:Y.cell? ⟨b,11,none⟩=some (.int .i64 D):=hM.c11
 unfold NwN at hN
 have hpb2:¬ b=B0:=λe=>hpb e.symm
 have HM:=Lib.hid (And.intro hM (And.intro hN keep))
 clear hM hN keep
 go_enter func44,ntmps44
 go_wp2
 have P0:Y.drew.cell? ⟨B0,0,none⟩=some (.pointer (some ⟨b,0,none⟩)):=hp
 have K4:Y.drew.cell? ⟨b,4,none⟩=some (.int .i64 kd):=k4
 have K5:Y.drew.cell? ⟨b,5,none⟩=some s:=k5
 have K6:Y.drew.cell? ⟨b,6,none⟩=some (.int .u32 v):=k6
 have K7:Y.drew.cell? ⟨b,7,none⟩=some (.int .i64 sz):=k7
 have K8:Y.drew.cell? ⟨b,8,none⟩=some (.int .i64 pl):=k8
 have K9:Y.drew.cell? ⟨b,9,none⟩=some (.int .i64 B):=k9
 have Ka:Y.drew.cell? ⟨b,10,none⟩=some (.int .i64 G):=ka
 have Kb:Y.drew.cell? ⟨b,11,none⟩=some (.int .i64 D):=kb
 go_region_held3 (λw'=>w'.cell? ⟨B0,0,none⟩=some (.pointer (some ⟨b,0,none⟩))∧w'.cell? ⟨b,4,none⟩=some (.int .i64 kd)∧w'.cell? ⟨b,5,none⟩=some s∧w'.cell? ⟨b,6,none⟩=some (.int .u32 v)∧w'.cell? ⟨b,7,none⟩=some (.int .i64 sz)∧w'.cell? ⟨b,8,none⟩=some (.int .i64 pl)∧w'.cell? ⟨b,9,none⟩=some (.int .i64 B)∧w'.cell? ⟨b,10,none⟩=some (.int .i64 G)∧w'.cell? ⟨b,11,none⟩=some (.int .i64 D))
  (first|with_reducible exact ⟨q0,q4,q5,q6,q7,q8,q9,qa,qb⟩|exact ⟨P0,K4,K5,K6,K7,K8,K9,Ka,Kb⟩|(refine ⟨?_,?_,?_,?_,?_,?_,?_,?_,?_⟩<;>((repeat rw [World.cell?_setCell_other _ _ _ _ (by simp)])<;>assumption)))
  (first
  |(go_at_call 11;(with_reducible refine (HM.out.2.1 _ ((Wr.refl Nil Y).drew)).mono ?_);intro e w2 hq;obtain ⟨p,x,rfl,hPf,hW⟩:=hq;have q0:=hW.old P0;have q4:=hW.old K4;have q5:=hW.old K5;have q6:=hW.old K6;have q7:=hW.old K7;have q8:=hW.old K8;have q9:=hW.old K9;have qa:=hW.old Ka;have qb:=hW.old Kb;have hM2:=(HM.out.1.after ((Wr.refl Nil Y).drew)).after hW;have g12:=hM2.c12;have g13:=hM2.c13;have g14:=hM2.c14;have z12:=hM2.fz 12;have z13:=hM2.fz 13;have z14:=hM2.fz 14;have HQ:=Lib.hid (And.intro hPf (And.intro hW hM2));clear hPf hW hM2))
 obtain ⟨hPf,hW,hM2⟩:=HQ.out
 have hM3:=((hM2.s12 (.nilIface)).s13 (.pointer p)).s14 x
 have hW3:Wr (One b) w2 (((w2.setCell ⟨b,12,none⟩ (.nilIface)).setCell ⟨b,13,none⟩ (.pointer p)).setCell ⟨b,14,none⟩ (.int .i64 x)):=on_set (on_set (on_set (Wr.refl (One b) w2)))
 obtain ⟨Z,hZ⟩:∃ Z,Z=((w2.setCell ⟨b,12,none⟩ (.nilIface)).setCell ⟨b,13,none⟩ (.pointer p)).setCell ⟨b,14,none⟩ (.int .i64 x):=⟨_,rfl⟩
 rw [←hZ] at hM3 hW3
 rw [←hZ]
 have hPz:=HM.out.2.2 _ _ _ _ _ hPf hW3
 have pz:Z.cell? ⟨B0,0,none⟩=some (.pointer (some ⟨b,0,none⟩)):=hW3.cell q0 (λe=>hpb e)
 have hWz:Wr (One b) Y Z:=((((Wr.refl Nil Y).drew).nil hW).mono (T:=One b) λ_ _ e=>e.elim).trans hW3 λ_ _ e=>e
 have hNest:Wr (One b) Z (((((((((Z.setCell ⟨b,4,none⟩ (.int .i64 0)).setCell ⟨b,5,none⟩ (.slice none 0 0)).setCell ⟨b,6,none⟩ (.int .u32 0)).setCell ⟨b,7,none⟩ (.int .i64 0)).setCell ⟨b,8,none⟩ (.int .i64 0)).setCell ⟨b,9,none⟩ (.int .i64 0)).setCell ⟨b,10,none⟩ (.int .i64 0)).setCell ⟨b,11,none⟩ (.int .i64 0))):=(on_set (on_set (on_set (on_set (on_set (on_set (on_set (on_set (Wr.refl (One b) Z)))))))))
 have hM4:=hM3.cfgs
 have pz4:=hNest.cell pz (λe=>hpb e)
 have e0:=hM3.c4;have e1:=hM3.c5;have e2:=hM3.c6;have e3:=hM3.c7;have e4:=hM3.c8;have e5:=hM3.c9;have e6:=hM3.c10;have e7:=hM3.c11
 have f0:=hM3.fz 4;have f1:=hM3.fz 5;have f2:=hM3.fz 6;have f3:=hM3.fz 7;have f4:=hM3.fz 8;have f5:=hM3.fz 9;have f6:=hM3.fz 10;have f7:=hM3.fz 11
 have cS:=so_store ⟨b,3,none⟩ _ _ hM4.c3 (hM4.fz 3)
 have HZ:=Lib.hid (And.intro hPz (And.intro hWz (And.intro hNest hM4)))
 clear hPf hW hM2 hM3 hW3 hZ hPz hWz hNest hM4 HQ q0 q4 q5 q6 q7 q8 q9 qa qb g12 g13 g14 z12 z13 z14
 have held:True:=trivial
 go_wp2_with (first
  |(go_at_call 45;(with_reducible refine cS.mono ?_);rintro e w5 ⟨rfl,rfl⟩))
 go_end0
 obtain ⟨hPz,hWz,hNest,hM4⟩:=HZ.out
 generalize ((((((((Z.setCell ⟨b,4,none⟩ (.int .i64 0)).setCell ⟨b,5,none⟩ (.slice none 0 0)).setCell ⟨b,6,none⟩ (.int .u32 0)).setCell ⟨b,7,none⟩ (.int .i64 0)).setCell ⟨b,8,none⟩ (.int .i64 0)).setCell ⟨b,9,none⟩ (.int .i64 0)).setCell ⟨b,10,none⟩ (.int .i64 0)).setCell ⟨b,11,none⟩ (.int .i64 0))=N4 at*
 have hT:Wr (One b) Z (N4.setCell ⟨b,3,none⟩ (.int .u32 1)).drew:=(on_set hNest).drew
 exact ⟨rfl,p,x,HM.out.2.2 _ _ _ _ _ hPz hT,(hM4.s3 1).after ((Wr.refl Nil _).drew),hWz.trans hT λ_ _ e=>e⟩
theorem keepd {w w':World} {b:Nat} {P:World→Prop} {cf:Fin 8→Value} {l p:Value} {x:Int} {n:Nat} {keep:∀ w w',P w→Wr (One b) w w'→P w'} (h:P w'∧MkAt w' b 1 0 1 cf l p x∧Wr (One b) w w'):P (w'.drewN n)∧MkAt (w'.drewN n) b 1 0 1 cf l p x∧Wr (One b) w (w'.drewN n):=
 ⟨keep _ _ h.1 ((Wr.refl _ _).drewN n),h.2.1.after ((Wr.refl Nil _).drewN n),h.2.2.drewN n⟩
theorem md_any {w:World} {b:Nat} {d st md:Int} {cf:Fin 8→Value} {l p:Value} {x:Int} (hM:MkAt w b d st md cf l p x):Calls prog 17 #[.pointer (some ⟨b,0,none⟩)] w λe w'=>e= .returned (.bool (md != 0))∧w=w':=by
 have cL:=so_load ⟨b,3,none⟩ md w hM.c3
 clear hM
 go_enter func17,ntmps17
 go_wp2_with (first
  |(go_at_call 42;(with_reducible refine cL.mono ?_);rintro e w' ⟨rfl,rfl⟩))
 go_ret
 exact ⟨rfl,rfl⟩
theorem lk_G {w:World} {b:Nat} {kd v sz pl B G D:Int} {s l0 p0:Value} {x0:Int} {Pf:Value→Value→Int→World→Prop} (hM:MkAt w b 0 0 0 (cfOf kd s v sz pl B G D) l0 p0 x0)
  (hN:∀ Y,Wr (One b) w Y→(∃ cs,Y.heap[b]? =some (.cells cs 126 (0,0)))→NwG Y Pf (.agg #[.int .i64 kd,s,.int .u32 v,.int .i64 sz,.int .i64 pl,.int .i64 B,.int .i64 G,.int .i64 D])) (keep:∀ l p x w w',Pf l p x w→Wr (One b) w w'→Pf l p x w'):
  Calls prog 18 #[.pointer (some ⟨b,0,none⟩)] w λe w'=>∃ ty l p x,e= .returned (.tuple #[.iface ty l,.pointer p,.int .i64 x])∧Pf (.iface ty l) (.pointer p) x w'∧MkAt w' b 1 0 1 zfOf (.iface ty l) (.pointer p) x∧Wr (One b) w w':=by
 have hb:=blk_lt hM
 obtain ⟨X,hX⟩:∃ X,X=w.alloc (.cells #[.pointer (some ⟨b,0,none⟩)] 63):=⟨_,rfl⟩
 have hWX:Wr Nil w X:=by rw [hX];exact (Wr.refl _ w).alloc _
 have p0':X.cell? ⟨w.heap.size,0,none⟩=some (.pointer (some ⟨b,0,none⟩)):=by rw [hX];exact (blk_cell (blk_alloc_new w _) 0).trans rfl
 have hMX:=hM.after hWX
 have hne:w.heap.size≠b:=by omega
 have hY:Wr (One b) X (X.setCell ⟨b,1,none⟩ (.int .i32 1)):=on_set (Wr.refl (One b) X)
 have cC:=ck_G (hMX.s1 1) (hY.cell p0' (λe=>hne e)) hne (hN _ ((hWX.mono (T:=One b) λ_ _ e=>e.elim).trans hY λ_ _ e=>e) ⟨_,hMX.s1 1⟩) keep
 obtain ⟨Q,hQ⟩:∃ Q:World→Prop,Q=λw'=>∃ ty l p x,Pf (.iface ty l) (.pointer p) x w'∧MkAt w' b 0 1 1 zfOf (.iface ty l) (.pointer p) x∧Wr (One b) (X.setCell ⟨b,1,none⟩ (.int .i32 1)) w':=⟨_,rfl⟩
 have hF:OnceFn b ⟨w.heap.size,0,none⟩ X Q:=⟨cC.mono λe w' h=>by rw [hQ];exact h,λw' h=>by
  rw [hQ] at h
  obtain ⟨ty,l,p,x,_,h2,_⟩:=h
  exact ⟨⟨h2.c0,h2.fz 0⟩,h2.c1,h2.fz 1⟩⟩
 have cD:=so_first b ⟨w.heap.size,0,none⟩ X Q hMX.c0 hMX.c1 (hMX.fz 0) (hMX.fz 1) hF
 have hmf:∀ (fn:Fn) (first cap:Array Value) (w:World),(Instr.makeFunc fn first cap).run prog w= .ok (.func fn first cap) w:=λ_ _ _ _=>rfl
 have HH:=Lib.hid (And.intro hX (And.intro hWX (And.intro hY (And.intro hQ keep))))
 clear hX hWX hMX hY cC hQ hF hM hN keep
 go_enter func18,ntmps18
 go_wp2_with (first
  |(go_at_call 43;rw [←HH.out.1];(with_reducible refine cD.mono ?_);rintro e w2 ⟨rfl,w1,hq,hw⟩;have HQ:=Lib.hid (And.intro hq hw);clear hq hw))
 obtain ⟨hq,hw⟩:=HQ.out
 obtain ⟨hX,hWX,hY,hQ,keep⟩:=HH.out
 rw [hQ] at hq
 obtain ⟨ty,l,p,x,hPf,hM1,hW1⟩:=hq
 have hW2:Wr (One b) w1 w2:=by rw [hw];exact on_set (on_set ((Wr.refl (One b) w1).drew))
 have hM2:MkAt w2 b 1 0 1 zfOf (.iface ty l) (.pointer p) x:=by rw [hw];exact ((hM1.after ((Wr.refl Nil w1).drew)).s0 1).s1 0
 have hW3:=hW1.trans hW2 λ_ _ e=>e
 have hP2:=keep _ _ _ _ _ hPf hW2
 have q0:=hW3.cell (hY.cell p0' (λe=>hne e)) (λe=>hne e)
 have q12:=hM2.c12
 have q13:=hM2.c13
 have q14:=hM2.c14
 have HR:=Lib.hid (And.intro keep (And.intro hP2 (And.intro hM2 (((hWX.mono (T:=One b) λ_ _ e=>e.elim).trans hY λ_ _ e=>e).trans hW3 λ_ _ e=>e))))
 clear hw hX hWX hY hQ keep hPf hM1 hW1 hW2 hM2 hW3 hP2 HQ HH cD p0'
 go_big_quiet (fail)
 go_wp2
 go_returns
 exact ⟨ty,l,p,x,rfl,keepd (keep:=λ_ _=>HR.out.1 _ _ _ _ _) HR.out.2⟩
theorem lk_G2 {w:World} {b:Nat} {cf:Fin 8→Value} {ty:Nat} {l:Value} {p:Option Addr} {x:Int} (hM:MkAt w b 1 0 1 cf (.iface ty l) (.pointer p) x):
  Calls prog 18 #[.pointer (some ⟨b,0,none⟩)] w λe w'=>e= .returned (.tuple #[.iface ty l,.pointer p,.int .i64 x])∧Wr Nil w w':=by
 obtain ⟨X,hX⟩:∃ X,X=w.alloc (.cells #[.pointer (some ⟨b,0,none⟩)] 63):=⟨_,rfl⟩
 have hWX:Wr Nil w X:=by rw [hX];exact (Wr.refl _ w).alloc _
 have p0':X.cell? ⟨w.heap.size,0,none⟩=some (.pointer (some ⟨b,0,none⟩)):=by rw [hX];exact (blk_cell (blk_alloc_new w _) 0).trans rfl
 have hMX:=hM.after hWX
 have q12:=hMX.c12
 have q13:=hMX.c13
 have q14:=hMX.c14
 have cD:=λfv=>so_again b fv X hMX.c0
 have hmf:∀ (fn:Fn) (first cap:Array Value) (w:World),(Instr.makeFunc fn first cap).run prog w= .ok (.func fn first cap) w:=λ_ _ _ _=>rfl
 have HH:=Lib.hid (And.intro hX hWX)
 clear hX hWX hMX hM
 go_enter func18,ntmps18
 go_wp2_with (first
  |(go_at_call 43;rw [←HH.out.1];(with_reducible refine (cD _).mono ?_);rintro e w2 ⟨rfl,rfl⟩))
 go_big_quiet (fail)
 go_wp2
 go_returns
 exact ⟨rfl,(HH.out.2).drewN _⟩
theorem lk_N {w:World} {b:Nat} {kd v sz pl B G D:Int} {s l0 p0:Value} {x0:Int} {Pf:Value→Value→Int→World→Prop} (hM:MkAt w b 0 0 0 (cfOf kd s v sz pl B G D) l0 p0 x0)
  (hN:∀ Y,Wr (One b) w Y→(∃ cs,Y.heap[b]? =some (.cells cs 126 (0,0)))→NwN Y Pf (.agg #[.int .i64 kd,s,.int .u32 v,.int .i64 sz,.int .i64 pl,.int .i64 B,.int .i64 G,.int .i64 D])) (keep:∀ l p x w w',Pf l p x w→Wr (One b) w w'→Pf l p x w'):
  Calls prog 18 #[.pointer (some ⟨b,0,none⟩)] w λe w'=>∃ p x,e= .returned (.tuple #[.nilIface,.pointer p,.int .i64 x])∧Pf (.nilIface) (.pointer p) x w'∧MkAt w' b 1 0 1 zfOf (.nilIface) (.pointer p) x∧Wr (One b) w w':=by
 have hb:=blk_lt hM
 obtain ⟨X,hX⟩:∃ X,X=w.alloc (.cells #[.pointer (some ⟨b,0,none⟩)] 63):=⟨_,rfl⟩
 have hWX:Wr Nil w X:=by rw [hX];exact (Wr.refl _ w).alloc _
 have p0':X.cell? ⟨w.heap.size,0,none⟩=some (.pointer (some ⟨b,0,none⟩)):=by rw [hX];exact (blk_cell (blk_alloc_new w _) 0).trans rfl
 have hMX:=hM.after hWX
 have hne:w.heap.size≠b:=by omega
 have hY:Wr (One b) X (X.setCell ⟨b,1,none⟩ (.int .i32 1)):=on_set (Wr.refl (One b) X)
 have cC:=ck_N (hMX.s1 1) (hY.cell p0' (λe=>hne e)) hne (hN _ ((hWX.mono (T:=One b) λ_ _ e=>e.elim).trans hY λ_ _ e=>e) ⟨_,hMX.s1 1⟩) keep
 obtain ⟨Q,hQ⟩:∃ Q:World→Prop,Q=λw'=>∃ p x,Pf (.nilIface) (.pointer p) x w'∧MkAt w' b 0 1 1 zfOf (.nilIface) (.pointer p) x∧Wr (One b) (X.setCell ⟨b,1,none⟩ (.int .i32 1)) w':=⟨_,rfl⟩
 have hF:OnceFn b ⟨w.heap.size,0,none⟩ X Q:=⟨cC.mono λe w' h=>by rw [hQ];exact h,λw' h=>by
  rw [hQ] at h
  obtain ⟨p,x,_,h2,_⟩:=h
  exact ⟨⟨h2.c0,h2.fz 0⟩,h2.c1,h2.fz 1⟩⟩
 have cD:=so_first b ⟨w.heap.size,0,none⟩ X Q hMX.c0 hMX.c1 (hMX.fz 0) (hMX.fz 1) hF
 have hmf:∀ (fn:Fn) (first cap:Array Value) (w:World),(Instr.makeFunc fn first cap).run prog w= .ok (.func fn first cap) w:=λ_ _ _ _=>rfl
 have HH:=Lib.hid (And.intro hX (And.intro hWX (And.intro hY (And.intro hQ keep))))
 clear hX hWX hMX hY cC hQ hF hM hN keep
 go_enter func18,ntmps18
 go_wp2_with (first
  |(go_at_call 43;rw [←HH.out.1];(with_reducible refine cD.mono ?_);rintro e w2 ⟨rfl,w1,hq,hw⟩;have HQ:=Lib.hid (And.intro hq hw);clear hq hw))
 obtain ⟨hq,hw⟩:=HQ.out
 obtain ⟨hX,hWX,hY,hQ,keep⟩:=HH.out
 rw [hQ] at hq
 obtain ⟨p,x,hPf,hM1,hW1⟩:=hq
 have hW2:Wr (One b) w1 w2:=by rw [hw];exact on_set (on_set ((Wr.refl (One b) w1).drew))
 have hM2:MkAt w2 b 1 0 1 zfOf (.nilIface) (.pointer p) x:=by rw [hw];exact ((hM1.after ((Wr.refl Nil w1).drew)).s0 1).s1 0
 have hW3:=hW1.trans hW2 λ_ _ e=>e
 have hP2:=keep _ _ _ _ _ hPf hW2
 have q0:=hW3.cell (hY.cell p0' (λe=>hne e)) (λe=>hne e)
 have q12:=hM2.c12
 have q13:=hM2.c13
 have q14:=hM2.c14
 have HR:=Lib.hid (And.intro keep (And.intro hP2 (And.intro hM2 (((hWX.mono (T:=One b) λ_ _ e=>e.elim).trans hY λ_ _ e=>e).trans hW3 λ_ _ e=>e))))
 clear hw hX hWX hY hQ keep hPf hM1 hW1 hW2 hM2 hW3 hP2 HQ HH cD p0'
 go_big_quiet (fail)
 go_wp2
 go_returns
 exact ⟨p,x,rfl,keepd (keep:=λ_ _=>HR.out.1 _ _ _ _ _) HR.out.2⟩
theorem lk_N2 {w:World} {b:Nat} {cf:Fin 8→Value} {p:Option Addr} {x:Int} (hM:MkAt w b 1 0 1 cf (.nilIface) (.pointer p) x):
  Calls prog 18 #[.pointer (some ⟨b,0,none⟩)] w λe w'=>e= .returned (.tuple #[.nilIface,.pointer p,.int .i64 x])∧Wr Nil w w':=by
 obtain ⟨X,hX⟩:∃ X,X=w.alloc (.cells #[.pointer (some ⟨b,0,none⟩)] 63):=⟨_,rfl⟩
 have hWX:Wr Nil w X:=by rw [hX];exact (Wr.refl _ w).alloc _
 have p0':X.cell? ⟨w.heap.size,0,none⟩=some (.pointer (some ⟨b,0,none⟩)):=by rw [hX];exact (blk_cell (blk_alloc_new w _) 0).trans rfl
 have hMX:=hM.after hWX
 have q12:=hMX.c12
 have q13:=hMX.c13
 have q14:=hMX.c14
 have cD:=λfv=>so_again b fv X hMX.c0
 have hmf:∀ (fn:Fn) (first cap:Array Value) (w:World),(Instr.makeFunc fn first cap).run prog w= .ok (.func fn first cap) w:=λ_ _ _ _=>rfl
 have HH:=Lib.hid (And.intro hX hWX)
 clear hX hWX hMX hM
 go_enter func18,ntmps18
 go_wp2_with (first
  |(go_at_call 43;rw [←HH.out.1];(with_reducible refine (cD _).mono ?_);rintro e w2 ⟨rfl,rfl⟩))
 go_big_quiet (fail)
 go_wp2
 go_returns
 exact ⟨rfl,(HH.out.2).drewN _⟩
end Go.Proofs.YteokghghpmppnaaGreat

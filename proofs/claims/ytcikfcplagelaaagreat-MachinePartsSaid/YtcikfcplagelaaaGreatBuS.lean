
import Derived.Test.YtcikfcplagelaaaGreatSlotsEnd
import Derived.Test.YtcikfcplagelaaaGreatSizeIn
namespace Go.Proofs.YtcikfcplagelaaaGreat.Ks
set_option linter.unusedVariables false
set_option maxRecDepth 100000
set_option maxHeartbeats 8000000
open _root_.Go.Proofs.Tryz Go.Deep
open Go.RowKit Go.BigFrame
abbrev lkO (p:Nat) (x y:Int) (sz tb n:Nat):Array Value:= #[.pointer (some ⟨p,0,none⟩),.pointer none,.int .i64 x,.int .i64 y,.int .i64 (sz:Nat),.slice (some ⟨tb,0,none⟩) n n]
def homeR (zs:List Int) (n k:Nat):List Int:=(List.range k).map λi=>zs.getD (i%n) 0
def slotR (z k:Nat):List Int:=(List.range k).map λi=>if z=i then 1 else 0
theorem homeR_more (zs:List Int) (n k:Nat):homeR zs n (k+1)=homeR zs n k++[zs.getD (k%n) 0]:=by unfold homeR;rw [List.range_succ,List.map_append];rfl
theorem slotR_more (z k:Nat):slotR z (k+1)=slotR z k++[if z=k then 1 else 0]:=by unfold slotR;rw [List.range_succ,List.map_append];rfl
theorem homeR_len (zs:List Int) (n k:Nat):(homeR zs n k).length=k:=by simp [homeR]
structure LaySt (w:World) (q:Pl) (t:Int) (lb b o n:Nat) (zs:List Int) (cs:Array Value) (hs vs:List Int) (wr:World):Prop where
 plan:∃ q':Pl,q'.p=q.p∧PlanAt wr q' t hs vs∧Came w q.F q'.F
 kp:Wr (λj=>q.F j∨j=lb) w wr
 obj:wr.heap[lb]? =some (.cells cs 191 (0,0))
 row:RowAt .i64 wr (some ⟨b,o,none⟩) n zs
 lt:lb<w.heap.size∧b<w.heap.size
 ne:¬ q.F lb∧¬ q.F b∧b≠lb
namespace LaySt
variable {w wr w':World} {q:Pl} {t:Int} {lb b o n:Nat} {zs:List Int} {cs:Array Value} {hs vs:List Int}
theorem far (h:LaySt w q t lb b o n zs cs hs vs wr) {q':Pl} (c:Came w q.F q'.F):¬ q'.F lb∧¬ q'.F b:=by
 have hl:=h.lt
 have hn:=h.ne
 refine ⟨λe=> ?_,λe=> ?_⟩
 ·rcases c _ e with e|e
  ·exact hn.1 e
  ·omega
 ·rcases c _ e with e|e
  ·exact hn.2.1 e
  ·omega
theorem set (h:LaySt w q t lb b o n zs cs hs vs wr) (i:Nat) (v:Value):LaySt w q t lb b o n zs (cs.setIfInBounds i v) hs vs (wr.setCell ⟨lb,i,none⟩ v):=by
 obtain ⟨q',hq,hP,hC⟩:=h.plan
 obtain ⟨f1,f2⟩:=h.far hC
 have k:Wr (One lb) wr (wr.setCell ⟨lb,i,none⟩ v):=(Wr.refl _ _).setCell _ _ λ_=>rfl
 refine ⟨⟨q',hq,hP.wrote k λj hj e=>by cases e;exact f1 hj,hC⟩,h.kp.trans k λj _ e=> .inr e,blk_setCell h.obj i v,h.row.wrote k λa ha e=> ?_,h.lt,h.ne⟩
 cases ha
 exact h.ne.2.2 e
theorem size {p sz tb m:Nat} {x y:Int} (h:LaySt w q t lb b o n zs (lkO p x y sz tb m) hs vs wr):wr.cell? ⟨lb,4,none⟩=some (.int .i64 (sz:Nat)):=by rw [blk_cell h.obj];rfl
theorem home (h:LaySt w q t lb b o n zs cs hs vs wr) {j:Nat} (hj:j<n):wr.cell? ⟨b,o+j,none⟩=some (.int .i64 (zs.getD j 0)):=by
 rcases h.row.at with h0|⟨b',o',e,hc⟩
 ·omega
 ·cases e
  exact hc j hj
end LaySt
def LayPost (w:World) (q:Pl) (t:Int) (lb b o n:Nat) (zs:List Int) (cs:Array Value) (hs vs:List Int) (r:Value) (e:Ending) (w':World):Prop:=e= .returned r∧LaySt w q t lb b o n zs cs hs vs w'
section
variable {w wr:World} {q:Pl} {t:Int} {lb b o n:Nat} {zs:List Int} {cs:Array Value} {hs vs:List Int}
theorem ly_word (h:LaySt w q t lb b o n zs cs hs vs wr) (x v:Int) (hL:hs.length≤1000000):
  Calls prog 82 #[.pointer (some ⟨q.p,0,none⟩),.int .i64 x,.int .u32 v] wr (LayPost w q t lb b o n zs cs (hs++[x]) (vs++[v]) (.int .i64 (hs.length:Nat))):=by
 obtain ⟨q',hq,hP,hC⟩:=h.plan
 obtain ⟨f1,f2⟩:=h.far hC
 have c:=plword_any hP x v hL
 rw [hq] at c
 refine c.mono ?_
 intro e w2 hp
 unfold PlanPost at hp
 obtain ⟨rfl,q2,hq2,hP2,hW,hC2⟩:=hp
 refine ⟨rfl,⟨q2,hq2.trans hq,hP2,hC.trans hC2 h.kp.size⟩,h.kp.trans hW λj hj e=> ?_,(hW.block _ (blk_lt h.obj) f1).trans h.obj,h.row.wrote hW λa ha e=> ?_,h.lt,h.ne⟩
 ·rcases hC j e with e|e
  ·exact .inl e
  ·omega
 ·cases ha
  exact f2 e
theorem ly_len (h:LaySt w q t lb b o n zs cs hs vs wr):
  Calls prog 106 #[.pointer (some ⟨q.p,0,none⟩)] wr λe w'=>e= .returned (.int .i64 (hs.length:Nat))∧wr=w':=by
 obtain ⟨q',hq,hP,hC⟩:=h.plan
 have c:=pllen_any hP
 rw [hq] at c
 exact c.mono λ_ _ h=>⟨h.1,h.2.symm⟩
end
theorem lay_any {w:World} {q:Pl} {t:Int} {lb b o n cap p tb sz:Nat} {zs:List Int} {hs vs:List Int} (h:LaySt w q t lb b o n zs (lkO p 0 0 sz tb n) hs vs w) (n1:1≤n) (n2:n≤64) (siz:sizeB sz=true) (s64:sz≤64) (hL:hs.length≤900000) {v:Int} (hv:0≤v∧v<4294967296) {z:Nat} (hz:v%(sz:Int)=(z:Int)):
  Calls prog 85 #[.pointer (some ⟨lb,0,none⟩),.pointer (some ⟨q.p,0,none⟩),.slice (some ⟨b,o,none⟩) n cap,.int .u32 v] w
   (LayPost w q t lb b o n zs (lkO p (hs.length:Nat) ((hs.length:Nat)+1) sz tb n) (hs++[zs.getD 0 0]++homeR zs n sz) (vs++[v]++slotR z sz) (.tuple #[])):=by
 have cS:=λW=>slot_yes v sz hv.1 hv.2 siz W
 rw [hz] at cS
 have hc:=h.row.cell ⟨b,o,none⟩ rfl 0 (by omega)
 have hc:w.cell? ⟨b,o,none⟩=some (.int .i64 (zs.getD 0 0)):=hc
 obtain ⟨x,hx⟩:∃ x,x=zs.getD 0 0:=⟨_,rfl⟩
 rw [←hx] at hc ⊢
 have cW:=ly_word h x v (by omega)
 have o0:=blk_cell h.obj
 have f2:=blk_frozen h.obj 2
 have HH:=Lib.hid h
 clear h hx hz
 have n0:(0:Nat)<n:=n1
 go_enter func85,ntmps85
 go_wp2_with (first
  |(go_at_call 82;(with_reducible refine cW.mono ?_);intro e w2 hq;unfold LayPost at hq;obtain ⟨rfl,hA⟩:=hq;have g2:=blk_frozen hA.obj 2;have q2:=(blk_cell hA.obj 2).trans rfl;have hA2:=hA.set 2 (.int .i64 (hs.length:Nat));have g3:=blk_frozen hA2.obj 3;have q3:=(blk_cell hA2.obj 3).trans rfl;have cL:=ly_len hA2;have hA3:LaySt w q t lb b o n zs (lkO p (hs.length:Nat) ((hs.length:Nat)+1) sz tb n) (hs++[x]) (vs++[v]) ((w2.setCell ⟨lb,2,none⟩ (.int .i64 (hs.length:Nat))).setCell ⟨lb,3,none⟩ (.int .i64 ((hs.length:Nat)+1))):=hA2.set 3 (.int .i64 ((hs.length:Nat)+1));have g4:=hA3.size;have HA:=Lib.hid hA3;rw [show (((hs++[x]).length:Nat):Int)=(hs.length:Int)+1 by simp] at cL;clear hA hA2 hA3)
  |(go_at_call 106;(with_reducible refine cL.mono ?_);rintro e w3 ⟨rfl,rfl⟩))
 clear cW cL hc o0 f2 g2 g3 q2 q3 n0
 go_loopw [8,9,28] (λ_ _ i wr=>∃ k:Nat,k≤sz∧i= .int .i64 k∧LaySt w q t lb b o n zs (lkO p (hs.length:Nat) ((hs.length:Nat)+1) sz tb n) (hs++[x]++homeR zs n k) (vs++[v]++slotR z k) wr) (λ_ _ i _=>sz-(intOf i).toNat)
 case atStart=>exact ⟨0,Nat.zero_le _,rfl,by simpa [homeR,slotR] using HA.out⟩
 case round=>
  clear HA HH g4
  obtain ⟨k,hk,rfl,hl⟩:=hrel
  by_cases hlt:k<sz
  ·have y4:=hl.size
   have hm:k%n<n:=Nat.mod_lt _ (by omega)
   have yc:=hl.home hm
   have cW:=λu=>ly_word hl (zs.getD (k%n) 0) u (by simp only [List.length_append,List.length_singleton,homeR_len];omega)
   have hmore:=homeR_more zs n k
   have smore:=slotR_more z k
   rw [List.append_assoc (hs++[x]),←hmore] at cW
   generalize zs.getD (k%n) 0=y at*
   have HL:=Lib.hid hl
   have htm:Int.tmod (k:Int) (n:Int)=((k%n:Nat):Int):=by rw [Int.tmod_eq_emod_of_nonneg (by omega)];rfl
   have HT:=Lib.hid htm
   clear hl hmore htm
   by_cases hkz:z=k
   ·subst hkz
    rw [if_pos rfl] at smore
    have cW:=cW 1
    rw [List.append_assoc (vs++[v]),←smore] at cW
    clear smore
    go_wp2_with (first
     |(go_at_call 107;(with_reducible refine (cS _).mono ?_);rintro e w3 ⟨rfl,rfl⟩)
     |(go_at_call 82;(with_reducible refine cW.mono ?_);intro e w2 hq;unfold LayPost at hq;obtain ⟨rfl,hA⟩:=hq;have HA:=Lib.hid hA;clear hA))
    go_roundw
    case rel=>exact ⟨z+1,by omega,by go_num,HA.out⟩
    case measure=>simp [intOf];omega
   ·have b1:((k:Int)==(z:Int))=false:=beq_false_of_ne (by omega)
    rw [if_neg hkz] at smore
    have cW:=cW 0
    rw [List.append_assoc (vs++[v]),←smore] at cW
    clear smore hkz
    go_wp2_with (first
     |(go_at_call 107;(with_reducible refine (cS _).mono ?_);rintro e w3 ⟨rfl,rfl⟩)
     |(go_at_call 82;(with_reducible refine cW.mono ?_);intro e w2 hq;unfold LayPost at hq;obtain ⟨rfl,hA⟩:=hq;have HA:=Lib.hid hA;clear hA))
    go_roundw
    case rel=>exact ⟨k+1,by omega,by go_num,HA.out⟩
    case measure=>simp [intOf];omega
  ·obtain rfl:k=sz:=by omega
   have HL:=Lib.hid hl
   clear hl
   go_wp2
   go_end0
   exact ⟨rfl,HL.out⟩
theorem i_pl:(prog.info? 325).map (λi=>(i.zero,i.size,i.bytes))=some (some (.agg #[.int .i64 0,.int .i64 0]),2,16):=by kernel_rfl
theorem made_tk (n:Nat):madeCells (Value.agg #[.int .i64 0,.int .i64 0]).cells (n*2)=(tks n (λ_=>0) (λ_=>0)).toArray:=by
 apply Array.ext'
 show (madeCells (#[.int .i64 0,.int .i64 0]:Array Value) (n*2)).toList=tks n (λ_=>0) (λ_=>0)
 apply List.ext_getElem?
 intro m
 by_cases hm:m<n*2
 ·have ha:m/2<n:=by omega
  have e:m=m/2*2+m%2:=by omega
  have h2:=tks_at n (λ_=>0) (λ_=>0) (k:=m/2) ha (j:=m%2) (Nat.mod_lt _ (by decide))
  rw [←e] at h2
  rw [h2]
  unfold madeCells
  rw [Array.toList_map,List.getElem?_map,Array.toList_range,List.getElem?_range hm]
  have:m%2=0∨m%2=1:=by omega
  rcases this with h|h<;>simp [h,tkC]
 ·rw [List.getElem?_eq_none (by simp [madeCells];omega),List.getElem?_eq_none (by unfold tks;rw [flat_len (tkC_len _ _),List.length_range];omega)]
def NewSlotsPost (w:World) (q:Pl) (t:Int) (hs vs:List Int) (n sz z:Nat) (zs:List Int) (v:Int) (e:Ending) (w':World):Prop:=
 ∃ (L:Lp) (q':Pl),e= .returned (.tuple #[.pointer (some ⟨L.lb,0,none⟩),.int .i64 0])∧FlRaw w' L (.pointer none) (newSeat n false false) sz (λ_=>0) (λ_=>0)∧
  (w.heap.size≤L.lb∧w.heap.size≤L.p∧w.heap.size≤L.b∧w.heap.size≤L.tb)∧L.a1=hs.length∧L.a2=hs.length+1∧q'.p=q.p∧PlanAt w' q' t (hs++[zs.getD 0 0]++homeR zs n sz) (vs++[v]++slotR z sz)∧Wr q.F w w'∧Came w q.F q'.F
theorem size_le {sz:Nat} (h:sizeB sz=true):1≤sz∧sz≤64:=by
 unfold sizeB at h
 have:=of_decide_eq_true h
 omega
theorem lay_start {w ws:World} {q:Pl} {t:Int} {hs vs:List Int} {b o n:Nat} {zs:List Int} (h:PlanAt w q t hs vs) (k:Wr Nil w ws) (hr:RowAt .i64 w (some ⟨b,o,none⟩) n zs) (hbl:b<w.heap.size) (hb:¬ q.F b) (A cs:Array Value) {lb:Nat} (hlb:lb=ws.heap.size+1):
  LaySt ((ws.alloc (.cells A 325)).alloc (.cells cs 191)) q t lb b o n zs cs hs vs ((ws.alloc (.cells A 325)).alloc (.cells cs 191)):=by
 have k2:Wr Nil w ((ws.alloc (.cells A 325)).alloc (.cells cs 191)):=(k.alloc _).alloc _
 have e1:(ws.alloc (.cells A 325)).heap.size=ws.heap.size+1:=nblk_alloc _ _
 have e2:((ws.alloc (.cells A 325)).alloc (.cells cs 191)).heap.size=ws.heap.size+1+1:=by rw [nblk_alloc,e1]
 have s1:=k.size
 refine ⟨⟨q,rfl,h.after k2,Came.refl _ _⟩,Wr.refl _ _,?_,hr.after k2,by omega,λe=>by have:=h.lt e;omega,hb,by omega⟩
 rw [hlb,←e1]
 exact blk_alloc_new _ _
theorem fn_end {w wq ws wr:World} {q:Pl} {t:Int} {hs vs:List Int} {b o n p sb sz z lb tb:Nat} {zs:List Int} {v:Int} {A:Array Value} (h:PlanAt w q t hs vs) (k1:Wr Nil w wq) (hS:SeatAt wq p sb (newSeat n false false)) (hp:w.heap.size≤p) (hsb:w.heap.size≤sb) (k2:Wr Nil wq ws) (htb:tb=ws.heap.size) (hlb:lb=ws.heap.size+1)
  (hA:(tks n (λ_=>0) (λ_=>0)).toArray=A) (siz:sizeB sz=true) (hL:hs.length≤900000) (cs:Array Value)
  (hl:LaySt ((ws.alloc (.cells A 325)).alloc (.cells cs 191)) q t lb b o n zs (lkO p (hs.length:Nat) ((hs.length:Nat)+1) sz tb n) (hs++[zs.getD 0 0]++homeR zs n sz) (vs++[v]++slotR z sz) wr):
  NewSlotsPost w q t hs vs n sz z zs v (.returned (.tuple #[.pointer (some ⟨lb,0,none⟩),.int .i64 0])) wr:=by
 subst hA
 generalize hX:(ws.alloc (.cells (tks n (λ_=>0) (λ_=>0)).toArray 325)).alloc (.cells cs 191)=X at hl
 have e1:(ws.alloc (.cells (tks n (λ_=>0) (λ_=>0)).toArray 325)).heap.size=ws.heap.size+1:=nblk_alloc _ _
 have e2:X.heap.size=ws.heap.size+1+1:=by rw [←hX,nblk_alloc,e1]
 have k3:Wr Nil ws X:=by rw [←hX];exact ((Wr.refl _ _).alloc _).alloc _
 have kX:Wr Nil w X:=(k1.nil k2).nil k3
 have hT:X.heap[tb]? =some (.cells (tks n (λ_=>0) (λ_=>0)).toArray 325 (0,0)):=by
  rw [←hX,htb,blk_alloc_lt _ _ _ (by rw [e1];omega)]
  exact blk_alloc_new _ _
 have s1:=k1.size
 have s2:=k2.size
 have s3:=k3.size
 have hF:∀ k,w.heap.size≤k→k≠lb→¬ (q.F k∨k=lb):=λk hk hk2 e=>by
  rcases e with e|e
  ·have:=h.lt e;omega
  ·exact hk2 e
 have l1:=blk_lt hS.obj
 have l2:=blk_lt hS.ctx
 have hne:=hS.ne
 have hSX:=hS.wrote ((k2.nil k3).mono λ_ _ e=>e.elim:Wr Nil wq X) id id
 obtain ⟨q',hq,hP,hC⟩:=hl.plan
 have hs1:=size_le siz
 refine ⟨⟨lb,p,sb,tb,hs.length,(hs.length:Int)+1,⟨0,0,0,0,0,0,0,0,0,0,0,0,.pointer none⟩,[]⟩,q',rfl,⟨hl.obj,hSX.wrote hl.kp (hF p hp (by omega)) (hF sb hsb (by omega)),(hl.kp.block _ (blk_lt hT) (hF tb (by omega) (by omega))).trans hT,⟨by dsimp only;omega,by dsimp only;omega,by dsimp only;omega,by dsimp only;omega,by dsimp only;omega⟩,λ_=>⟨.inl rfl,Int.le_refl _,by omega⟩,siz,by dsimp only;omega,⟨rfl,λ_=>(by decide:(0:Int)≠4)⟩⟩,⟨by dsimp only;omega,by dsimp only;omega,by dsimp only;omega,by dsimp only;omega⟩,rfl,rfl,hq,hP,?_,λj hj=> ?_⟩
 ·exact (kX.mono (λ_ _ e=>e.elim):Wr q.F w X).trans hl.kp λj hj e=>by
   rcases e with e|e
   ·exact e
   ·omega
 ·rcases hC j hj with e|e
  ·exact .inl e
  ·exact .inr (by omega)
theorem fn_new {w:World} {q:Pl} {t:Int} {hs vs:List Int} (h:PlanAt w q t hs vs) {b o n cap sz z:Nat} {zs:List Int} {v:Int} (hr:RowAt .i64 w (some ⟨b,o,none⟩) n zs) (ho:homesOK zs=true) (n1:1≤n) (n2:n≤64) (siz:sizeB sz=true) (nsz:n≤sz) (hL:hs.length≤900000) (hb:¬ q.F b) (hv:0≤v∧v<4294967296) (hz:v%(sz:Int)=(z:Int)):
  Calls prog 58 #[.pointer (some ⟨q.p,0,none⟩),.slice (some ⟨b,o,none⟩) n cap,.int .i64 (sz:Nat),.int .u32 v] w (NewSlotsPost w q t hs vs n sz z zs v):=by
 obtain ⟨i0,hi,hz0,hz1,hz2⟩:=info_parts i_pl
 have hmk:∀ w:World,(Instr.makeSlice 189 (.int .i64 (n:Int)) (.int .i64 (n:Int))).run prog w= .ok (.slice (some ⟨w.heap.size,0,none⟩) n n) (w.alloc (.cells (tks n (λ_=>0) (λ_=>0)).toArray 325)):=by
  intro w
  have h:=Go.run_make (P:=prog) w 189 325 i0 _ underlying189 hi hz0 .i64 .i64 n n (by omega) (by omega) (by rw [hz2];omega) (by omega)
  rw [hz1] at h
  simp only [Int.toNat_natCast] at h
  rw [made_tk n] at h
  exact h
 generalize hA:(tks n (λ_=>0) (λ_=>0)).toArray=A at hmk
 have s64:=(size_le siz).2
 have cS:=hm_seats (cap:=cap) hr ho false false n1 n2
 have hbx:b<w.heap.size:=World.block_lt_of_cell? w _ (hr.cell ⟨b,o,none⟩ rfl 0 (by omega))
 have HX:=Lib.hid (And.intro h (And.intro hr (And.intro hA (And.intro hbx (And.intro hb (And.intro siz (And.intro hv hz)))))))
 have siz2:=in_seven (sz:Int)
 rw [siz] at siz2
 clear h hr ho hA hb hz siz hbx
 go_enter func58,ntmps58
 go_wp2_with (first
  |(go_at_call 80;(with_reducible refine cS.mono ?_);intro e wq hq;unfold NewSeatPost at hq;obtain ⟨p,sb,rfl,hS,hp,hsb,hW⟩:=hq;have HS:=Lib.hid (And.intro hS (And.intro hp (And.intro hsb hW)));clear hS hp hsb hW cS)
  |(go_at_call 84;(with_reducible refine (sizes_seven wq).mono ?_);rintro e ws ⟨g,gc,rfl,hc,hbel⟩;have cC:=cn_any (cap:=gc) (row_seven hc) (sz:Int) (by omega);rw [siz2] at cC;have HB:=Lib.hid (Wr.ofBelow hbel);clear hc hbel)
  |(go_at_call 83;(with_reducible refine cC.mono ?_);rintro e w6 ⟨rfl,rfl⟩;clear cC)
  |(go_at_call 85;(with_reducible refine (lay_any (lay_start HX.out.1 (HS.out.2.2.2.nil HB.out) HX.out.2.1 HX.out.2.2.2.1 HX.out.2.2.2.2.1 A (lkO p 0 0 sz ws.heap.size n) rfl) n1 n2 HX.out.2.2.2.2.2.1 s64 hL HX.out.2.2.2.2.2.2.1 HX.out.2.2.2.2.2.2.2).mono ?_);intro e wr hq;unfold LayPost at hq;obtain ⟨rfl,hl⟩:=hq;have HL:=Lib.hid hl;clear hl))
 go_ret2
 obtain ⟨h,hr,hA,hbx,hb,siz,hv,hz⟩:=HX.out
 exact fn_end h HS.out.2.2.2 HS.out.1 HS.out.2.1 HS.out.2.2.1 HB.out rfl rfl hA siz hL _ HL.out
open _root_.Go.Proofs.Tryz
def Low (L:Lp) (k:Nat):Prop:=k<L.q.k3
theorem LkAt.low {w w':World} {L:Lp} {f:FL} (h:LkAt w L f) (k:Wr (LF L) w w'):Wr (Low L) w w':=k.mono λb _ e=>by
 have h1:=h.far
 have h2:=h.port.place.le
 unfold Low
 rcases e with rfl|rfl|e
 ·omega
 ·omega
 ·exact e.2
structure LkS (w0 w:World) (L:Lp) (f:FL):Prop where
 lk:LkAt w L f
 low:w0.heap.size≤L.lb∧w0.heap.size≤L.p∧w0.heap.size≤L.b∧w0.heap.size≤L.tb∧w0.heap.size≤L.q.k0
 wr:Wr Nil w0 w
namespace LkS
variable {w0 w w':World} {L:Lp} {f f':FL}
theorem after (h:LkS w0 w L f) (k:Wr Nil w w'):LkS w0 w' L f:=⟨h.lk.after k,h.low,h.wr.nil k⟩
theorem apart {S:Nat→Prop} (h:LkS w0 w L f) (k:Wr S w w') (hS:∀ b,S b→L.q.k3≤b):LkS w0 w' L f:=by
 have h1:=h.lk.far
 have h2:=h.lk.port.place.le
 have h3:=h.low
 have n:∀ b,b<L.q.k3→¬ S b:=λb hb e=>by have:=hS b e;omega
 have ht:=h.lk.top
 refine ⟨h.lk.wrote k (n _ (by omega)) (n _ (by omega)) (n _ (by omega)) (n _ (by omega)) λb _ b2=>n b b2,h.low,h.wr.trans k λb hb e=> ?_⟩
 exact n b (by omega) e
theorem lnew (h:LkS w0 w L f) {k:Nat} (hk:LF L k):w0.heap.size≤k:=by
 have:=h.low
 rcases hk with rfl|rfl|hk
 ·omega
 ·omega
 ·have:=hk.1;omega
theorem call (h:LkS w0 w L f) (hl:LkAt w' L f') (k:Wr (LF L) w w'):LkS w0 w' L f':=⟨hl,h.low,h.wr.trans k λb hb e=>by have:=h.lnew e;unfold Nil;omega⟩
theorem cell0 (h:LkS w0 w L f):w.cell? ⟨L.lb,0,none⟩=some (.pointer (some ⟨L.p,0,none⟩)):=h.lk.raw.cell0
end LkS
def LsPost (w0 w:World) (L:Lp) (f:FL) (v:Value) (e:Ending) (w':World):Prop:=e= .returned v∧LkS w0 w' L f∧Wr (Low L) w w'
section
variable {w0 w:World} {L:Lp} {f:FL}
theorem ls_lock (h:LkS w0 w L f) (t d:Int):Calls prog 189 #[.pointer (some ⟨L.p,0,none⟩),.int .i64 t,.int .i64 d] w (LsPost w0 w L (f.lock t d) (.int .i64 (lockE f.s t d))):=
 (se_lock h.lk.raw.seat t d).mono λe w' ⟨he,hS,hW⟩=>⟨he,h.call (h.lk.seats hS (SS.lock_kS _ _ _) hW) (lf_b hW),h.lk.low (lf_b hW)⟩
theorem ls_unlock (h:LkS w0 w L f) (t:Int):Calls prog 193 #[.pointer (some ⟨L.p,0,none⟩),.int .i64 t] w (LsPost w0 w L (f.turn t 3) (.int .i64 (turnE f.s t))):=
 (se_unlock h.lk.raw.seat t).mono λe w' ⟨he,hS,hW⟩=>⟨he,h.call (h.lk.seats hS (SS.turn_kS _ _ _ (by decide)) hW) (lf_b hW),h.lk.low (lf_b hW)⟩
theorem ls_step (h:LkS w0 w L f) (t u x:Int) (hD:f.ps.D.length<4611686018427387904):Calls prog 208 #[.pointer (some ⟨L.lb,0,none⟩),.int .i64 t,.int .i64 u,.int .i64 x] w (LsPost w0 w L (f.step L t u) (f.did L t u).val):=
 (fl_step h.lk t u x hD).mono λe w' ⟨he,hl,hW⟩=>⟨he,h.call hl hW,h.lk.low hW⟩
end
structure LkP (w0 w:World) (L:Lp) (f:FL):Prop where
 raw:RawF w L (.pointer none) f
 port:PortAt w L.q L.hs f.ps
 far:L.lb<L.q.k0∧L.p<L.q.k0∧L.b<L.q.k0∧L.tb<L.q.k0
 top:L.q.k3≤w.heap.size
 low:w0.heap.size≤L.lb∧w0.heap.size≤L.p∧w0.heap.size≤L.b∧w0.heap.size≤L.tb∧w0.heap.size≤L.q.k0
 wr:Wr Nil w0 w
theorem lp_use {w0 w:World} {L:Lp} {f:FL} (h:LkP w0 w L f):
  Calls prog 209 #[.pointer (some ⟨L.lb,0,none⟩),.pointer (some ⟨L.q.p,0,none⟩)] w λe w'=>e= .returned (.tuple #[])∧LkS w0 w' L f∧Wr (Low L) w w':=by
 refine (fl_use h.raw ⟨L.q.p,0,none⟩).mono ?_
 rintro e w' ⟨rfl,rfl⟩
 have hW:Wr (One L.lb) w (w.setCell ⟨L.lb,1,none⟩ (.pointer (some ⟨L.q.p,0,none⟩))):=(Wr.refl _ w).setCell _ _ λ_=>rfl
 have hr:=h.raw
 have h1:=h.far
 have h2:=h.port.place.le
 have h3:=h.low
 exact ⟨rfl,⟨⟨hr.use _,h.port.wrote hW λb b1 _ e=>by unfold One at e;omega,h.far,Nat.le_trans h.top hW.size⟩,h.low,h.wr.trans hW λb hb e=>by unfold One at e;unfold Nil;omega⟩,hW.mono λb _ e=>by unfold One at e;unfold Low;omega⟩
theorem lp_made {w0 w1 w2:World} {L0:Lp} {q:Place} {f:FL} {hs:List Int} (hr:RawF w1 L0 (.pointer none) f) (hl:w0.heap.size≤L0.lb∧w0.heap.size≤L0.p∧w0.heap.size≤L0.b∧w0.heap.size≤L0.tb) (h0:Wr Nil w0 w1)
  (hP:PortAt w2 q hs f.ps) (h1:w1.heap.size≤q.k0) (h2:q.k3≤w2.heap.size) (hW:Wr Nil w1 w2):LkP w0 w2 {L0 with q:=q,hs:=hs} f:=by
 have l1:=blk_lt hr.obj
 have l2:=blk_lt hr.seat.obj
 have l3:=blk_lt hr.seat.ctx
 have l4:=blk_lt hr.tick
 have s0:=h0.size
 exact ⟨(hr.after hW).place q hs,hP,⟨by dsimp only;omega,by dsimp only;omega,by dsimp only;omega,by dsimp only;omega⟩,h2,⟨by dsimp only;omega,by dsimp only;omega,by dsimp only;omega,by dsimp only;omega,by dsimp only;omega⟩,h0.nil hW⟩
def newF (n t sz z:Nat) (v:Int):FL:=⟨newSeat n false false,sz,λ_=>0,λ_=>0,newS t ([v]++slotR z sz)⟩
def homesS (zs:List Int) (n sz:Nat):List Int:=[zs.getD 0 0]++homeR zs n sz
theorem getD_ok {zs:List Int} (h:homesOK zs=true) (i:Nat):okH (zs.getD i 0)=true:=by
 unfold homesOK at h
 rw [List.all_eq_true] at h
 by_cases hi:i<zs.length
 ·exact h _ (by rw [List.getD_eq_getElem?_getD,List.getElem?_eq_getElem hi];exact List.getElem_mem hi)
 ·rw [List.getD_eq_getElem?_getD,List.getElem?_eq_none (by omega)];rfl
theorem homesS_ok {zs:List Int} (h:homesOK zs=true) (n sz:Nat):homesOK (homesS zs n sz)=true:=by
 unfold homesOK homesS homeR
 rw [List.all_eq_true]
 intro x hx
 rw [List.mem_append,List.mem_singleton,List.mem_map] at hx
 rcases hx with rfl|⟨i,_,rfl⟩
 ·exact getD_ok h 0
 ·exact getD_ok h _
theorem homesS_len (zs:List Int) (n sz:Nat):(homesS zs n sz).length=sz+1:=by unfold homesS;rw [List.length_append,homeR_len];simp;omega
theorem slotR_rng (z sz j:Nat):0≤(slotR z sz).getD j 0∧(slotR z sz).getD j 0<4294967296:=by
 by_cases hj:j<sz
 ·have e:(slotR z sz).getD j 0=if z=j then 1 else 0:=by simp [slotR,hj]
  rw [e]
  split<;>decide
 ·rw [List.getD_eq_getElem?_getD,List.getElem?_eq_none (by simp [slotR];omega)];decide
theorem vals_rng {v:Int} (hv:0≤v∧v<4294967296) (z sz j:Nat):0≤([v]++slotR z sz).getD j 0∧([v]++slotR z sz).getD j 0<4294967296:=by
 match j with
 |0=>exact hv
 |j+1=>exact slotR_rng z sz j
def MadePost (w0:World) (n sz z:Nat) (v:Int) (L:Lp) (w':World):Prop:=L.a1=0∧L.a2=1∧LkP w0 w' L (newF n n sz z v)
theorem fl_port {w0 w w1:World} {q q':Pl} {n sz z:Nat} {zs:List Int} {v:Int} {L0:Lp} (h0:Wr Nil w0 w) (hq:∀ k,q.F k→w0.heap.size≤k) (n1:1≤n) (n2:n≤64) (ho:homesOK zs=true) (siz:sizeB sz=true) (hv:0≤v∧v<4294967296)
  (hR:FlRaw w1 L0 (.pointer none) (newSeat n false false) sz (λ_=>0) (λ_=>0)) (hl:w.heap.size≤L0.lb∧w.heap.size≤L0.p∧w.heap.size≤L0.b∧w.heap.size≤L0.tb) (h1:L0.a1=0) (h2:L0.a2=1) (hqq:q'.p=q.p) (hP:PlanAt w1 q' n (homesS zs n sz) ([v]++slotR z sz)) (hW:Wr q.F w w1) (hne:q.p<w.heap.size):
  Calls prog 33 #[.pointer (some ⟨q.p,0,none⟩)] w1 λe w'=>∃ L:Lp,e= .returned (.tuple #[.pointer (some ⟨L.q.p,0,none⟩),.int .i64 0])∧MadePost w0 n sz z v L w'∧L.lb=L0.lb∧L.hs=homesS zs n sz∧w'.cell? ⟨q.p,1,none⟩=some (.int .i64 ((sz+1:Nat):Int))∧¬ LF L q.p∧q.p≠L.lb:=by
 have s64:=(size_le siz).2
 have c:=plport_good hP (vals_rng hv z sz) n1 n2 (by rw [homesS_len];omega) (homesS_ok ho n sz)
 have hp1:=hP.cell1
 rw [hqq,homesS_len] at hp1
 rw [hqq] at c
 refine c.mono ?_
 rintro e w' ⟨qq,rfl,hA,hk0,hk3,hW2⟩
 have s0:=h0.size
 have s1:=hW.size
 refine ⟨{L0 with q:=qq,hs:=homesS zs n sz},rfl,⟨h1,h2,?_⟩,rfl,rfl,hW2.old hp1,λe=> ?_,by dsimp only;omega⟩
 ·exact lp_made (f:=newF n n sz z v) hR (by omega) (h0.trans hW λk hk e=>by have:=hq k e;unfold Nil;omega) hA hk0 hk3 hW2
 ·unfold LF Rng at e
  dsimp only at e
  omega
theorem fn_none {w:World} {p:Nat} {sa:Option Addr} {n cap:Nat} {zs:List Int} (hr:RowAt .i64 w sa n zs) (hL:n≤1000000) (hn:homesOK zs=false∨n<1∨64<n) (x v:Int):
  Calls prog 58 #[.pointer (some ⟨p,0,none⟩),.slice sa n cap,.int .i64 x,.int .u32 v] w λe w'=>e= .returned (.tuple #[.pointer none,.int .i64 1])∧w=w':=by
 have c:=hm_none (cap:=cap) hr false false hL hn
 clear hr hn
 go_enter func58,ntmps58
 go_wp2_with (first
  |(go_at_call 80;(with_reducible refine c.mono ?_);rintro e w' ⟨rfl,rfl⟩))
 go_ret2
 exact ⟨rfl,rfl⟩
def NonePost (w:World) (e:Ending) (w':World):Prop:=e= .returned (.tuple #[.pointer none,.int .i64 7])∧Wr Nil w w'
theorem fn_none7 {w:World} {p:Nat} {sa:Option Addr} {n cap:Nat} {zs:List Int} (hr:RowAt .i64 w sa n zs) (ho:homesOK zs=true) (n1:1≤n) (n2:n≤64) {x:Int} (hx:sizeB x=false∨x<n) (v:Int):
  Calls prog 58 #[.pointer (some ⟨p,0,none⟩),.slice sa n cap,.int .i64 x,.int .u32 v] w (NonePost w):=by
 have c:=hm_seats (cap:=cap) hr ho false false n1 n2
 have siz2:=in_seven x
 clear hr ho
 cases hs:sizeB x
 all_goals
  rw [hs] at siz2
  have hlt:sizeB x=true→x<n:=λe=>by
   rcases hx with q|q
   ·rw [e] at q;cases q
   ·exact q
  first|(have hlt2:=hlt hs;clear hs hx hlt)|clear hs hx hlt
  go_enter func58,ntmps58
  go_wp2_with (first
   |(go_at_call 80;(with_reducible refine c.mono ?_);intro e wq hq;unfold NewSeatPost at hq;obtain ⟨p,sb,rfl,hS,hp,hsb,hW⟩:=hq;have HS:=Lib.hid hW;clear hS hp hsb hW c)
   |(go_at_call 84;(with_reducible refine (sizes_seven wq).mono ?_);rintro e ws ⟨g,gc,rfl,hc,hbel⟩;have cC:=cn_any (cap:=gc) (row_seven hc) x (by omega);rw [siz2] at cC;have HB:=Lib.hid (Wr.ofBelow hbel);clear hc hbel)
   |(go_at_call 83;(with_reducible refine cC.mono ?_);rintro e w6 ⟨rfl,rfl⟩;clear cC))
  go_ret2
  exact ⟨rfl,HS.out.nil HB.out⟩
end Go.Proofs.YtcikfcplagelaaaGreat.Ks

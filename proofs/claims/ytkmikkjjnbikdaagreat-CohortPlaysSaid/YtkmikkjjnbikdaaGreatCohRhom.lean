import Derived.Test.YtkmikkjjnbikdaaGreatCohRnw
namespace Go.Proofs.YtkmikkjjnbikdaaGreat
set_option maxHeartbeats 8000000
open _root_.Go.Proofs.Tryz Go.Deep
open Go.RowKit Go.BigFrame
set_option linter.unusedVariables false
set_option maxRecDepth 100000
theorem wpList_more {w0 w:World} {base m:Nat} {l:List Int} {v:Value} {ops:Array Oper} {rest:List Oper} {o:Oper} {a:Act} {Q:Exit→Act→World→Prop} (hgd:o.guard=none) (s y:Operand) (ho:o.op= .call {callee:= .builtin .append,args:= #[s,y],argTypes:= #[22,22]})
  (hs:a.eval s=v) (h:Grow 3 1 w0 base w m (l.map (.int .i64)) v) (ad:Addr) {n cp:Nat} {zs:List Int} (hr:RowAt .i64 w (some ad) n zs) (hy:a.eval y= .slice (some ad) n cp) (hl:m+n≤1000000)
  (hK:∀ v' w',Grow 3 1 w0 base w' (m+n) ((l++zs).map (.int .i64)) v'→wpList prog ops Q rest (a.put o.dst v') w'):wpList prog ops Q (o::rest) a w:=by
 obtain ⟨i0,hi,hz0,hz1,hz2⟩:=info_parts info_int
 refine wpList_append_own _ hgd s y 22 ho base 3 i0 (.int .i64 0) 1 8 underlying22 hi hz0 hz1 hz2 rfl (by decide) v m _ hs h.own ad n cp (zs.map (.int .i64)) hy (by rw [List.length_map,hr.len];omega) (λj u hj=> ?_) (λu hu=>by obtain ⟨y,_,rfl⟩:=List.mem_map.1 hu;rfl) (by unfold maxLen;omega) (by omega) h.size λv' w' h1 h2 _=>hK v' w' ?_
 ·rw [List.getElem?_map] at hj
  obtain ⟨y,hy,rfl⟩:=Option.map_eq_some_iff.1 hj
  have hjn:j<n:=by rw [←hr.len];exact (List.getElem?_eq_some_iff.1 hy).1
  have:=hr.cell _ rfl j hjn
  rw [this,List.getD_eq_getElem?_getD,hy]
  rfl
 ·rw [List.map_append]
  exact h.more h1 h2
theorem RowQ.rowAt {w:World} {v:Value} {l:List Nat} (h:RowQ w v (l.map natV)) (h1:1≤l.length):∃ ad cap,v= .slice (some ad) l.length cap∧RowAt .i64 w (some ad) l.length (l.map λ(x:Nat)=>(x:Int))∧ad.spot=none:=by
 obtain ⟨b,o,cap,e,hr⟩:=h.rowI h1
 refine ⟨⟨b,o,none⟩,cap,e,⟨by rw [List.length_map],λe=>(by cases e),λa ha j hj=> ?_⟩,rfl⟩
 cases ha
 rw [Go.Addr.add_lit,hr.cell hj,List.getD_eq_getElem?_getD,List.getD_eq_getElem?_getD,List.getElem?_map,List.getElem?_eq_getElem hj]
 rfl
def WdPost (w:World) (K:Int) (zs:List Int) (n:Nat) (e:Ending) (w':World):Prop:=∃ g cap,e= .returned (.slice (some ⟨g,0,none⟩) (inZ K n) cap)∧RowAt .i64 w' (some ⟨g,0,none⟩) (inZ K n) (inH K zs)∧Wr Nil w w'
theorem wd_any {K:Int} (hK:K=1∨K=3∨K=4) {w:World} {ad:Addr} {n cp:Nat} {zs:List Int} (hr:RowAt .i64 w (some ad) n zs) (h0:ad.spot=none) (n1:1≤n) (n2:n≤64):Calls prog 34 #[.int .i64 K,.slice (some ad) n cp] w (WdPost w K zs n):=by
 obtain ⟨b,o,sp⟩:=ad
 have h0:sp=none:=h0
 subst h0
 have hc:=hr.cell ⟨b,o,none⟩ rfl 0 (by omega)
 have hc:w.cell? ⟨b,o,none⟩=some (.int .i64 (zs.getD 0 0)):=hc
 have i1:(0:Int)<n:=by omega
 have n0:0<n:=n1
 rcases hK with rfl|rfl|rfl
 ·generalize hx:zs.getD 0 0=x at*
  have HX:=Lib.hid hx
  clear hx hr
  go_enter func34,ntmps34
  go_upto_region 3 with fail
  go_region
  go_wp2
  go_ret
  have k:Wr Nil w (w.drew.alloc (.cells #[.int .i64 x,.int .i64 x] 3)):=((Wr.refl Nil w).drew).alloc _
  refine ⟨w.heap.size,2,rfl,⟨rfl,λe=>(by cases e),λa ha j hj=> ?_⟩,k⟩
  cases ha
  have hj:j<2:=hj
  have hb:=blk_alloc_new w.drew (.cells #[.int .i64 x,.int .i64 x] 3)
  rw [Go.Addr.add_lit,Nat.zero_add]
  unfold inH
  rw [if_pos rfl,HX.out]
  match j,hj with
  |0,_=>exact (blk_cell hb 0).trans rfl
  |1,_=>exact (blk_cell hb 1).trans rfl
 ·have c:=Kc.ml_homes (cp:=cp) hr n1 n2
  clear hr hc
  go_enter func34,ntmps34
  go_wp2_with (go_at_call 53;(with_reducible refine c.mono ?_);intro e w2 hq;unfold Kc.HomesNewPost at hq;obtain ⟨g,cap,rfl,hr2,hW⟩:=hq;have HQ:=Lib.hid (And.intro hr2 hW);clear hr2 hW c)
  go_ret
  exact ⟨g,cap,rfl,by unfold inH inZ;rw [if_neg (by decide),if_pos rfl,if_neg (by decide),if_pos rfl];exact HQ.out.1,HQ.out.2⟩
 ·have c:=Km.ml_homes (cp:=cp) hr n1 n2
  clear hr hc
  go_enter func34,ntmps34
  go_wp2_with (go_at_call 54;(with_reducible refine c.mono ?_);intro e w2 hq;unfold Km.HomesNewPost at hq;obtain ⟨g,cap,rfl,hr2,hW⟩:=hq;have HQ:=Lib.hid (And.intro hr2 hW);clear hr2 hW c)
  go_ret
  exact ⟨g,cap,rfl,by unfold inH inZ;rw [if_neg (by decide),if_neg (by decide),if_neg (by decide),if_neg (by decide)];exact HQ.out.1,HQ.out.2⟩
theorem rowK_cast (hN:Nat→Nat) (k c:Nat):(rowK hN k c).map (λ(x:Nat)=>(x:Int))=List.replicate (cntH hN c k) (c:Int):=by unfold rowK;rw [List.map_replicate]
theorem rowK_len (hN:Nat→Nat) (k c:Nat):(rowK hN k c).length=cntH hN c k:=List.length_replicate
def HomesNewPost (w:World) (m:Nat) (l:List Int) (e:Ending) (w':World):Prop:=∃ g cap,e= .returned (.slice (some ⟨g,0,none⟩) m cap)∧RowAt .i64 w' (some ⟨g,0,none⟩) m l∧Wr Nil w w'
theorem ml_homes {w:World} {b o n cp:Nat} {zs:List Int} (hr:RowAt .i64 w (some ⟨b,o,none⟩) n zs) {hN:Nat→Nat} (hH:∀ t,t<n→zs.getD t 0=(hN t:Nat)∧hN t<8) (n2:n≤64) {G K:Int} (hG:G=1∨G=3∨G=4) (hK:K=1∨K=3∨K=4):
  Calls prog 13 #[.slice (some ⟨b,o,none⟩) n cp,.int .i64 G,.int .i64 K] w (HomesNewPost w (8+inZ G 8+lZ K (λc=>cntH hN c n) 8) (gH G++lH K (λc=>cntH hN c n) 8)):=by
 obtain ⟨X,hX⟩:∃ X,X=w.alloc (.cells #[.int .i64 0,.int .i64 1,.int .i64 2,.int .i64 3,.int .i64 4,.int .i64 5,.int .i64 6,.int .i64 7] 3):=⟨_,rfl⟩
 have hW:Wr Nil w X:=by rw [hX];exact (Wr.refl _ w).alloc _
 have hnb:RowAt .i64 X (some ⟨w.heap.size,0,none⟩) 8 (nodesI 8):=by
  refine ⟨rfl,λe=>(by cases e),λa ha j hj=> ?_⟩
  cases ha
  have hb:=blk_alloc_new w (.cells #[.int .i64 0,.int .i64 1,.int .i64 2,.int .i64 3,.int .i64 4,.int .i64 5,.int .i64 6,.int .i64 7] 3)
  rw [←hX] at hb
  rw [Go.Addr.add_lit,Nat.zero_add,blk_cell hb]
  match j,hj with
  |0,_=>rfl
  |1,_=>rfl
  |2,_=>rfl
  |3,_=>rfl
  |4,_=>rfl
  |5,_=>rfl
  |6,_=>rfl
  |7,_=>rfl
 have hg0:∀ Y,Y=X.alloc (.cells #[] 3)→Grow 3 1 X X.heap.size Y 0 (([]:List Int).map (.int .i64)) (.slice (some ⟨X.heap.size,0,none⟩) 0 0):=by
  rintro Y rfl
  exact ⟨World.ownsRow_lit X #[] 0 (Nat.le_refl _) (by decide) rfl,(Wr.refl _ X).alloc _,by rw [nblk_alloc];omega,Nat.le_refl _⟩
 have HX:=Lib.hid (And.intro hX (And.intro hW (And.intro hnb hg0)))
 have HR:=Lib.hid (And.intro hr (And.intro hH (And.intro hG hK)))
 have hzg:=inZ_le G 8
 clear hX hW hnb hg0 hr hH hG hK
 go_enter func13,ntmps13
 go_upto_region 2 with fail
 rw [←HX.out.1]
 have hwn:Wr Nil X (X.alloc (.cells #[] 3)):=(Wr.refl _ X).alloc _
 have hg0:=HX.out.2.2.2 _ rfl
 have hn0:=HX.out.2.2.1.after hwn
 go_upto_region 3 with (at_builtin;refine wpList_more rfl _ _ rfl rfl hg0 _ hn0 rfl (by decide) ?_;intro v8 W8 hG8;have H8:=Lib.hid hG8;clear hG8 hg0 hn0 hwn)
 go_wp2_with (first
  |(go_at_call 34;have cc:=wd_any (cp:=8) HR.out.2.2.1 (HX.out.2.2.1.after H8.out.wrote) rfl (by decide) (by decide);(with_reducible refine cc.mono ?_);intro e W9 hq;unfold WdPost at hq;obtain ⟨g9,cap9,rfl,hr9,hW9⟩:=hq;have H9:=Lib.hid (H8.out.after hW9);have hq9:=H9.out;have hr9':=hr9;have hb9:0+8+inZ G 8≤1000000:=(by omega);clear cc hW9)
  |(at_builtin;refine wpList_more rfl _ _ rfl rfl hq9 _ hr9 rfl hb9 ?_;intro v10 W10 hG10;have H10:=Lib.hid hG10;clear hG10 hq9 hr9 hr9' hb9))
 obtain ⟨cnt,hcnt⟩:∃ cnt:Nat→Nat,cnt=λc=>cntH hN c n:=⟨_,rfl⟩
 have hc64:∀ c,cnt c≤64:=λc=>by rw [hcnt];exact Nat.le_trans (cntH_le hN c n) n2
 have HC:=Lib.hid hcnt
 clear hcnt H8 H9
 go_loopw [8,9] (λv8 v9 wr=>∃ (c:Nat),c≤8∧v9= .int .i64 c∧Grow 3 1 X X.heap.size wr (8+inZ G 8+lZ K cnt c) ((gH G++lH K cnt c).map (.int .i64)) v8) (λ_ v9 _=>8-(intOf v9).toNat)
 case atStart=>
  refine ⟨0,by decide,rfl,?_⟩
  have h10:=H10.out
  rw [show 0+8+inZ G 8=8+inZ G 8+lZ K cnt 0 from by show _=8+inZ G 8+0;omega] at h10
  have e:gH G++lH K cnt 0=[]++nodesI 8++inH G (nodesI 8):=by show (nodesI 8++inH G (nodesI 8))++[]=_;rw [List.append_nil,List.nil_append]
  rw [e]
  exact h10
 case round=>
  clear H10
  obtain ⟨c,hc8,rfl,hS⟩:=hrel
  by_cases hlt:c<8
  ·have hci:(c:Int)<8:=by omega
   have hc3:IntKind.i64.wrap ((c:Int)+1)=((c+1:Nat):Int):=by rw [IntKind.wrap_i64];omega
   obtain ⟨W0,hW0⟩:∃ W0,W0=wr:=⟨_,rfl⟩
   have hwr:Wr Nil W0 wr:=by rw [hW0];exact Wr.refl _ _
   rw [←hW0] at hS
   have HS:=Lib.hid hS
   have HW0:=Lib.hid hwr
   clear hS hwr hW0
   go_wp2
   go_loopw [10,28] (λv10 i wr2=>∃ (k:Nat),k≤n∧i= .int .i64 k∧RowQ wr2 v10 ((rowK hN k c).map natV)∧(∀ j,v10.ownBlock=some j→W0.heap.size≤j)∧Wr Nil W0 wr2) (λ_ i _=>n-(intOf i).toNat)
   case atStart=>exact ⟨0,Nat.zero_le _,rfl,RowQ.nil _,λj hj=>(by cases hj),HW0.out⟩
   case round=>
    clear HW0
    obtain ⟨k,hk,rfl,hQ,hB,hW⟩:=hrel
    by_cases hkn:k<n
    ·obtain ⟨hz,h8⟩:=HR.out.2.1 k hkn
     have hk3:IntKind.i64.wrap ((k:Int)+1)=((k+1:Nat):Int):=by rw [IntKind.wrap_i64];omega
     have cz:wr.cell? ⟨b,o+k,none⟩=some (.int .i64 ((hN k:Nat):Int)):=by rw [←hz,←Go.Addr.add_lit];exact (HR.out.1.after ((HX.out.2.1.nil HS.out.wrote).nil hW)).cell _ rfl k hkn
     clear hz h8
     obtain ⟨sa,cp2,hv⟩:=hQ.form
     rw [List.length_map,rowK_len] at hv
     subst hv
     have hcm:=cntH_le hN c k
     by_cases e:hN k=c
     ·have hrk:=rowK_same hN k
      have hck:cntH hN c (k+1)=cntH hN c k+1:=by show _+(if hN k=c then 1 else 0)=_;rw [if_pos e]
      rw [e] at hrk cz
      have q2:=hQ.wrote (((Wr.refl Nil wr).alloc (.cells #[.int .i64 (c:Int)] 3))) λ_ _=>id
      have HK:=Lib.hid (And.intro hrk (And.intro hB hW))
      clear hrk hB hW hQ
      go_wp2_with (at_builtin;refine wpList_push rfl _ _ rfl rfl q2 ⟨wr.heap.size,0,none⟩ (natV c) rfl (by rw [blk_cell (blk_alloc_new _ _)];rfl) (by simp [natV,Value.oneCell']) (by rw [List.length_map,rowK_len];omega) ?_;intro v' w1 hp;obtain ⟨sa',ln',cp',hv'⟩:∃ sa ln cap,v'= .slice sa ln cap:=(by obtain ⟨sa,cap,e⟩:=hp.1.form;exact ⟨_,_,_,e⟩);subst hv';have HP:=Lib.hid hp;clear hp q2)
      go_roundw
      case rel=>
       refine ⟨k+1,by omega,by go_num,?_,λj hj=> ?_,?_⟩
       ·rw [HK.out.1,List.map_append];exact HP.out.1
       ·rcases HP.out.2.2 with q|q
        ·rw [q] at hj;exact HK.out.2.1 j hj
        ·have:=q j hj
         have:=HK.out.2.2.size
         have:=nblk_alloc wr (.cells #[.int .i64 (c:Int)] 3)
         omega
       ·exact HK.out.2.2.trans (((Wr.refl (λj=>(Value.slice sa (cntH hN c k) cp2).ownBlock=some j) wr).alloc _).trans HP.out.2.1 λ_ _ e=>e) λj hj e=>by have:=HK.out.2.1 j e;omega
      case measure=>simp [intOf];omega
     ·have hdn:decide (hN k=c)=false:=decide_eq_false e
      have HK:=Lib.hid (And.intro (rowK_other hN k (c:=c) (λq=>e q.symm)) (And.intro hQ (And.intro hB hW)))
      clear hQ hB hW
      go_wp2
      go_roundw
      case rel=>exact ⟨k+1,by omega,by go_num,by rw [HK.out.1];exact HK.out.2.1,HK.out.2.2.1,HK.out.2.2.2⟩
      case measure=>simp [intOf];omega
    ·obtain rfl:k=n:=by omega
     have hcn:cnt c=cntH hN c k:=by rw [HC.out]
     have hnx:lH K cnt (c+1)=lH K cnt c++(if 0<cnt c then inH K (List.replicate (cnt c) (c:Int)) else []):=rfl
     have hnz:lZ K cnt (c+1)=lZ K cnt c+(if 0<cnt c then inZ K (cnt c) else 0):=rfl
     have hm64:=hc64 c
     have hz1:=lZ_le K cnt c hc64
     have hz2:=inZ_le K (cnt c)
     by_cases hp:0<cnt c
     ·rw [if_pos hp] at hnx hnz
      obtain ⟨ad,cp2,hv,hrow,hsp0⟩:=hQ.rowAt (by rw [rowK_len];omega)
      rw [rowK_len] at hv hrow
      rw [rowK_cast] at hrow
      subst hv
      have hro:∀ W,Wr Nil wr W→RowAt .i64 W (some ad) (cntH hN c k) (List.replicate (cntH hN c k) (c:Int)):=λW q=>hrow.after q
      have hsp:ad.spot=none:=hsp0
      have HK:=Lib.hid (And.intro hro (And.intro hsp (And.intro (HS.out.after hW) (And.intro hcn (And.intro hnx (And.intro hnz hp))))))
      have hp':=hp
      rw [hcn] at hp' hm64 hz2
      generalize hm:cntH hN c k=m at*
      have HM:=Lib.hid hm
      have hd:decide (0<m)=true:=decide_eq_true hp'
      have hcw:=λW (q:Wr Nil wr W)=>wd_any (cp:=cp2) HR.out.2.2.2 (HK.out.1 W q) HK.out.2.1 hp' hm64
      clear hro hsp hsp0 hrow hQ hB hW hcn hnx hnz hp hm
      go_wp2_with (first
       |(go_at_call 34;(with_reducible refine (hcw _ (Wr.refl _ _)).mono ?_);intro e W9 hq;unfold WdPost at hq;obtain ⟨g9',cap9',rfl,hr9,hW9⟩:=hq;have hq9:=HK.out.2.2.1.after hW9;have hb9:8+inZ G 8+lZ K cnt c+inZ K m≤1000000:=(by omega);clear hcw hW9)
       |(at_builtin;refine wpList_more rfl _ _ rfl rfl hq9 _ hr9 rfl hb9 ?_;intro v' W10 hG10;obtain ⟨so',cp',hv'⟩:=hG10.form;subst hv';have H10:=Lib.hid hG10;clear hG10 hq9 hr9 hb9))
      go_roundw
      case rel=>
       refine ⟨c+1,by omega,by go_num,?_⟩
       obtain ⟨_,_,_,hcn,hnx,hnz,_⟩:=HK.out
       rw [hnx,hnz,hcn]
       rw [show 8+inZ G 8+(lZ K cnt c+inZ K m)=8+inZ G 8+lZ K cnt c+inZ K m by omega,←List.append_assoc]
       exact H10.out
      case measure=>simp [intOf];omega
     ·rw [if_neg hp] at hnx hnz
      have h0:cntH hN c k=0:=by omega
      have hv:u10= .slice none 0 0∨∃ sa cap,u10= .slice sa 0 cap:=by
       obtain ⟨sa,cap,e⟩:=hQ.form
       rw [List.length_map,rowK_len,h0] at e
       exact .inr ⟨sa,cap,e⟩
      obtain ⟨sa,cap,hv⟩:∃ sa cap,u10= .slice sa 0 cap:=by
       rcases hv with e|e
       ·exact ⟨_,_,e⟩
       ·exact e
      subst hv
      have HK:=Lib.hid (And.intro (HS.out.after hW) (And.intro hnx hnz))
      clear hQ hB hW hnx hnz hp h0
      go_wp2
      go_roundw
      case rel=>
       refine ⟨c+1,by omega,by go_num,?_⟩
       rw [HK.out.2.1,HK.out.2.2,List.append_nil,Nat.add_zero]
       exact HK.out.1
      case measure=>simp [intOf];omega
  ·obtain rfl:c=8:=by omega
   rw [HC.out] at hS
   obtain ⟨g,cap,rfl,_,_,_,hrow,_⟩:=own_row hS.own (by omega)
   have HQ:=Lib.hid (And.intro hrow hS.wrote)
   clear hS hrow
   go_wp2
   go_ret
   exact ⟨g,cap,rfl,HQ.out.1,HX.out.2.1.nil HQ.out.2⟩
end Go.Proofs.YtkmikkjjnbikdaaGreat


import Derived.Test.YtcikfcplagelaaaGreatMemHomes
import Derived.Test.YtcikfcplagelaaaGreatCacheRef
namespace Go.Proofs.YtcikfcplagelaaaGreat
open _root_.Go.Proofs.Tryz
open Go.RowKit
set_option linter.unusedVariables false
set_option maxRecDepth 100000
structure PSta where
 ws:List Int
 D:List Tch
 ac:List Nat
 wc:List Nat
 mc:List Nat
structure Place where
 p:Nat
 m:Nat
 bw:Nat
 c:Nat
 bc:Nat
 bm:Nat
 ba:Nat
 bv:Nat
 k0:Nat
 k1:Nat
 k2:Nat
 k3:Nat
 hv:Value
def Rng (a b:Nat) (k:Nat):Prop:=a≤k∧k<b
structure Place.ok (q:Place):Prop where
 m:q.k0≤q.m∧q.m<q.k1
 bw:q.k0≤q.bw∧q.bw<q.k1
 hv:∀ k,q.hv.ownBlock=some k→q.k0≤k∧k<q.k1
 c:q.k1≤q.c∧q.c<q.k2
 bc:q.k1≤q.bc∧q.bc<q.k2
 bm:q.k1≤q.bm∧q.bm<q.k2
 p:q.k2≤q.p∧q.p<q.k3
 ba:q.k2≤q.ba∧q.ba<q.k3
 bv:q.k2≤q.bv∧q.bv<q.k3
 ne:q.p≠q.ba∧q.p≠q.bv∧q.ba≠q.bv
 le:q.k0≤q.k1∧q.k1≤q.k2∧q.k2≤q.k3
def natRow (l:List Nat):Array Value:=(l.map λ(n:Nat)=>Value.int .i64 (n:Int)).toArray
structure PortAt (w:World) (q:Place) (hs:List Int) (s:PSta):Prop where
 obj:w.heap[q.p]? =some (.cells #[.pointer (some ⟨q.m,0,none⟩),.pointer (some ⟨q.c,0,none⟩),.slice (some ⟨q.ba,0,none⟩) s.ac.length s.ac.length,.slice (some ⟨q.bv,0,none⟩) s.ac.length s.ac.length] 52 (0,0))
 mem:MemAt w q.m q.bw q.hv hs s.ws
 cache:∃ cs,CacheAt w q.c q.bc q.bm cs s.mc s.D.length∧cs.length=s.ws.length∧Rel cs s.ac.length s.D
 acc:w.heap[q.ba]? =some (.cells (natRow s.ac) 3 (0,0))
 wri:w.heap[q.bv]? =some (.cells (natRow s.wc) 3 (0,0))
 lv:s.wc.length=s.ac.length
 lm:s.mc.length=s.ac.length
 rngA:∀ x∈s.ac,x≤s.D.length
 rngV:∀ x∈s.wc,x≤s.D.length
 place:q.ok
namespace PortAt
variable {w w':World} {q:Place} {hs:List Int} {s:PSta}
theorem cell0 (h:PortAt w q hs s):w.cell? ⟨q.p,0,none⟩=some (.pointer (some ⟨q.m,0,none⟩)):=by rw [blk_cell h.obj];rfl
theorem cell2 (h:PortAt w q hs s):w.cell? ⟨q.p,2,none⟩=some (.slice (some ⟨q.ba,0,none⟩) s.ac.length s.ac.length):=by rw [blk_cell h.obj];rfl
theorem wrote {S:Nat→Prop} (h:PortAt w q hs s) (k:Wr S w w') (hS:∀ b,q.k0≤b→b<q.k3→¬ S b):PortAt w' q hs s:=by
 obtain ⟨cs,h1,h2,h3⟩:=h.cache
 have P:=h.place
 have q1:=P.m;have q2:=P.bw;have q3:=P.hv;have q4:=P.c;have q5:=P.bc;have q6:=P.bm;have q7:=P.p;have q8:=P.ba;have q9:=P.bv;have q10:=P.le
 refine ⟨(k.block q.p (blk_lt h.obj) (hS _ (by omega) (by omega))).trans h.obj,h.mem.wrote k (hS _ (by omega) (by omega)) (hS _ (by omega) (by omega)) (λj hj=>hS _ (by have:=q3 j hj;omega) (by have:=q3 j hj;omega)),
  ⟨cs,h1.wrote k (hS _ (by omega) (by omega)) (hS _ (by omega) (by omega)) (hS _ (by omega) (by omega)),h2,h3⟩,(k.block q.ba (blk_lt h.acc) (hS _ (by omega) (by omega))).trans h.acc,(k.block q.bv (blk_lt h.wri) (hS _ (by omega) (by omega))).trans h.wri,
  h.lv,h.lm,h.rngA,h.rngV,h.place⟩
end PortAt
theorem pthreads_any {w:World} {q:Place} {hs:List Int} {s:PSta} (h:PortAt w q hs s):
  Calls prog 16 #[.pointer (some ⟨q.p,0,none⟩)] w λe w'=>e= .returned (.int .i64 s.ac.length)∧w'=w:=by
 have c1:=h.cell2
 clear h
 go_enter func16,ntmps16
 go_wp2
 go_ret
 exact ⟨rfl,rfl⟩
set_option maxHeartbeats 8000000
open _root_.Go.Proofs.Tryz Go.Deep
def newS (n:Nat) (vs:List Int):PSta:={ws:=vs,D:=[],ac:=List.replicate n 0,wc:=List.replicate n 0,mc:=List.replicate n 0}
def NewPortPost (w0:World) (hs:List Int) (s:PSta) (e:Ending) (w':World):Prop:=
 ∃ q:Place,e= .returned (.tuple #[.pointer (some ⟨q.p,0,none⟩),.int .i64 0])∧PortAt w' q hs s∧w0.heap.size≤q.k0∧q.k3≤w'.heap.size∧Wr Nil w0 w'
theorem made_port {wr X:World} {p b bw c bc bm ba bv k0 k1 k2 k3 n:Nat} {hv:Value} {hs vs:List Int} (hM:MemAt wr b bw hv hs vs) (hC:CacheAt wr c bc bm (List.replicate vs.length 0) (List.replicate n 0) 0) (hW:Wr Nil wr X)
  (ho:X.heap[p]? =some (.cells #[.pointer (some ⟨b,0,none⟩),.pointer (some ⟨c,0,none⟩),.slice (some ⟨ba,0,none⟩) n n,.slice (some ⟨bv,0,none⟩) n n] 52 (0,0)))
  (hA:X.heap[ba]? =some (.cells (natRow (List.replicate n 0)) 3 (0,0))) (hV:X.heap[bv]? =some (.cells (natRow (List.replicate n 0)) 3 (0,0))) (hP:(Place.mk p b bw c bc bm ba bv k0 k1 k2 k3 hv).ok):
  PortAt X ⟨p,b,bw,c,bc,bm,ba,bv,k0,k1,k2,k3,hv⟩ hs (newS n vs):=by
 refine ⟨?_,hM.after hW,⟨_,hC.after hW,by simp [newS],?_⟩,hA,hV,by simp [newS],by simp [newS],?_,?_,hP⟩
 ·simpa [newS] using ho
 ·have:=rel_new vs.length n
  simpa [newS] using this
 ·intro x hx
  simp [newS] at hx
  omega
 ·intro x hx
  simp [newS] at hx
  omega
def mixL (vs:List Int) (k:Nat):List Int:=vs.take k++List.replicate (vs.length-k) 0
theorem mixL_zero (vs:List Int):mixL vs 0=List.replicate vs.length 0:=by simp [mixL]
theorem mixL_all (vs:List Int):mixL vs vs.length=vs:=by simp [mixL]
theorem mixL_step {vs:List Int} {k:Nat} (hk:k<vs.length):storeL (mixL vs k) k (vs.getD k 0)=mixL vs (k+1):=by
 rw [store_at]
 apply List.ext_getElem?
 intro j
 unfold mixL
 rw [List.getElem?_set]
 by_cases e:k=j
 ·subst e
  rw [if_pos rfl,if_pos (by simp;omega),List.getElem?_append_left (by simp;omega)]
  simp [hk,List.getElem?_take_of_lt]
 ·rw [if_neg e]
  by_cases hj:j<k
  ·rw [List.getElem?_append_left (by simp;omega),List.getElem?_append_left (by simp;omega),List.getElem?_take_of_lt hj,List.getElem?_take_of_lt (by omega)]
  ·rw [List.getElem?_append_right (by simp;omega),List.getElem?_append_right (by simp;omega)]
   simp only [List.length_take,List.getElem?_replicate]
   have e1:min k vs.length=k:=by omega
   have e2:min (k+1) vs.length=k+1:=by omega
   rw [e1,e2]
   by_cases hjn:j<vs.length
   ·rw [if_pos (by omega),if_pos (by omega)]
   ·rw [if_neg (by omega),if_neg (by omega)]
set_option maxRecDepth 100000 in
theorem pnew_good {w0 w:World} (h0:Wr Nil w0 w) {sa sb:Option Addr} {m c1 c2 n:Nat} {hs vs:List Int} (hr:RowAt .i64 w sa m hs) (hv:RowAt .u32 w sb m vs) (wf:∀ j,0≤vs.getD j 0∧vs.getD j 0<4294967296)
  (n1:1≤n) (n2:n≤64) (hm:m≤4096) (ho:homesOK hs=true):
  Calls prog 64 #[.int .i64 n,.slice sa m c1,.slice sb m c2] w (NewPortPost w0 hs (newS n vs)):=by
 have cM:=new_ok (c:=c1) hr hm ho
 have hat:=hv.at
 have hlv:=hv.len
 obtain ⟨i1,gi,gz0,gz1,gz2⟩:=info_parts info_i64
 have hmk2:∀ w:World,(Instr.makeSlice 22 (.int .i64 (n:Int)) (.int .i64 (n:Int))).run prog w= .ok (.slice (some ⟨w.heap.size,0,none⟩) n n) (w.alloc (.cells (natRow (List.replicate n 0)) 3)):=by
  intro w
  have h:=Go.run_make (P:=prog) w 22 3 i1 _ underlying22 gi gz0 .i64 .i64 n n (by omega) (by omega) (by rw [gz2];omega) (by omega)
  rw [gz1] at h
  simp only [Int.toNat_natCast] at h
  rw [made_i64] at h
  exact h
 generalize hB:natRow (List.replicate n 0)=B at hmk2
 have HB:=Lib.hid hB
 have HV:=Lib.hid (And.intro hlv wf)
 have k1:¬ (n:Int)<1:=by omega
 have k2:¬ (64:Int)<n:=by omega
 have hsz:=h0.size
 clear hr hv wf hB hlv
 go_enter func64,ntmps64
 go_wp2_with (first
  |(go_at_call 94;with_reducible refine cM.mono ?_;rintro e w1 ⟨b,bw,hv,rfl,hM1,hb,hbw,hown,hW1⟩)
  |(go_at_call 95;have cC:=cnew_good (w:=w1) (threads:=n) (words:=m) n1 n2 hm;with_reducible refine cC.mono ?_;intro e w2 h2;unfold NewCachePost at h2;obtain ⟨c,bc,bm,rfl,hC2,g1,g2,g3,hW2⟩:=h2))
 have hM2:=hM1.after hW2
 have hlt1:=hM1.lt
 have hlt2:=hC2.lt
 have hs1:=hW1.size
 have hs2:=hW2.size
 have HQ:=Lib.hid (And.intro hlt1 (And.intro hlt2 (And.intro hown (And.intro hM1.ne (And.intro hC2 (And.intro hW1 hW2))))))
 have HS:=Lib.hid (And.intro hb (And.intro hbw (And.intro g1 (And.intro g2 (And.intro g3 (And.intro hs1 (And.intro hs2 hsz)))))))
 clear hM1 hlt1 hlt2 hs1 hs2 hown hb hbw g1 g2 g3 hsz hC2 hW1 hW2
 go_loopw [46] (λi wr=>∃ k:Nat,k≤m∧i= .int .i64 k∧MemAt wr b bw hv hs (mixL vs k)∧Wr (One bw) w2 wr) (λi _=>m-(intOf i).toNat)
 case atStart=>exact ⟨0,Nat.zero_le _,rfl,by rw [mixL_zero,HV.out.1];exact hM2,Wr.refl _ _⟩
 case round=>
  clear hM2
  obtain ⟨k,hk,rfl,hM,hW⟩:=hrel
  by_cases hlt:k<m
  ·rcases hat with e0|⟨ob,oo,rfl,hcell⟩
   ·omega
   ·have hne:ob<w.heap.size:=World.block_lt_of_cell? w _ (hcell k hlt)
    have hcl:wr.cell? ⟨ob,oo+k,none⟩=some (.int .u32 (vs.getD k 0)):=by
     have e1:=HQ.out.2.2.2.2.2.1.old (hcell k hlt)
     have e2:=HQ.out.2.2.2.2.2.2.old e1
     refine hW.cell e2 ?_
     intro e
     have e':ob=bw:=e
     have:=HS.out.2.1
     omega
    obtain ⟨x,hx⟩:∃ x,x=vs.getD k 0:=⟨_,rfl⟩
    rw [←hx] at hcl
    have x01:0≤x∧x<4294967296:=by rw [hx];exact HV.out.2 k
    obtain ⟨x0,x1⟩:=x01
    have cS:=store_any hM (k:Int) x x0 x1
    rw [hx,mixL_step (by rw [HV.out.1];exact hlt),←hx] at cS
    have HX:=Lib.hid (And.intro hx (And.intro hcell hM))
    clear hx hcell hM
    go_wp2_with (go_at_call 96;with_reducible refine cS.mono ?_;rintro e w3 ⟨rfl,hM3,hW3⟩)
    go_roundw
    case rel=>exact ⟨k+1,by omega,by go_num,hM3,hW.trans hW3 λ_ _=>id⟩
    case measure=>simp [intOf];omega
  ·obtain rfl:k=m:=by omega
   clear hat
   have HM:=Lib.hid (And.intro hM hW)
   clear hM hW
   go_wp2
   go_region
   all_goals
    go_wp2
    go_ret2
    obtain ⟨l1,l2,l3,l4,hC,hW1,hW2⟩:=HQ.out
    obtain ⟨s1,s2,s3,s4,s5,s6,s7,s8⟩:=HS.out
    obtain ⟨hM,hW⟩:=HM.out
    obtain rfl:=HB.out
    have hlv:=HV.out.1
    subst hlv
    rw [mixL_all] at hM
    have hs3:=hW.size
    have hCr:=hC.wrote hW (by intro e;have:c=bw:=e;omega) (by intro e;have:bc=bw:=e;omega) (by intro e;have:bm=bw:=e;omega)
    have hWr:Wr Nil w0 wr:=(h0.nil (hW1.nil hW2)).one hW (by omega)
    unfold NewPortPost
    first
     |(obtain ⟨b0,b1,b2,hWx⟩:=three_blocks wr (.cells (natRow (List.replicate n 0)) 3) (.cells (natRow (List.replicate n 0)) 3) (.cells #[.pointer (some ⟨b,0,none⟩),.pointer (some ⟨c,0,none⟩),.slice (some ⟨wr.heap.size,0,none⟩) n n,.slice (some ⟨wr.heap.size+1,0,none⟩) n n] 52)
       refine ⟨⟨wr.heap.size+1+1,b,bw,c,bc,bm,wr.heap.size,wr.heap.size+1,w.heap.size,w1.heap.size,w2.heap.size,wr.heap.size+3,hv⟩,rfl,made_port hM hCr hWx b2 b0 b1 ?_,s8,?_,hWr.nil hWx⟩
       ·exact ⟨⟨s1,l1.1⟩,⟨s2,l1.2.1⟩,λk hk=>⟨l3 k hk,l1.2.2 k hk⟩,⟨s3,l2.1⟩,⟨s4,l2.2.1⟩,⟨s5,l2.2.2⟩,by simp only;omega,by simp only;omega,by simp only;omega,by simp only;omega,by simp only;omega⟩
       ·exact Nat.le_of_eq (by show wr.heap.size+3=(((wr.alloc _).alloc _).alloc _).heap.size;rw [nblk_alloc,nblk_alloc,nblk_alloc]))
     |(obtain ⟨b0,b1,b2,hWx⟩:=three_blocks wr (.cells (natRow (List.replicate n 0)) 3) (.cells (natRow (List.replicate n 0)) 3) (.cells #[.pointer (some ⟨b,0,none⟩),.pointer (some ⟨c,0,none⟩),.slice (some ⟨wr.heap.size+1,0,none⟩) n n,.slice (some ⟨wr.heap.size,0,none⟩) n n] 52)
       refine ⟨⟨wr.heap.size+1+1,b,bw,c,bc,bm,wr.heap.size+1,wr.heap.size,w.heap.size,w1.heap.size,w2.heap.size,wr.heap.size+3,hv⟩,rfl,made_port hM hCr hWx b2 b1 b0 ?_,s8,?_,hWr.nil hWx⟩
       ·exact ⟨⟨s1,l1.1⟩,⟨s2,l1.2.1⟩,λk hk=>⟨l3 k hk,l1.2.2 k hk⟩,⟨s3,l2.1⟩,⟨s4,l2.2.1⟩,⟨s5,l2.2.2⟩,by simp only;omega,by simp only;omega,by simp only;omega,by simp only;omega,by simp only;omega⟩
       ·exact Nat.le_of_eq (by show wr.heap.size+3=(((wr.alloc _).alloc _).alloc _).heap.size;rw [nblk_alloc,nblk_alloc,nblk_alloc]))
end Go.Proofs.YtcikfcplagelaaaGreat


import Derived.Test.YtcikfcplagelaaaGreatMix
import Derived.BigQuiet
import Derived.StillTailTactics
namespace Go.Proofs.YtcikfcplagelaaaGreat
open _root_.Go.Proofs.Tryz
open Go.RowKit
set_option linter.unusedVariables false
set_option maxRecDepth 100000
theorem info_u64:(prog.info? 290).map (λi=>(i.zero,i.size,i.bytes))=some (some (.int .u64 0),1,8):=by kernel_rfl
theorem info_i64:(prog.info? 3).map (λi=>(i.zero,i.size,i.bytes))=some (some (.int .i64 0),1,8):=by kernel_rfl
structure CacheAt (w:World) (c bc bm:Nat) (cs ms:List Nat) (lim:Nat):Prop where
 obj:w.heap[c]? =some (.cells #[.slice (some ⟨bc,0,none⟩) cs.length cs.length,.slice (some ⟨bm,0,none⟩) ms.length ms.length] 235 (0,0))
 copies:w.heap[bc]? =some (.cells (cs.map λ(n:Nat)=>Value.int .u64 (n:Int)).toArray 290 (0,0))
 misses:w.heap[bm]? =some (.cells (ms.map λ(n:Nat)=>Value.int .i64 (n:Int)).toArray 3 (0,0))
 ne1:bc≠c
 ne2:bm≠c
 ne3:bc≠bm
 words:cs.length≤4096
 threads:ms.length≤64
 fits:∀ x∈cs,x<2 ^ ms.length
 rng:∀ x∈ms,x≤lim
namespace CacheAt
variable {w w':World} {c bc bm:Nat} {cs ms:List Nat} {lim:Nat}
theorem lt (h:CacheAt w c bc bm cs ms lim):c<w.heap.size∧bc<w.heap.size∧bm<w.heap.size:=⟨blk_lt h.obj,blk_lt h.copies,blk_lt h.misses⟩
theorem keep (h:CacheAt w c bc bm cs ms lim) (h0:w'.heap[c]? =w.heap[c]?) (h1:w'.heap[bc]? =w.heap[bc]?) (h2:w'.heap[bm]? =w.heap[bm]?):CacheAt w' c bc bm cs ms lim:=
 ⟨h0.trans h.obj,h1.trans h.copies,h2.trans h.misses,h.ne1,h.ne2,h.ne3,h.words,h.threads,h.fits,h.rng⟩
theorem wrote {S:Nat→Prop} (h:CacheAt w c bc bm cs ms lim) (k:Wr S w w') (h0:¬ S c) (h1:¬ S bc) (h2:¬ S bm):CacheAt w' c bc bm cs ms lim:=
 h.keep (k.block c h.lt.1 h0) (k.block bc h.lt.2.1 h1) (k.block bm h.lt.2.2 h2)
theorem after (h:CacheAt w c bc bm cs ms lim) (k:Wr Nil w w'):CacheAt w' c bc bm cs ms lim:=h.wrote k id id id
end CacheAt
set_option maxHeartbeats 8000000
open _root_.Go.Proofs.Tryz Go.Deep
def NewCachePost (w0:World) (threads words:Nat) (e:Ending) (w':World):Prop:=
 ∃ c bc bm,e= .returned (.tuple #[.pointer (some ⟨c,0,none⟩),.int .i64 0])∧CacheAt w' c bc bm (List.replicate words 0) (List.replicate threads 0) 0∧w0.heap.size≤c∧w0.heap.size≤bc∧w0.heap.size≤bm∧Wr Nil w0 w'
theorem made_u64 (n:Nat):madeCells (Value.int .u64 0).cells (n*1)=((List.replicate n (0:Nat)).map λ(n:Nat)=>Value.int .u64 (n:Int)).toArray:=by
 simp only [Nat.mul_one,madeCells,Value.cells]
 apply Array.ext
 ·simp
 ·intro i h1 h2
  simp [Nat.mod_one]
theorem made_i64 (n:Nat):madeCells (Value.int .i64 0).cells (n*1)=((List.replicate n (0:Nat)).map λ(n:Nat)=>Value.int .i64 (n:Int)).toArray:=by
 simp only [Nat.mul_one,madeCells,Value.cells]
 apply Array.ext
 ·simp
 ·intro i h1 h2
  simp [Nat.mod_one]
theorem new_cacheAt {w:World} {c bc bm threads words:Nat} (ht:threads≤64) (hw:words≤4096)
  (ho:w.heap[c]? =some (.cells #[.slice (some ⟨bc,0,none⟩) words words,.slice (some ⟨bm,0,none⟩) threads threads] 235 (0,0)))
  (hc:w.heap[bc]? =some (.cells ((List.replicate words (0:Nat)).map λ(n:Nat)=>Value.int .u64 (n:Int)).toArray 290 (0,0)))
  (hm:w.heap[bm]? =some (.cells ((List.replicate threads (0:Nat)).map λ(n:Nat)=>Value.int .i64 (n:Int)).toArray 3 (0,0)))
  (n1:bc≠c) (n2:bm≠c) (n3:bc≠bm):CacheAt w c bc bm (List.replicate words 0) (List.replicate threads 0) 0:=
 ⟨by simpa using ho,hc,hm,n1,n2,n3,by simpa using hw,by simpa using ht,λx hx=>by simp at hx;rw [hx.2];exact Nat.two_pow_pos _,λx hx=>by simp at hx;omega⟩
theorem three_blocks (w:World) (X Y Z:Obj):((((w.alloc X).alloc Y).alloc Z).drew).heap[w.heap.size]? =some X∧((((w.alloc X).alloc Y).alloc Z).drew).heap[w.heap.size+1]? =some Y∧
  ((((w.alloc X).alloc Y).alloc Z).drew).heap[w.heap.size+1+1]? =some Z∧Wr Nil w (((w.alloc X).alloc Y).alloc Z).drew:=by
 have n1:(w.alloc X).heap.size=w.heap.size+1:=nblk_alloc _ _
 have n2:((w.alloc X).alloc Y).heap.size=w.heap.size+1+1:=by rw [nblk_alloc,n1]
 refine ⟨?_,?_,?_,((((Wr.refl Nil w).alloc _).alloc _).alloc _).drew⟩
 ·show (((w.alloc X).alloc Y).alloc Z).heap[w.heap.size]? =_
  rw [blk_alloc_lt _ _ _ (by omega),blk_alloc_lt _ _ _ (by omega),blk_alloc_new]
 ·show (((w.alloc X).alloc Y).alloc Z).heap[w.heap.size+1]? =_
  rw [blk_alloc_lt _ _ _ (by omega),←n1,blk_alloc_new]
 ·show (((w.alloc X).alloc Y).alloc Z).heap[w.heap.size+1+1]? =_
  rw [←n2,blk_alloc_new]
theorem cnew_good {w:World} {threads words:Nat} (h1:1≤threads) (ht:threads≤64) (hw:words≤4096):
  Calls prog 95 #[.int .i64 threads,.int .i64 words] w (NewCachePost w threads words):=by
 obtain ⟨i0,hi,hz0,hz1,hz2⟩:=info_parts info_u64
 obtain ⟨i1,gi,gz0,gz1,gz2⟩:=info_parts info_i64
 have hmk:∀ w:World,(Instr.makeSlice 233 (.int .i64 (words:Int)) (.int .i64 (words:Int))).run prog w= .ok (.slice (some ⟨w.heap.size,0,none⟩) words words) (w.alloc (.cells ((List.replicate words (0:Nat)).map λ(n:Nat)=>Value.int .u64 (n:Int)).toArray 290)):=by
  intro w
  have h:=Go.run_make (P:=prog) w 233 290 i0 _ underlying233 hi hz0 .i64 .i64 words words (by omega) (by omega) (by rw [hz2];omega) (by omega)
  rw [hz1] at h
  simp only [Int.toNat_natCast] at h
  rw [made_u64] at h
  exact h
 have hmk2:∀ w:World,(Instr.makeSlice 22 (.int .i64 (threads:Int)) (.int .i64 (threads:Int))).run prog w= .ok (.slice (some ⟨w.heap.size,0,none⟩) threads threads) (w.alloc (.cells ((List.replicate threads (0:Nat)).map λ(n:Nat)=>Value.int .i64 (n:Int)).toArray 3)):=by
  intro w
  have h:=Go.run_make (P:=prog) w 22 3 i1 _ underlying22 gi gz0 .i64 .i64 threads threads (by omega) (by omega) (by rw [gz2];omega) (by omega)
  rw [gz1] at h
  simp only [Int.toNat_natCast] at h
  rw [made_i64] at h
  exact h
 have k1:¬ (threads:Int)<1:=by omega
 have k2:¬ (64:Int)<threads:=by omega
 have k3:¬ (words:Int)<0:=by omega
 have k4:¬ (4096:Int)<words:=by omega
 generalize hA:((List.replicate words (0:Nat)).map λ(n:Nat)=>Value.int .u64 (n:Int)).toArray=A at hmk
 generalize hB:((List.replicate threads (0:Nat)).map λ(n:Nat)=>Value.int .i64 (n:Int)).toArray=B at hmk2
 have HA:=Lib.hid (And.intro hA hB)
 clear hA hB
 go_enter func95,ntmps95
 go_wp2
 go_region
 all_goals
  go_wp2
  go_ret2
  obtain ⟨rfl,rfl⟩:=HA.out
  first
   |(obtain ⟨b0,b1,b2,hW⟩:=three_blocks w (.cells ((List.replicate words (0:Nat)).map λ(n:Nat)=>Value.int .u64 (n:Int)).toArray 290) (.cells ((List.replicate threads (0:Nat)).map λ(n:Nat)=>Value.int .i64 (n:Int)).toArray 3) (.cells #[.slice (some ⟨w.heap.size,0,none⟩) words words,.slice (some ⟨w.heap.size+1,0,none⟩) threads threads] 235)
     exact ⟨_,_,_,rfl,new_cacheAt ht hw b2 b0 b1 (by omega) (by omega) (by omega),by omega,by omega,by omega,hW⟩)
   |(obtain ⟨b0,b1,b2,hW⟩:=three_blocks w (.cells ((List.replicate threads (0:Nat)).map λ(n:Nat)=>Value.int .i64 (n:Int)).toArray 3) (.cells ((List.replicate words (0:Nat)).map λ(n:Nat)=>Value.int .u64 (n:Int)).toArray 290) (.cells #[.slice (some ⟨w.heap.size+1,0,none⟩) words words,.slice (some ⟨w.heap.size,0,none⟩) threads threads] 235)
     exact ⟨_,_,_,rfl,new_cacheAt ht hw b2 b1 b0 (by omega) (by omega) (by omega),by omega,by omega,by omega,hW⟩)
abbrev Tch:=Int×Int×Bool
def tchCells (x:Tch):List Value:=[.int .i64 x.1,.int .i64 x.2.1,.bool x.2.2]
def hasStep (b:Bool) (x:Tch) (t a:Int):Bool:=if x.2.1=a then (if x.1=t then true else if x.2.2 then false else b) else b
def hasR:List Tch→Int→Int→Bool
 |[],_,_=>false
 |x::r,t,a=>hasStep (hasR r t a) x t a
def hasL (D:List Tch) (t a:Int):Bool:=hasR D.reverse t a
theorem hasL_nil (t a:Int):hasL [] t a=false:=rfl
def Rel (cs:List Nat) (n:Nat) (D:List Tch):Prop:=∀ a,a<cs.length→∀ t,t<n→(cs.getD a 0).testBit t=hasL D t a
theorem rel_new (words n:Nat):Rel (List.replicate words 0) n []:=by
 intro a ha t ht
 have:(List.replicate words 0).getD a 0=0:=by
  rw [List.getD_eq_getElem?_getD,List.getElem?_replicate]
  split<;>rfl
 rw [this,hasL_nil]
 simp
end Go.Proofs.YtcikfcplagelaaaGreat


import Derived.Test.YtmnephejhkfchaaGreatGrow
import Derived.BigQuiet
namespace Go.Proofs.YtmnephejhkfchaaGreat
open _root_.Go.Proofs.Tryz
open Go.RowKit
set_option linter.unusedVariables false
set_option maxRecDepth 100000
theorem ret_int {k:IntKind} {a b:Int} (h:a=b):Ending.returned (.int k a)= .returned (.int k b):=by rw [h]
theorem ret_bool {a b:Bool} (h:a=b):Ending.returned (.bool a)= .returned (.bool b):=by rw [h]
theorem info_int:(prog.info? 3).map (λi=>(i.zero,i.size,i.bytes))=some (some (.int .i64 0),1,8):=by kernel_rfl
theorem info_u32:(prog.info? 23).map (λi=>(i.zero,i.size,i.bytes))=some (some (.int .u32 0),1,4):=by kernel_rfl
theorem info_word:(prog.info? 184).map (λi=>(i.zero,i.size,i.bytes))=some (some (.agg #[.int .u32 0]),1,4):=by kernel_rfl
theorem aload_any (b o:Nat) (x:Int) (w:World) (hc:w.cell? ⟨b,o,none⟩=some (.int .u32 x)):
  Calls prog 97 #[.pointer (some ⟨b,o,none⟩)] w λe w'=>e= .returned (.int .u32 x)∧w=w':=by
 have hl:=run_call_load (P:=prog) func105 (by kernel_rfl) (by kernel_rfl) (by kernel_rfl) .u32 (by kernel_rfl) hc
 go_enter func97,ntmps97
 go_wp2
 go_ret
 exact ⟨rfl,rfl⟩
theorem astore_any (b o:Nat) (x y:Int) (w:World) (hc:w.cell? ⟨b,o,none⟩=some (.int .u32 x)) (hz:w.frozen? ⟨b,o,none⟩=false):
  Calls prog 78 #[.pointer (some ⟨b,o,none⟩),.int .u32 y] w λe w'=>e= .returned (.tuple #[])∧w'=w.setCell ⟨b,o,none⟩ (.int .u32 y):=by
 have hl:=run_call_store (P:=prog) func81 (by kernel_rfl) (by kernel_rfl) (by kernel_rfl) (by kernel_rfl) (k:= .u32) (y:=y) hc hz
 go_enter func78,ntmps78
 go_wp2
 go_end0
 exact ⟨rfl,rfl⟩
theorem aswap_any (b o:Nat) (x y:Int) (w:World) (hc:w.cell? ⟨b,o,none⟩=some (.int .u32 x)) (hz:w.frozen? ⟨b,o,none⟩=false):
  Calls prog 158 #[.pointer (some ⟨b,o,none⟩),.int .u32 y] w λe w'=>e= .returned (.int .u32 x)∧w'=w.setCell ⟨b,o,none⟩ (.int .u32 y):=by
 have hl:=run_call_swap (P:=prog) func159 (by kernel_rfl) (by kernel_rfl) (by kernel_rfl) .u32 (by kernel_rfl) (y:=y) hc hz
 go_enter func158,ntmps158
 go_wp2
 go_ret
 exact ⟨rfl,rfl⟩
def casW (w:World) (a:Addr) (x old y:Int):World:=if x=old then w.setCell a (.int .u32 y) else w
theorem acas_any (b o:Nat) (x old y:Int) (w:World) (hc:w.cell? ⟨b,o,none⟩=some (.int .u32 x)) (hz:w.frozen? ⟨b,o,none⟩=false):
  Calls prog 173 #[.pointer (some ⟨b,o,none⟩),.int .u32 old,.int .u32 y] w λe w'=>e= .returned (.bool (decide (x=old)))∧w'=casW w ⟨b,o,none⟩ x old y:=by
 by_cases h:x=old
 ·subst h
  have hl:=run_call_cas_hit (P:=prog) func174 (by kernel_rfl) (by kernel_rfl) (by kernel_rfl) .u32 (by kernel_rfl) (y:=y) hc hz
  go_enter func173,ntmps173
  go_wp2
  go_ret
  exact ⟨by simp,by simp [casW]⟩
 ·have hl:=run_call_cas_miss (P:=prog) func174 (by kernel_rfl) (by kernel_rfl) (by kernel_rfl) .u32 (by kernel_rfl) (y:=y) hc hz h
  have H:=Lib.hid h
  clear h
  go_enter func173,ntmps173
  go_wp2
  go_ret
  exact ⟨ret_bool (by simp [H.out]),by simp [casW,H.out]⟩
theorem aadd_any (b o:Nat) (x y:Int) (w:World) (hc:w.cell? ⟨b,o,none⟩=some (.int .u32 x)) (hz:w.frozen? ⟨b,o,none⟩=false):
  Calls prog 144 #[.pointer (some ⟨b,o,none⟩),.int .u32 y] w λe w'=>e= .returned (.int .u32 ((x+y)%4294967296))∧w'=w.setCell ⟨b,o,none⟩ (.int .u32 ((x+y)%4294967296)):=by
 have hl:=run_call_add (P:=prog) func145 (by kernel_rfl) (by kernel_rfl) (by kernel_rfl) .u32 (by kernel_rfl) (y:=y) (s:=(x+y)%4294967296) hc hz (by simp [go_sem];rfl)
 go_enter func144,ntmps144
 go_wp2
 go_ret
 exact ⟨rfl,rfl⟩
def hasB (n:Nat) (a:Int):Bool:=decide (0≤a∧a<n)
def loadI (ws:List Int) (a:Int):Int:=if 0≤a then ws.getD a.toNat 0 else 0
def storeL (ws:List Int) (a v:Int):List Int:=if 0≤a then ws.set a.toNat v else ws
def casB (ws:List Int) (a old:Int):Bool:=hasB ws.length a&&decide (loadI ws a=old)
def casL (ws:List Int) (a old v:Int):List Int:=if casB ws a old then storeL ws a v else ws
def addL (ws:List Int) (a d:Int):List Int:=storeL ws a ((loadI ws a+d)%4294967296)
theorem has_at {n k:Nat} (h:k<n):hasB n k=true:=by simp [hasB,h]
theorem has_not {n:Nat} {a:Int} (h:¬(0≤a∧a<n)):hasB n a=false:=by simp only [hasB,decide_eq_false_iff_not];exact h
theorem load_at (ws:List Int) (k:Nat):loadI ws k=ws.getD k 0:=by simp [loadI]
theorem load_not {ws:List Int} {a:Int} (h:¬(0≤a∧a<ws.length)):loadI ws a=0:=by
 unfold loadI
 split
 ·have h2:ws.length≤a.toNat:=by omega
  simp [List.getElem?_eq_none h2]
 ·rfl
theorem store_at (ws:List Int) (k:Nat) (v:Int):storeL ws k v=ws.set k v:=by simp [storeL]
theorem store_not {ws:List Int} {a v:Int} (h:¬(0≤a∧a<ws.length)):storeL ws a v=ws:=by
 unfold storeL
 split
 ·exact List.set_eq_of_length_le (by omega)
 ·rfl
theorem storeL_len (ws:List Int) (a v:Int):(storeL ws a v).length=ws.length:=by unfold storeL;split<;>simp
theorem casL_len (ws:List Int) (a old v:Int):(casL ws a old v).length=ws.length:=by unfold casL;split<;>simp [storeL_len]
structure MemAt (w:World) (m bw:Nat) (hv:Value) (hs ws:List Int):Prop where
 obj:w.heap[m]? =some (.cells #[hv,.slice (some ⟨bw,0,none⟩) ws.length ws.length] 177 (0,0))
 homes:w.ownsRow 0 3 1 hv ws.length (hs.map (Value.int .i64))
 words:w.heap[bw]? =some (.cells (ws.map (Value.int .u32)).toArray 184 (0,0))
 ne:bw≠m
 apart:∀ k,hv.ownBlock=some k→k≠bw
 small:ws.length≤4096
 rng:∀ z∈ws,0≤z∧z<4294967296
namespace MemAt
variable {w w':World} {m bw:Nat} {hv:Value} {hs ws:List Int}
theorem lt (h:MemAt w m bw hv hs ws):m<w.heap.size∧bw<w.heap.size∧∀ k,hv.ownBlock=some k→k<w.heap.size:=
 ⟨blk_lt h.obj,blk_lt h.words,λk hk=>(h.homes.lt k hk).2⟩
theorem cell1 (h:MemAt w m bw hv hs ws):w.cell? ⟨m,1,none⟩=some (.slice (some ⟨bw,0,none⟩) ws.length ws.length):=by rw [blk_cell h.obj];rfl
theorem cell0 (h:MemAt w m bw hv hs ws):w.cell? ⟨m,0,none⟩=some hv:=by rw [blk_cell h.obj];rfl
theorem word (h:MemAt w m bw hv hs ws) {k:Nat} (hk:k<ws.length):w.cell? ⟨bw,k,none⟩=some (.int .u32 (ws.getD k 0)):=by
 rw [blk_cell h.words]
 simp [hk]
theorem frozen (h:MemAt w m bw hv hs ws) (k:Nat):w.frozen? ⟨bw,k,none⟩=false:=blk_frozen h.words k
theorem keep (h:MemAt w m bw hv hs ws) (hm:w'.heap[m]? =w.heap[m]?) (hb:w'.heap[bw]? =w.heap[bw]?) (hh:∀ k,hv.ownBlock=some k→w'.heap[k]? =w.heap[k]?):MemAt w' m bw hv hs ws:=
 ⟨hm.trans h.obj,ownsRow_keep h.homes hh,hb.trans h.words,h.ne,h.apart,h.small,h.rng⟩
theorem wrote {S:Nat→Prop} (h:MemAt w m bw hv hs ws) (k:Wr S w w') (hm:¬ S m) (hb:¬ S bw) (hh:∀ j,hv.ownBlock=some j→¬ S j):MemAt w' m bw hv hs ws:=
 h.keep (k.block m h.lt.1 hm) (k.block bw h.lt.2.1 hb) (λj hj=>k.block j (h.lt.2.2 j hj) (hh j hj))
theorem after (h:MemAt w m bw hv hs ws) (k:Wr Nil w w'):MemAt w' m bw hv hs ws:=h.wrote k id id λ_ _=>id
theorem set (h:MemAt w m bw hv hs ws) (k:Nat) (v:Int) (hv0:0≤v) (hv1:v<4294967296):MemAt (w.setCell ⟨bw,k,none⟩ (.int .u32 v)) m bw hv hs (ws.set k v):=by
 refine ⟨?_,?_,?_,h.ne,h.apart,by simpa using h.small,?_⟩
 ·rw [Go.Deep.blk_setCell_other _ _ _ _ h.ne.symm,List.length_set];exact h.obj
 ·rw [List.length_set]
  exact ownsRow_keep h.homes λj hj=>Go.Deep.blk_setCell_other _ _ _ _ (h.apart j hj)
 ·rw [blk_setCell h.words]
  congr 2
  simp [List.map_set]
 ·intro z hz
  rcases List.mem_or_eq_of_mem_set hz with hz|rfl
  ·exact h.rng z hz
  ·exact ⟨hv0,hv1⟩
theorem getD_rng (h:MemAt w m bw hv hs ws) (k:Nat):0≤ws.getD k 0∧ws.getD k 0<4294967296:=by
 by_cases hk:k<ws.length
 ·have:ws.getD k 0=ws[k]:=by simp [hk]
  rw [this]
  exact h.rng _ (List.getElem_mem hk)
 ·simp [List.getElem?_eq_none (show ws.length≤k by omega)]
theorem load_rng (h:MemAt w m bw hv hs ws) (a:Int):0≤loadI ws a∧loadI ws a<4294967296:=by
 unfold loadI
 split
 ·exact h.getD_rng _
 ·omega
end MemAt
theorem has_any {m bw:Nat} {hv:Value} {hs ws:List Int} {w:World} (h:MemAt w m bw hv hs ws) (a:Int):
  Calls prog 77 #[.pointer (some ⟨m,0,none⟩),.int .i64 a] w λe w'=>e= .returned (.bool (hasB ws.length a))∧w=w':=by
 have c1:=h.cell1
 have H:=Lib.hid h
 clear h
 by_cases h0:0≤a
 ·by_cases h1:a<ws.length
  ·have hh:Hid (hasB ws.length a=true):=Lib.hid (by simp [hasB,h0,h1])
   go_enter func77,ntmps77
   go_wp2
   go_ret
   exact ⟨ret_bool hh.out.symm,rfl⟩
  ·have hh:Hid (hasB ws.length a=false):=Lib.hid (has_not (by omega))
   go_enter func77,ntmps77
   go_wp2
   go_ret
   exact ⟨ret_bool hh.out.symm,rfl⟩
 ·have hh:Hid (hasB ws.length a=false):=Lib.hid (has_not (by omega))
  go_enter func77,ntmps77
  go_wp2
  go_ret
  exact ⟨ret_bool hh.out.symm,rfl⟩
theorem len_any {m bw:Nat} {hv:Value} {hs ws:List Int} {w:World} (h:MemAt w m bw hv hs ws):
  Calls prog 101 #[.pointer (some ⟨m,0,none⟩)] w λe w'=>e= .returned (.int .i64 ws.length)∧w=w':=by
 have c1:=h.cell1
 have H:=Lib.hid h
 clear h
 go_enter func101,ntmps101
 go_wp2
 go_ret
 exact ⟨rfl,rfl⟩
theorem load_any {m bw:Nat} {hv:Value} {hs ws:List Int} {w:World} (h:MemAt w m bw hv hs ws) (a:Int):
  Calls prog 90 #[.pointer (some ⟨m,0,none⟩),.int .i64 a] w λe w'=>e= .returned (.int .u32 (loadI ws a))∧w=w':=by
 have c1:=h.cell1
 by_cases hk:0≤a∧a<ws.length
 ·obtain ⟨k,rfl⟩:=Int.eq_ofNat_of_zero_le hk.1
  have hk:k<ws.length:=by omega
  obtain ⟨x,hx⟩:∃ x,x=ws.getD k 0:=⟨_,rfl⟩
  have c2:=h.word hk
  rw [←hx] at c2
  have X:=Lib.hid hx
  clear hx
  have c3:=has_any h (k:Int)
  rw [has_at hk] at c3
  have H:=Lib.hid h
  clear h
  go_enter func90,ntmps90
  go_wp2_with (first
   |(go_at_call 77;refine c3.mono ?_;rintro e w' ⟨rfl,rfl⟩)
   |(go_at_call 97;refine (aload_any _ _ _ _ c2).mono ?_;rintro e w' ⟨rfl,rfl⟩))
  go_ret
  exact ⟨ret_int (by rw [load_at];exact X.out),rfl⟩
 ·have c3:=has_any h a
  rw [has_not hk] at c3
  have H:=Lib.hid hk
  clear h hk
  go_enter func90,ntmps90
  go_wp2_with (go_at_call 77;refine c3.mono ?_;rintro e w' ⟨rfl,rfl⟩)
  go_ret
  exact ⟨ret_int (load_not H.out).symm,rfl⟩
theorem store_any {m bw:Nat} {hv:Value} {hs ws:List Int} {w:World} (h:MemAt w m bw hv hs ws) (a v:Int) (v0:0≤v) (v1:v<4294967296):
  Calls prog 64 #[.pointer (some ⟨m,0,none⟩),.int .i64 a,.int .u32 v] w λe w'=>e= .returned (.tuple #[])∧MemAt w' m bw hv hs (storeL ws a v)∧Wr (One bw) w w':=by
 have c1:=h.cell1
 by_cases hk:0≤a∧a<ws.length
 ·obtain ⟨k,rfl⟩:=Int.eq_ofNat_of_zero_le hk.1
  have hk:k<ws.length:=by omega
  obtain ⟨x,hx⟩:∃ x,x=ws.getD k 0:=⟨_,rfl⟩
  have c2:=h.word hk
  rw [←hx] at c2
  have c4:=h.frozen k
  have c3:=has_any h (k:Int)
  rw [has_at hk] at c3
  have c5:MemAt (w.setCell ⟨bw,k,none⟩ (.int .u32 v)) m bw hv hs (storeL ws k v):=by rw [store_at];exact h.set k v v0 v1
  have H:=Lib.hid (And.intro hx c5)
  clear h hx c5
  go_enter func64,ntmps64
  go_wp2_with (first
   |(go_at_call 77;refine c3.mono ?_;rintro e w' ⟨rfl,rfl⟩)
   |(go_at_call 78;refine (astore_any _ _ _ _ _ c2 c4).mono ?_;rintro e w' ⟨rfl,rfl⟩))
  go_end0
  exact ⟨rfl,H.out.2,(Wr.refl _ _).setCell _ _ λ_=>rfl⟩
 ·have c3:=has_any h a
  rw [has_not hk] at c3
  have H:=Lib.hid (And.intro hk h)
  clear h hk
  go_enter func64,ntmps64
  go_wp2_with (go_at_call 77;refine c3.mono ?_;rintro e w' ⟨rfl,rfl⟩)
  go_end0
  exact ⟨rfl,by rw [store_not H.out.1];exact H.out.2,Wr.refl _ _⟩
theorem swap_any {m bw:Nat} {hv:Value} {hs ws:List Int} {w:World} (h:MemAt w m bw hv hs ws) (a v:Int) (v0:0≤v) (v1:v<4294967296):
  Calls prog 157 #[.pointer (some ⟨m,0,none⟩),.int .i64 a,.int .u32 v] w λe w'=>e= .returned (.int .u32 (loadI ws a))∧MemAt w' m bw hv hs (storeL ws a v)∧Wr (One bw) w w':=by
 have c1:=h.cell1
 by_cases hk:0≤a∧a<ws.length
 ·obtain ⟨k,rfl⟩:=Int.eq_ofNat_of_zero_le hk.1
  have hk:k<ws.length:=by omega
  obtain ⟨x,hx⟩:∃ x,x=ws.getD k 0:=⟨_,rfl⟩
  have c2:=h.word hk
  rw [←hx] at c2
  have c4:=h.frozen k
  have c3:=has_any h (k:Int)
  rw [has_at hk] at c3
  have c5:MemAt (w.setCell ⟨bw,k,none⟩ (.int .u32 v)) m bw hv hs (storeL ws k v):=by rw [store_at];exact h.set k v v0 v1
  have H:=Lib.hid (And.intro hx c5)
  clear h hx c5
  go_enter func157,ntmps157
  go_wp2_with (first
   |(go_at_call 77;refine c3.mono ?_;rintro e w' ⟨rfl,rfl⟩)
   |(go_at_call 158;refine (aswap_any _ _ _ _ _ c2 c4).mono ?_;rintro e w' ⟨rfl,rfl⟩))
  go_ret
  exact ⟨ret_int (by rw [load_at];exact H.out.1),H.out.2,(Wr.refl _ _).setCell _ _ λ_=>rfl⟩
 ·have c3:=has_any h a
  rw [has_not hk] at c3
  have H:=Lib.hid (And.intro hk h)
  clear h hk
  go_enter func157,ntmps157
  go_wp2_with (go_at_call 77;refine c3.mono ?_;rintro e w' ⟨rfl,rfl⟩)
  go_ret
  exact ⟨ret_int (load_not H.out.1).symm,by rw [store_not H.out.1];exact H.out.2,Wr.refl _ _⟩
theorem add_any {m bw:Nat} {hv:Value} {hs ws:List Int} {w:World} (h:MemAt w m bw hv hs ws) (a v:Int) (v0:0≤v) (v1:v<4294967296):
  Calls prog 143 #[.pointer (some ⟨m,0,none⟩),.int .i64 a,.int .u32 v] w λe w'=>e= .returned (.int .u32 (loadI ws a))∧MemAt w' m bw hv hs (addL ws a v)∧Wr (One bw) w w':=by
 have c1:=h.cell1
 by_cases hk:0≤a∧a<ws.length
 ·obtain ⟨k,rfl⟩:=Int.eq_ofNat_of_zero_le hk.1
  have hk:k<ws.length:=by omega
  obtain ⟨x,hx⟩:∃ x,x=ws.getD k 0:=⟨_,rfl⟩
  have c2:=h.word hk
  rw [←hx] at c2
  have c4:=h.frozen k
  have c3:=has_any h (k:Int)
  rw [has_at hk] at c3
  have c5:MemAt (w.setCell ⟨bw,k,none⟩ (.int .u32 ((x+v)%4294967296))) m bw hv hs (addL ws k v):=by
   unfold addL
   rw [store_at,load_at,←hx]
   exact h.set k _ (by omega) (by omega)
  have c6:0≤x∧x<4294967296:=by rw [hx];exact h.getD_rng k
  obtain ⟨x0,x1⟩:=c6
  have c7:((x+v)%4294967296-v)%4294967296=x:=by omega
  have H:=Lib.hid (And.intro hx (And.intro c5 c7))
  clear h hx c5 c7
  go_enter func143,ntmps143
  go_wp2_with (first
   |(go_at_call 77;refine c3.mono ?_;rintro e w' ⟨rfl,rfl⟩)
   |(go_at_call 144;refine (aadd_any _ _ _ _ _ c2 c4).mono ?_;rintro e w' ⟨rfl,rfl⟩))
  go_ret
  exact ⟨ret_int (by rw [load_at];exact H.out.2.2.trans H.out.1),H.out.2.1,(Wr.refl _ _).setCell _ _ λ_=>rfl⟩
 ·have c3:=has_any h a
  rw [has_not hk] at c3
  have H:=Lib.hid (And.intro hk h)
  clear h hk
  go_enter func143,ntmps143
  go_wp2_with (go_at_call 77;refine c3.mono ?_;rintro e w' ⟨rfl,rfl⟩)
  go_ret
  exact ⟨ret_int (load_not H.out.1).symm,by unfold addL;rw [store_not H.out.1];exact H.out.2,Wr.refl _ _⟩
theorem cas_any {m bw:Nat} {hv:Value} {hs ws:List Int} {w:World} (h:MemAt w m bw hv hs ws) (a old v:Int) (v0:0≤v) (v1:v<4294967296):
  Calls prog 172 #[.pointer (some ⟨m,0,none⟩),.int .i64 a,.int .u32 old,.int .u32 v] w λe w'=>e= .returned (.bool (casB ws a old))∧MemAt w' m bw hv hs (casL ws a old v)∧Wr (One bw) w w':=by
 have c1:=h.cell1
 by_cases hk:0≤a∧a<ws.length
 ·obtain ⟨k,rfl⟩:=Int.eq_ofNat_of_zero_le hk.1
  have hk:k<ws.length:=by omega
  obtain ⟨x,hx⟩:∃ x,x=ws.getD k 0:=⟨_,rfl⟩
  have c2:=h.word hk
  rw [←hx] at c2
  have c4:=h.frozen k
  have c3:=has_any h (k:Int)
  rw [has_at hk] at c3
  have c7:decide (x=old)=casB ws k old:=by unfold casB;rw [has_at hk,load_at,hx];rfl
  have c5:MemAt (casW w ⟨bw,k,none⟩ x old v) m bw hv hs (casL ws k old v)∧Wr (One bw) w (casW w ⟨bw,k,none⟩ x old v):=by
   unfold casL casW
   rw [←c7,store_at]
   by_cases e:x=old
   ·rw [if_pos e,if_pos (by simp [e])]
    exact ⟨h.set k v v0 v1,(Wr.refl _ _).setCell _ _ λ_=>rfl⟩
   ·rw [if_neg e,if_neg (by simp [e])]
    exact ⟨h,Wr.refl _ _⟩
  have H:=Lib.hid (And.intro c7 c5)
  clear h hx c5 c7
  go_enter func172,ntmps172
  go_wp2_with (first
   |(go_at_call 77;refine c3.mono ?_;rintro e w' ⟨rfl,rfl⟩)
   |(go_at_call 173;refine (acas_any _ _ _ _ _ _ c2 c4).mono ?_;rintro e w' ⟨rfl,rfl⟩))
  go_ret
  exact ⟨ret_bool H.out.1,H.out.2.1,H.out.2.2⟩
 ·have c3:=has_any h a
  rw [has_not hk] at c3
  have c7:false=casB ws a old:=by unfold casB;rw [has_not hk];rfl
  have c8:casL ws a old v=ws:=by unfold casL;rw [←c7];rfl
  have H:=Lib.hid (And.intro c7 (And.intro c8 h))
  clear h hk c7 c8
  go_enter func172,ntmps172
  go_wp2_with (go_at_call 77;refine c3.mono ?_;rintro e w' ⟨rfl,rfl⟩)
  go_ret
  exact ⟨ret_bool H.out.1,by rw [H.out.2.1];exact H.out.2.2,Wr.refl _ _⟩
set_option maxHeartbeats 8000000
open _root_.Go.Proofs.Tryz Go.Deep
def okH (h:Int):Bool:=decide (0≤h∧h<8)
def homesOK (hs:List Int):Bool:=hs.all okH
def newV (ok:Bool) (b:Nat):Value:=if ok then .tuple #[.pointer (some ⟨b,0,none⟩),.int .i64 0] else .tuple #[.pointer none,.int .i64 1]
theorem ok_step {hs:List Int} {k:Nat} (hk:k<hs.length) (h:(hs.take k).all okH=true) (hx:okH (hs.getD k 0)=true):(hs.take (k+1)).all okH=true:=by
 rw [List.take_succ_eq_append_getElem hk,List.all_append,h]
 have:hs.getD k 0=hs[k]:=by simp [hk]
 rw [this] at hx
 simpa using hx
theorem ok_bad {hs:List Int} {k:Nat} (hk:k<hs.length) (hx:okH (hs.getD k 0)=false):homesOK hs=false:=by
 unfold homesOK
 rw [List.all_eq_false]
 have:hs.getD k 0=hs[k]:=by simp [hk]
 exact ⟨hs[k],List.getElem_mem hk,by rw [←this,hx];decide⟩
theorem made_words (n:Nat):madeCells (Value.agg #[.int .u32 0]).cells (n*1)=((List.replicate n (0:Int)).map (Value.int .u32)).toArray:=by
 simp only [Nat.mul_one,madeCells,Value.cells]
 apply Array.ext
 ·simp
 ·intro i h1 h2
  simp [Nat.mod_one]
theorem made_is {w:World} {b bw:Nat} {ao:Option Addr} {m cap:Nat} {hs:List Int} (hm:m≤4096) (ho:w.heap[b]? =some (.cells #[.slice ao m cap,.slice (some ⟨bw,0,none⟩) m m] 177 (0,0)))
  (hw:w.heap[bw]? =some (.cells ((List.replicate m (0:Int)).map (Value.int .u32)).toArray 184 (0,0))) (hh:w.ownsRow 0 3 1 (.slice ao m cap) m (hs.map (Value.int .i64))) (hne:bw≠b) (hap:∀ k,(Value.slice ao m cap).ownBlock=some k→k≠bw):
  MemAt w b bw (.slice ao m cap) hs (List.replicate m 0):=
 ⟨by simpa using ho,by simpa using hh,hw,hne,hap,by simpa using hm,λz hz=>by simp at hz;omega⟩
def Made (w X:World) (b bw:Nat) (ao:Option Addr) (m cap:Nat) (hs:List Int):Prop:=
 MemAt X b bw (.slice ao m cap) hs (List.replicate m 0)∧w.heap.size≤b∧w.heap.size≤bw∧(∀ k,(Value.slice ao m cap).ownBlock=some k→w.heap.size≤k)∧Wr Nil w X
theorem rep_words (m:Nat):((List.replicate m (0:Int)).map (Value.int .u32)).toArray=Array.replicate m (Value.int .u32 0):=by simp
theorem made_first {w w1:World} {ao:Option Addr} {m cap:Nat} {hs:List Int} (hm:m≤4096) (hown:w1.ownsRow w.drew.heap.size 3 1 (.slice ao m cap) m (hs.map (Value.int .i64))) (hgrow:w.drew.grownBy w1 none):
  Made w ((w1.alloc (.cells (Array.replicate m (Value.int .u32 0)) 184)).alloc (.cells #[.slice ao m cap,.slice (some ⟨w1.heap.size,0,none⟩) m m] 177)) (w1.heap.size+1) w1.heap.size ao m cap hs:=by
 have hsz:w.heap.size≤w1.heap.size:=hgrow.size
 have hlt:=hown.lt
 have hW:Wr Nil w w1:=((Wr.refl Nil w).drew).grown hgrow (λk hk=>by cases hk)
 refine ⟨made_is hm ?_ ?_ ?_ (by omega) (λk hk=>by have:=(hlt k hk).2;omega),by omega,hsz,λk hk=>(hlt k hk).1,(hW.alloc _).alloc _⟩
 ·have h:=blk_alloc_new (w1.alloc (.cells (Array.replicate m (Value.int .u32 0)) 184)) (.cells #[.slice ao m cap,.slice (some ⟨w1.heap.size,0,none⟩) m m] 177)
  rw [nblk_alloc] at h
  exact h
 ·rw [blk_alloc_lt _ _ _ (by rw [nblk_alloc];omega),blk_alloc_new,rep_words]
 ·exact ((ownsRow_base hown (Nat.zero_le _)).alloc _).alloc _
theorem made_last {w w1:World} {ao:Option Addr} {m cap:Nat} {hs:List Int} (hm:m≤4096) (hown:w1.ownsRow (w.drew.alloc (.cells (Array.replicate m (Value.int .u32 0)) 184)).heap.size 3 1 (.slice ao m cap) m (hs.map (Value.int .i64)))
  (hgrow:(w.drew.alloc (.cells (Array.replicate m (Value.int .u32 0)) 184)).grownBy w1 none):
  Made w (w1.alloc (.cells #[.slice ao m cap,.slice (some ⟨w.heap.size,0,none⟩) m m] 177)) w1.heap.size w.heap.size ao m cap hs:=by
 have hsz:w.heap.size+1≤w1.heap.size:=by have:=hgrow.size;rw [nblk_alloc] at this;exact this
 have hlt:∀ k,(Value.slice ao m cap).ownBlock=some k→w.heap.size+1≤k∧k<w1.heap.size:=by have h:=hown.lt;rw [nblk_alloc] at h;exact h
 have hW:Wr Nil w w1:=((Wr.refl Nil w).drew.alloc _).grown hgrow (λk hk=>by cases hk)
 refine ⟨made_is hm (blk_alloc_new _ _) ?_ ((ownsRow_base hown (Nat.zero_le _)).alloc _) (by omega) (λk hk=>by have:=(hlt k hk).1;omega),by omega,Nat.le_refl _,λk hk=>by have:=(hlt k hk).1;omega,hW.alloc _⟩
 rw [blk_alloc_lt _ _ _ (by omega),hgrow.block _ (by rw [nblk_alloc];exact Nat.lt_succ_self _) (by simp),rep_words]
 exact blk_alloc_new w.drew _
def NewPost (w:World) (hs:List Int) (m:Nat) (e:Ending) (w':World):Prop:=
 ∃ b bw hv,e= .returned (newV (homesOK hs) b)∧MemAt w' b bw hv hs (List.replicate m 0)∧w.heap.size≤b∧w.heap.size≤bw∧(∀ k,hv.ownBlock=some k→w.heap.size≤k)∧Wr Nil w w'
theorem new_small {w:World} {sa:Option Addr} {m c:Nat} {hs:List Int} (hr:RowAt .i64 w sa m hs) (hm:m≤4096):
  Calls prog 62 #[.slice sa m c] w (NewPost w hs m):=by
 obtain ⟨i0,hi,hz0,hz1,hz2⟩:=info_parts info_int
 obtain ⟨i1,gi,gz0,gz1,gz2⟩:=info_parts info_word
 have hmk:∀ w:World,(Instr.makeSlice 175 (.int .i64 (m:Int)) (.int .i64 (m:Int))).run prog w= .ok (.slice (some ⟨w.heap.size,0,none⟩) m m) (w.alloc (.cells ((List.replicate m (0:Int)).map (Value.int .u32)).toArray 184)):=by
  intro w
  have h:=Go.run_make (P:=prog) w 175 184 i1 _ underlying175 gi gz0 .i64 .i64 m m (by omega) (by omega) (by rw [gz2];omega) (by omega)
  rw [gz1] at h
  simp only [Int.toNat_natCast] at h
  rw [made_words] at h
  exact h
 have hlen:=hr.len
 go_enter func62,ntmps62
 go_wp2
 go_region_law (refine step_append_fresh rfl _ _ 22 rfl 3 i0 (.int .i64 0) 8 underlying22 hi hz0 hz1 hz2 rfl (by simp [Act.eval]) sa m c (hs.map (Value.int .i64)) (by simp [Act.eval,Act.put]) hr.empty (by simpa using hlen) (by first|exact hr.news|exact (hr.after ((Wr.refl Nil w).drew.alloc _)).news) (by intro u hu;simp only [List.mem_map] at hu;obtain ⟨z,_,rfl⟩:=hu;rfl) (by unfold maxLen;omega) (by omega) ?_;intro ao cap w1 hown hgrow)
 all_goals first
  |(have R:=made_first hm hown hgrow
    obtain ⟨X,hX⟩:∃ X,X=(w1.alloc (.cells (Array.replicate m (Value.int .u32 0)) 184)).alloc (.cells #[.slice ao m cap,.slice (some ⟨w1.heap.size,0,none⟩) m m] 177):=⟨_,rfl⟩
    rw [←hX] at R ⊢
    clear hX hown hgrow
    generalize w1.heap.size+1=b at R ⊢
    generalize w1.heap.size=bw at R ⊢)
  |(have R:=made_last hm hown hgrow
    obtain ⟨X,hX⟩:∃ X,X=w1.alloc (.cells #[.slice ao m cap,.slice (some ⟨w.heap.size,0,none⟩) m m] 177):=⟨_,rfl⟩
    rw [←hX] at R ⊢
    clear hX hown hgrow
    generalize w1.heap.size=b at R ⊢
    obtain ⟨bw,hbw⟩:∃ bw,bw=w.heap.size:=⟨_,rfl⟩
    rw [←hbw] at R ⊢)
 all_goals
  obtain ⟨hM,rb,rbw,rown,hW⟩:=R
  have hao:m=0∨∃ g,ao=some ⟨g,0,none⟩∧∀ k,k<m→X.cell? ⟨g,k,none⟩=some (.int .i64 (hs.getD k 0)):=by
   rcases Nat.eq_zero_or_pos m with h0|h0
   ·exact .inl h0
   ·have hh:=hM.homes
    rw [List.length_replicate] at hh
    obtain ⟨g,e,_,_⟩:=ownsRow_cell hh h0
    refine .inr ⟨g,e,λk hk=> ?_⟩
    obtain ⟨g',e',hc,_⟩:=ownsRow_cell hh hk
    rw [e] at e'
    simp only [Option.some.injEq,Addr.mk.injEq] at e'
    obtain ⟨rfl,_⟩:=e'
    rw [hc]
    simp [hlen,hk]
  have c0:=hM.cell0
  have HF:=Lib.hid (And.intro hM (And.intro rb (And.intro rbw (And.intro rown hW))))
  clear hM rb rbw rown hW hr
  go_wp2
  go_loop [22] (λi=>∃ k:Nat,k≤m∧i= .int .i64 k∧Hid ((hs.take k).all okH=true)) (λi=>m-(intOf i).toNat)
  case atStart=>exact ⟨0,Nat.zero_le _,rfl,by simp [Hid]⟩
  case round=>
   obtain ⟨k,hk,rfl,hok⟩:=hrel
   by_cases hlt:k<m
   ·rcases hao with h0|⟨g,rfl,hcell⟩
    ·omega
    ·obtain ⟨x,hx⟩:∃ x,x=hs.getD k 0:=⟨_,rfl⟩
     have hc:=hcell k hlt
     rw [←hx] at hc
     have X1:=Lib.hid (And.intro hx hcell)
     clear hx hcell
     by_cases x0:x<0
     ·have hb:Hid (homesOK hs=false):=Lib.hid (ok_bad (k:=k) (by omega) (by rw [←X1.out.1];unfold okH;simp;omega))
      go_wp2
      go_ret2
      obtain ⟨f1,f2,f3,f4,f5⟩:=HF.out
      unfold NewPost
      exact ⟨b,bw,_,by rw [hb.out];rfl,f1,f2,f3,f4,f5⟩
     ·by_cases x1:8≤x
      ·have hb:Hid (homesOK hs=false):=Lib.hid (ok_bad (k:=k) (by omega) (by rw [←X1.out.1];unfold okH;simp;omega))
       go_wp2
       go_ret2
       obtain ⟨f1,f2,f3,f4,f5⟩:=HF.out
       unfold NewPost
       exact ⟨b,bw,_,by rw [hb.out];rfl,f1,f2,f3,f4,f5⟩
      ·have hb:Hid ((hs.take (k+1)).all okH=true):=Lib.hid (ok_step (by omega) hok.out (by rw [←X1.out.1];unfold okH;simp;omega))
       go_wp2
       go_round
       case rel=>exact ⟨k+1,by omega,by go_num,hb⟩
       case measure=>simp [intOf];omega
   ·have hb:Hid (homesOK hs=true):=Lib.hid (by have h:=hok.out;rw [List.take_of_length_le (by omega)] at h;exact h)
    go_wp2
    go_ret2
    obtain ⟨f1,f2,f3,f4,f5⟩:=HF.out
    unfold NewPost
    exact ⟨b,bw,_,by rw [hb.out];rfl,f1,f2,f3,f4,f5⟩
theorem new_ok {w:World} {sa:Option Addr} {m c:Nat} {hs:List Int} (hr:RowAt .i64 w sa m hs) (hm:m≤4096) (ho:homesOK hs=true):
  Calls prog 62 #[.slice sa m c] w λe w'=>∃ b bw hv,e= .returned (.tuple #[.pointer (some ⟨b,0,none⟩),.int .i64 0])∧MemAt w' b bw hv hs (List.replicate m 0)∧w.heap.size≤b∧w.heap.size≤bw∧(∀ k,hv.ownBlock=some k→w.heap.size≤k)∧Wr Nil w w':=by
 refine (new_small hr hm).mono ?_
 unfold NewPost
 rw [ho]
 exact λe w' h=>h
def doL (ws:List Int) (K a old v:Int):List Int:=if K=2∨K=3 then storeL ws a v else if K=4 then casL ws a old v else if K=5 then addL ws a v else ws
def tellI (ws:List Int) (K a:Int):Int:=if K=1∨K=3∨K=5 then loadI ws a else 0
theorem homes_any {sa:Option Addr} {m cap:Nat} {hs:List Int} {w:World} (h:RowAt .i64 w sa m hs) (hm:m≤9223372036854775807):
  Calls prog 22 #[.slice sa m cap] w λe w'=>e= .returned (.bool (homesOK hs))∧w=w':=by
 have hlen:=h.len
 have hat:=h.at
 clear h
 go_enter func22,ntmps22
 go_wp2
 go_loop [7] (λi=>∃ k:Nat,k≤m∧i= .int .i64 k∧Hid ((hs.take k).all okH=true)) (λi=>m-(intOf i).toNat)
 case atStart=>exact ⟨0,Nat.zero_le _,rfl,by simp [Hid]⟩
 case round=>
  obtain ⟨k,hk,rfl,hok⟩:=hrel
  by_cases hlt:k<m
  ·rcases hat with h0|⟨b,o,rfl,hcell⟩
   ·omega
   ·obtain ⟨x,hx⟩:∃ x,x=hs.getD k 0:=⟨_,rfl⟩
    have hc:=hcell k hlt
    rw [←hx] at hc
    have X1:=Lib.hid (And.intro hx hcell)
    clear hx hcell
    by_cases x0:x<0
    ·have hb:Hid (homesOK hs=false):=Lib.hid (ok_bad (k:=k) (by omega) (by rw [←X1.out.1];unfold okH;simp;omega))
     go_wp2
     go_ret
     exact ⟨ret_bool hb.out.symm,rfl⟩
    ·by_cases x1:7<x
     ·have hb:Hid (homesOK hs=false):=Lib.hid (ok_bad (k:=k) (by omega) (by rw [←X1.out.1];unfold okH;simp;omega))
      go_wp2
      go_ret
      exact ⟨ret_bool hb.out.symm,rfl⟩
     ·have hb:Hid ((hs.take (k+1)).all okH=true):=Lib.hid (ok_step (by omega) hok.out (by rw [←X1.out.1];unfold okH;simp;omega))
      go_wp2
      go_round
      case rel=>exact ⟨k+1,by omega,by go_num,hb⟩
      case measure=>simp [intOf];omega
  ·have hb:Hid (homesOK hs=true):=Lib.hid (by have h:=hok.out;rw [List.take_of_length_le (by omega)] at h;exact h)
   go_wp2
   go_ret
   exact ⟨ret_bool hb.out.symm,rfl⟩
end Go.Proofs.YtmnephejhkfchaaGreat

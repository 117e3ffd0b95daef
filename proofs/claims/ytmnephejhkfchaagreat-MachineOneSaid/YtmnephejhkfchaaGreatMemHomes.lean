
import Derived.Test.YtmnephejhkfchaaGreatMix
namespace Go.Proofs.YtmnephejhkfchaaGreat
open _root_.Go.Proofs.Tryz
open Go.RowKit
set_option linter.unusedVariables false
set_option maxRecDepth 100000
theorem Db {k:IntKind} {a b:Int} (h:a=b):Ending.returned (.int k a)= .returned (.int k b):=by rw [h]
theorem Bm {a b:Bool} (h:a=b):Ending.returned (.bool a)= .returned (.bool b):=by rw [h]
theorem JC:(prog.info? 3).map (λi=>(i.zero,i.size,i.bytes))=some (some (.int .i64 0),1,8):=by kernel_rfl
theorem T8:(prog.info? 23).map (λi=>(i.zero,i.size,i.bytes))=some (some (.int .u32 0),1,4):=by kernel_rfl
theorem QS:(prog.info? 184).map (λi=>(i.zero,i.size,i.bytes))=some (some (.agg #[.int .u32 0]),1,4):=by kernel_rfl
theorem Pf (b o:Nat) (x:Int) (w:World) (hc:w.cell? ⟨b,o,none⟩=some (.int .u32 x)):
  Calls prog 97 #[.pointer (some ⟨b,o,none⟩)] w λe w'=>e= .returned (.int .u32 x)/\w=w':=by
 have hl:=run_call_load (P:=prog) func105 (by kernel_rfl) (by kernel_rfl) (by kernel_rfl) .u32 (by kernel_rfl) hc;exact zzo
theorem NI (b o:Nat) (x y:Int) (w:World) (hc:w.cell? ⟨b,o,none⟩=some (.int .u32 x)) (hz:w.frozen? ⟨b,o,none⟩=false):
  Calls prog 78 #[.pointer (some ⟨b,o,none⟩),.int .u32 y] w λe w'=>e= .returned (.tuple #[])/\w'=w.setCell ⟨b,o,none⟩ (.int .u32 y):=by
 have hl:=run_call_store (P:=prog) func81 (by kernel_rfl) (by kernel_rfl) (by kernel_rfl) (by kernel_rfl) (k:= .u32) (y:=y) hc hz
 go_in
 go_wp2
 go_end0
 exact ⟨rfl,rfl⟩
theorem Pg (b o:Nat) (x y:Int) (w:World) (hc:w.cell? ⟨b,o,none⟩=some (.int .u32 x)) (hz:w.frozen? ⟨b,o,none⟩=false):
  Calls prog 158 #[.pointer (some ⟨b,o,none⟩),.int .u32 y] w λe w'=>e= .returned (.int .u32 x)/\w'=w.setCell ⟨b,o,none⟩ (.int .u32 y):=by
 have hl:=Jt (P:=prog) func159 (by kernel_rfl) (by kernel_rfl) (by kernel_rfl) .u32 (by kernel_rfl) (y:=y) hc hz;exact zzo
def Pj (w:World) (a:Addr) (x old y:Int):World:=if x=old then w.setCell a (.int .u32 y) else w
theorem Rh (b o:Nat) (x old y:Int) (w:World) (hc:w.cell? ⟨b,o,none⟩=some (.int .u32 x)) (hz:w.frozen? ⟨b,o,none⟩=false):
  Calls prog 173 #[.pointer (some ⟨b,o,none⟩),.int .u32 old,.int .u32 y] w λe w'=>e= .returned (.bool (decide (x=old)))/\w'=Pj w ⟨b,o,none⟩ x old y:=by
 by_cases h:x=old
 ·subst h
  have hl:=run_call_cas_hit (P:=prog) func174 (by kernel_rfl) (by kernel_rfl) (by kernel_rfl) .u32 (by kernel_rfl) (y:=y) hc hz
  go_in
  go_wp2;go_ret;exact ⟨by simp,by simp [Pj]⟩
 ·have hl:=run_call_cas_miss (P:=prog) func174 (by kernel_rfl) (by kernel_rfl) (by kernel_rfl) .u32 (by kernel_rfl) (y:=y) hc hz h
  have H:=Qw h;clear h
  go_in
  go_wp2;go_ret;exact ⟨Bm (by simp [H.out]),by simp [Pj,H.out]⟩
theorem Rg (b o:Nat) (x y:Int) (w:World) (hc:w.cell? ⟨b,o,none⟩=some (.int .u32 x)) (hz:w.frozen? ⟨b,o,none⟩=false):
  Calls prog 144 #[.pointer (some ⟨b,o,none⟩),.int .u32 y] w λe w'=>e= .returned (.int .u32 ((x+y)%4294967296))/\w'=w.setCell ⟨b,o,none⟩ (.int .u32 ((x+y)%4294967296)):=by
 have hl:=run_call_add (P:=prog) func145 (by kernel_rfl) (by kernel_rfl) (by kernel_rfl) .u32 (by kernel_rfl) (y:=y) (s:=(x+y)%4294967296) hc hz (by simp [go_sem];rfl);exact zzo
def hasB (n:Nat) (a:Int):Bool:=decide (0<=a/\a<n)
def BK (ws:List Int) (a:Int):Int:=if 0<=a then ws.getD a.toNat 0 else 0
def BA (ws:List Int) (a v:Int):List Int:=if 0<=a then ws.set a.toNat v else ws
def E9 (ws:List Int) (a old:Int):Bool:=hasB ws.length a&&decide (BK ws a=old)
def Fg (ws:List Int) (a old v:Int):List Int:=if E9 ws a old then BA ws a v else ws
def J4 (ws:List Int) (a d:Int):List Int:=BA ws a ((BK ws a+d)%4294967296)
theorem FK {n k:Nat} (h:k<n):hasB n k=true:=by simp [hasB,h]
theorem En {n:Nat} {a:Int} (h:¬(0<=a/\a<n)):hasB n a=false:=by simp only [hasB,decide_eq_false_iff_not];exact h
theorem DW (ws:List Int) (k:Nat):BK ws k=ws.getD k 0:=by simp [BK]
theorem JG {ws:List Int} {a:Int} (h:¬(0<=a/\a<ws.length)):BK ws a=0:=by
 unfold BK;split
 ·have h2:ws.length<=a.toNat:=by omega
  simp [List.getElem?_eq_none h2]
 ·rfl
theorem Fu (ws:List Int) (k:Nat) (v:Int):BA ws k v=ws.set k v:=by simp [BA]
theorem I8 {ws:List Int} {a v:Int} (h:¬(0<=a/\a<ws.length)):BA ws a v=ws:=by
 unfold BA;split
 ·exact List.set_eq_of_length_le (by omega)
 ·rfl
theorem Dv (ws:List Int) (a v:Int):(BA ws a v).length=ws.length:=by unfold BA;split<;>simp
theorem M7 (ws:List Int) (a old v:Int):(Fg ws a old v).length=ws.length:=by unfold Fg;split<;>simp [Dv]
structure MemAt (w:World) (m bw:Nat) (hv:Value) (hs ws:List Int):Prop where
 obj:w.heap[m]? =some (.cells #[hv,.slice (some ⟨bw,0,none⟩) ws.length ws.length] 177 (0,0))
 homes:w.ownsRow 0 3 1 hv ws.length (hs.map (Value.int .i64))
 words:w.heap[bw]? =some (.cells (ws.map (Value.int .u32)).toArray 184 (0,0))
 ne:bw≠m
 apart:∀ k,hv.ownBlock=some k->k≠bw
 small:ws.length<=4096
 BP:∀ z∈ws,0<=z/\z<4294967296
namespace MemAt
variable {w w':World} {m bw:Nat} {hv:Value} {hs ws:List Int}
theorem lt (h:MemAt w m bw hv hs ws):m<w.heap.size/\bw<w.heap.size/\∀ k,hv.ownBlock=some k->k<w.heap.size:=
 ⟨A2 h.obj,A2 h.words,λk hk=>(h.homes.lt k hk).2⟩
theorem cell1 (h:MemAt w m bw hv hs ws):w.cell? ⟨m,1,none⟩=some (.slice (some ⟨bw,0,none⟩) ws.length ws.length):=by rw [A1 h.obj];rfl
theorem cell0 (h:MemAt w m bw hv hs ws):w.cell? ⟨m,0,none⟩=some hv:=by rw [A1 h.obj];rfl
theorem word (h:MemAt w m bw hv hs ws) {k:Nat} (hk:k<ws.length):w.cell? ⟨bw,k,none⟩=some (.int .u32 (ws.getD k 0)):=by
 rw [A1 h.words];simp [hk]
theorem frozen (h:MemAt w m bw hv hs ws) (k:Nat):w.frozen? ⟨bw,k,none⟩=false:=A4 h.words k
theorem keep (h:MemAt w m bw hv hs ws) (hm:w'.heap[m]? =w.heap[m]?) (hb:w'.heap[bw]? =w.heap[bw]?) (hh:∀ k,hv.ownBlock=some k->w'.heap[k]? =w.heap[k]?):MemAt w' m bw hv hs ws:=
 ⟨hm.trans h.obj,Ak h.homes hh,hb.trans h.words,h.ne,h.apart,h.small,h.BP⟩
theorem wrote {S:Nat->Prop} (h:MemAt w m bw hv hs ws) (k:Wr S w w') (hm:¬ S m) (hb:¬ S bw) (hh:∀ j,hv.ownBlock=some j->¬ S j):MemAt w' m bw hv hs ws:=
 h.keep (k.block m h.lt.1 hm) (k.block bw h.lt.2.1 hb) (λj hj=>k.block j (h.lt.2.2 j hj) (hh j hj))
theorem after (h:MemAt w m bw hv hs ws) (k:Wr Nil w w'):MemAt w' m bw hv hs ws:=h.wrote k id id λ_ _=>id
theorem set (h:MemAt w m bw hv hs ws) (k:Nat) (v:Int) (hv0:0<=v) (hv1:v<4294967296):MemAt (w.setCell ⟨bw,k,none⟩ (.int .u32 v)) m bw hv hs (ws.set k v):=by
 refine ⟨?_,?_,?_,h.ne,h.apart,by simpa using h.small,?_⟩
 ·rw [Go.Deep.blk_setCell_other _ _ _ _ h.ne.symm,List.length_set];exact h.obj
 ·rw [List.length_set]
  exact Ak h.homes λj hj=>Go.Deep.blk_setCell_other _ _ _ _ (h.apart j hj)
 ·rw [A3 h.words]
  congr 2
  simp [List.map_set]
 ·intro z hz
  rcases List.mem_or_eq_of_mem_set hz with hz|rfl
  ·exact h.BP z hz
  ·exact ⟨hv0,hv1⟩
theorem ML (h:MemAt w m bw hv hs ws) (k:Nat):0<=ws.getD k 0/\ws.getD k 0<4294967296:=by
 by_cases hk:k<ws.length
 ·have:ws.getD k 0=ws[k]:=by simp [hk]
  rw [this];exact h.BP _ (List.getElem_mem hk)
 ·simp [List.getElem?_eq_none (show ws.length<=k by omega)]
theorem Ea (h:MemAt w m bw hv hs ws) (a:Int):0<=BK ws a/\BK ws a<4294967296:=by
 unfold BK;split
 ·exact h.ML _
 ·omega
end MemAt
theorem E2 {m bw:Nat} {hv:Value} {hs ws:List Int} {w:World} (h:MemAt w m bw hv hs ws) (a:Int):
  Calls prog 77 #[.pointer (some ⟨m,0,none⟩),.int .i64 a] w λe w'=>e= .returned (.bool (hasB ws.length a))/\w=w':=by
 have c1:=h.cell1;have H:=Qw h;clear h;by_cases h0:0<=a
 ·by_cases h1:a<ws.length
  ·have hh:Hid (hasB ws.length a=true):=Qw (by simp [hasB,h0,h1])
   go_in
   go_wp2;go_ret;exact ⟨Bm hh.out.symm,rfl⟩
  ·exact zz5h
 ·exact zz5h
theorem Vf {m bw:Nat} {hv:Value} {hs ws:List Int} {w:World} (h:MemAt w m bw hv hs ws):
  Calls prog 101 #[.pointer (some ⟨m,0,none⟩)] w λe w'=>e= .returned (.int .i64 ws.length)/\w=w':=by
 have c1:=h.cell1;have H:=Qw h;clear h;exact zzo
theorem TB {m bw:Nat} {hv:Value} {hs ws:List Int} {w:World} (h:MemAt w m bw hv hs ws) (a:Int):
  Calls prog 90 #[.pointer (some ⟨m,0,none⟩),.int .i64 a] w λe w'=>e= .returned (.int .u32 (BK ws a))/\w=w':=by
 have c1:=h.cell1;by_cases hk:0<=a/\a<ws.length
 ·obtain ⟨k,rfl⟩:=Qx hk.1
  have hk:k<ws.length:=by omega
  obtain ⟨x,hx⟩:∃ x,x=ws.getD k 0:=⟨_,rfl⟩
  have c2:=h.word hk;rw [<-hx] at c2;have X:=Qw hx;clear hx;have c3:=E2 h (k:Int);rw [FK hk] at c3;have H:=Qw h;clear h
  go_in
  go_wp2_with (first
   |(go_at_call 77;refine c3.mono ?_;rintro e w' ⟨rfl,rfl⟩)
   |(go_at_call 97;refine (Pf _ _ _ _ c2).mono ?_;rintro e w' ⟨rfl,rfl⟩))
  go_ret;exact ⟨Db (by rw [DW];exact X.out),rfl⟩
 ·have c3:=E2 h a
  rw [En hk] at c3;have H:=Qw hk;clear h hk
  go_in
  go_wp2_with (go_at_call 77;refine c3.mono ?_;rintro e w' ⟨rfl,rfl⟩)
  go_ret;exact ⟨Db (JG H.out).symm,rfl⟩
theorem KT {m bw:Nat} {hv:Value} {hs ws:List Int} {w:World} (h:MemAt w m bw hv hs ws) (a v:Int) (v0:0<=v) (v1:v<4294967296):
  Calls prog 64 #[.pointer (some ⟨m,0,none⟩),.int .i64 a,.int .u32 v] w λe w'=>e= .returned (.tuple #[])/\MemAt w' m bw hv hs (BA ws a v)/\Wr (One bw) w w':=by
 have c1:=h.cell1;by_cases hk:0<=a/\a<ws.length
 ·obtain ⟨k,rfl⟩:=Qx hk.1
  have hk:k<ws.length:=by omega
  obtain ⟨x,hx⟩:∃ x,x=ws.getD k 0:=⟨_,rfl⟩
  have c2:=h.word hk;rw [<-hx] at c2;have c4:=h.frozen k;have c3:=E2 h (k:Int);rw [FK hk] at c3;have c5:MemAt (w.setCell ⟨bw,k,none⟩ (.int .u32 v)) m bw hv hs (BA ws k v):=by rw [Fu];exact h.set k v v0 v1
  have H:=Qw (Qz hx c5);clear h hx c5
  go_in
  go_wp2_with (first
   |(go_at_call 77;refine c3.mono ?_;rintro e w' ⟨rfl,rfl⟩)
   |(go_at_call 78;refine (NI _ _ _ _ _ c2 c4).mono ?_;rintro e w' ⟨rfl,rfl⟩))
  go_end0
  exact ⟨rfl,H.out.2,(Wr.refl _ _).setCell _ _ λ_=>rfl⟩
 ·have c3:=E2 h a
  rw [En hk] at c3;have H:=Qw (Qz hk h);clear h hk
  go_in
  go_wp2_with (go_at_call 77;refine c3.mono ?_;rintro e w' ⟨rfl,rfl⟩)
  go_end0
  exact ⟨rfl,by rw [I8 H.out.1];exact H.out.2,Wr.refl _ _⟩
theorem U5 {m bw:Nat} {hv:Value} {hs ws:List Int} {w:World} (h:MemAt w m bw hv hs ws) (a v:Int) (v0:0<=v) (v1:v<4294967296):
  Calls prog 157 #[.pointer (some ⟨m,0,none⟩),.int .i64 a,.int .u32 v] w λe w'=>e= .returned (.int .u32 (BK ws a))/\MemAt w' m bw hv hs (BA ws a v)/\Wr (One bw) w w':=by
 have c1:=h.cell1;by_cases hk:0<=a/\a<ws.length
 ·obtain ⟨k,rfl⟩:=Qx hk.1
  have hk:k<ws.length:=by omega
  obtain ⟨x,hx⟩:∃ x,x=ws.getD k 0:=⟨_,rfl⟩
  have c2:=h.word hk;rw [<-hx] at c2;have c4:=h.frozen k;have c3:=E2 h (k:Int);rw [FK hk] at c3;have c5:MemAt (w.setCell ⟨bw,k,none⟩ (.int .u32 v)) m bw hv hs (BA ws k v):=by rw [Fu];exact h.set k v v0 v1
  have H:=Qw (Qz hx c5);clear h hx c5
  go_in
  go_wp2_with (first
   |(go_at_call 77;refine c3.mono ?_;rintro e w' ⟨rfl,rfl⟩)
   |(go_at_call 158;refine (Pg _ _ _ _ _ c2 c4).mono ?_;rintro e w' ⟨rfl,rfl⟩))
  go_ret;exact ⟨Db (by rw [DW];exact H.out.1),H.out.2,(Wr.refl _ _).setCell _ _ λ_=>rfl⟩
 ·have c3:=E2 h a
  rw [En hk] at c3;have H:=Qw (Qz hk h);clear h hk
  go_in
  go_wp2_with (go_at_call 77;refine c3.mono ?_;rintro e w' ⟨rfl,rfl⟩)
  go_ret;exact ⟨Db (JG H.out.1).symm,by rw [I8 H.out.1];exact H.out.2,Wr.refl _ _⟩
theorem UX {m bw:Nat} {hv:Value} {hs ws:List Int} {w:World} (h:MemAt w m bw hv hs ws) (a v:Int) (v0:0<=v) (v1:v<4294967296):
  Calls prog 143 #[.pointer (some ⟨m,0,none⟩),.int .i64 a,.int .u32 v] w λe w'=>e= .returned (.int .u32 (BK ws a))/\MemAt w' m bw hv hs (J4 ws a v)/\Wr (One bw) w w':=by
 have c1:=h.cell1;by_cases hk:0<=a/\a<ws.length
 ·obtain ⟨k,rfl⟩:=Qx hk.1
  have hk:k<ws.length:=by omega
  obtain ⟨x,hx⟩:∃ x,x=ws.getD k 0:=⟨_,rfl⟩
  have c2:=h.word hk;rw [<-hx] at c2;have c4:=h.frozen k;have c3:=E2 h (k:Int);rw [FK hk] at c3;have c5:MemAt (w.setCell ⟨bw,k,none⟩ (.int .u32 ((x+v)%4294967296))) m bw hv hs (J4 ws k v):=by
   unfold J4;rw [Fu,DW,<-hx];exact h.set k _ (by omega) (by omega)
  have c6:0<=x/\x<4294967296:=by rw [hx];exact h.ML k
  obtain ⟨x0,x1⟩:=c6;have c7:((x+v)%4294967296-v)%4294967296=x:=by omega
  have H:=Qw (Qz hx (Qz c5 c7));clear h hx c5 c7
  go_in
  go_wp2_with (first
   |(go_at_call 77;refine c3.mono ?_;rintro e w' ⟨rfl,rfl⟩)
   |(go_at_call 144;refine (Rg _ _ _ _ _ c2 c4).mono ?_;rintro e w' ⟨rfl,rfl⟩))
  go_ret;exact ⟨Db (by rw [DW];exact H.out.2.2.trans H.out.1),H.out.2.1,(Wr.refl _ _).setCell _ _ λ_=>rfl⟩
 ·have c3:=E2 h a
  rw [En hk] at c3;have H:=Qw (Qz hk h);clear h hk
  go_in
  go_wp2_with (go_at_call 77;refine c3.mono ?_;rintro e w' ⟨rfl,rfl⟩)
  go_ret;exact ⟨Db (JG H.out.1).symm,by unfold J4;rw [I8 H.out.1];exact H.out.2,Wr.refl _ _⟩
theorem Um {m bw:Nat} {hv:Value} {hs ws:List Int} {w:World} (h:MemAt w m bw hv hs ws) (a old v:Int) (v0:0<=v) (v1:v<4294967296):
  Calls prog 172 #[.pointer (some ⟨m,0,none⟩),.int .i64 a,.int .u32 old,.int .u32 v] w λe w'=>e= .returned (.bool (E9 ws a old))/\MemAt w' m bw hv hs (Fg ws a old v)/\Wr (One bw) w w':=by
 have c1:=h.cell1;by_cases hk:0<=a/\a<ws.length
 ·obtain ⟨k,rfl⟩:=Qx hk.1
  have hk:k<ws.length:=by omega
  obtain ⟨x,hx⟩:∃ x,x=ws.getD k 0:=⟨_,rfl⟩
  have c2:=h.word hk;rw [<-hx] at c2;have c4:=h.frozen k;have c3:=E2 h (k:Int);rw [FK hk] at c3;have c7:decide (x=old)=E9 ws k old:=by unfold E9;rw [FK hk,DW,hx];rfl
  have c5:MemAt (Pj w ⟨bw,k,none⟩ x old v) m bw hv hs (Fg ws k old v)/\Wr (One bw) w (Pj w ⟨bw,k,none⟩ x old v):=by
   unfold Fg Pj;rw [<-c7,Fu];by_cases e:x=old
   ·rw [Qj e,Qj (by simp [e])]
    exact ⟨h.set k v v0 v1,(Wr.refl _ _).setCell _ _ λ_=>rfl⟩
   ·rw [Qq e,Qq (by simp [e])]
    exact ⟨h,Wr.refl _ _⟩
  have H:=Qw (Qz c7 c5);clear h hx c5 c7
  go_in
  go_wp2_with (first
   |(go_at_call 77;refine c3.mono ?_;rintro e w' ⟨rfl,rfl⟩)
   |(go_at_call 173;refine (Rh _ _ _ _ _ _ c2 c4).mono ?_;rintro e w' ⟨rfl,rfl⟩))
  go_ret;exact ⟨Bm H.out.1,H.out.2.1,H.out.2.2⟩
 ·have c3:=E2 h a
  rw [En hk] at c3;have c7:false=E9 ws a old:=by unfold E9;rw [En hk];rfl
  have c8:Fg ws a old v=ws:=by unfold Fg;rw [<-c7];rfl
  have H:=Qw (Qz c7 (Qz c8 h));clear h hk c7 c8
  go_in
  go_wp2_with (go_at_call 77;refine c3.mono ?_;rintro e w' ⟨rfl,rfl⟩)
  go_ret;exact ⟨Bm H.out.1,by rw [H.out.2.1];exact H.out.2.2,Wr.refl _ _⟩
set_option maxHeartbeats 8000000
open _root_.Go.Proofs.Tryz Go.Deep
def FO (h:Int):Bool:=decide (0<=h/\h<8)
def A8 (hs:List Int):Bool:=hs.all FO
def iH (ok:Bool) (b:Nat):Value:=if ok then .tuple #[.pointer (some ⟨b,0,none⟩),.int .i64 0] else .tuple #[.pointer none,.int .i64 1]
theorem Le {hs:List Int} {k:Nat} (hk:k<hs.length) (h:(hs.take k).all FO=true) (hx:FO (hs.getD k 0)=true):(hs.take (k+1)).all FO=true:=by
 rw [List.take_succ_eq_append_getElem hk,List.all_append,h];have:hs.getD k 0=hs[k]:=by simp [hk]
 rw [this] at hx;simpa using hx
theorem JP {hs:List Int} {k:Nat} (hk:k<hs.length) (hx:FO (hs.getD k 0)=false):A8 hs=false:=by
 unfold A8;rw [List.all_eq_false];have:hs.getD k 0=hs[k]:=by simp [hk]
 exact ⟨hs[k],List.getElem_mem hk,by rw [<-this,hx];decide⟩
theorem Nq (n:Nat):madeCells (Value.agg #[.int .u32 0]).cells (n*1)=((List.replicate n (0:Int)).map (Value.int .u32)).toArray:=zz3k
theorem P7 {w:World} {b bw:Nat} {ao:Option Addr} {m cap:Nat} {hs:List Int} (hm:m<=4096) (ho:w.heap[b]? =some (.cells #[.slice ao m cap,.slice (some ⟨bw,0,none⟩) m m] 177 (0,0)))
  (hw:w.heap[bw]? =some (.cells ((List.replicate m (0:Int)).map (Value.int .u32)).toArray 184 (0,0))) (hh:w.ownsRow 0 3 1 (.slice ao m cap) m (hs.map (Value.int .i64))) (hne:bw≠b) (hap:∀ k,(Value.slice ao m cap).ownBlock=some k->k≠bw):
  MemAt w b bw (.slice ao m cap) hs (List.replicate m 0):=
 ⟨by simpa using ho,by simpa using hh,hw,hne,hap,by simpa using hm,λz hz=>by simp at hz;omega⟩
def Made (w X:World) (b bw:Nat) (ao:Option Addr) (m cap:Nat) (hs:List Int):Prop:=
 MemAt X b bw (.slice ao m cap) hs (List.replicate m 0)/\w.heap.size<=b/\w.heap.size<=bw/\(∀ k,(Value.slice ao m cap).ownBlock=some k->w.heap.size<=k)/\Wr Nil w X
theorem KM (m:Nat):((List.replicate m (0:Int)).map (Value.int .u32)).toArray=Array.replicate m (Value.int .u32 0):=by simp
theorem Np {w w1:World} {ao:Option Addr} {m cap:Nat} {hs:List Int} (hm:m<=4096) (hown:w1.ownsRow w.drew.heap.size 3 1 (.slice ao m cap) m (hs.map (Value.int .i64))) (hgrow:w.drew.grownBy w1 none):
  Made w ((w1.alloc (.cells (Array.replicate m (Value.int .u32 0)) 184)).alloc (.cells #[.slice ao m cap,.slice (some ⟨w1.heap.size,0,none⟩) m m] 177)) (w1.heap.size+1) w1.heap.size ao m cap hs:=by
 have hsz:w.heap.size<=w1.heap.size:=hgrow.size;have hlt:=hown.lt;have hW:Wr Nil w w1:=((Wr.refl Nil w).drew).grown hgrow (λk hk=>by cases hk);refine ⟨P7 hm ?_ ?_ ?_ (by omega) (λk hk=>by have:=(hlt k hk).2;omega),by omega,hsz,λk hk=>(hlt k hk).1,(hW.alloc _).alloc _⟩
 ·have h:=blk_alloc_new (w1.alloc (.cells (Array.replicate m (Value.int .u32 0)) 184)) (.cells #[.slice ao m cap,.slice (some ⟨w1.heap.size,0,none⟩) m m] 177)
  rw [nblk_alloc] at h;exact h
 ·rw [blk_alloc_lt _ _ _ (by rw [nblk_alloc];omega),blk_alloc_new,KM]
 ·exact ((Gx hown (Nat.zero_le _)).alloc _).alloc _
theorem QU {w w1:World} {ao:Option Addr} {m cap:Nat} {hs:List Int} (hm:m<=4096) (hown:w1.ownsRow (w.drew.alloc (.cells (Array.replicate m (Value.int .u32 0)) 184)).heap.size 3 1 (.slice ao m cap) m (hs.map (Value.int .i64)))
  (hgrow:(w.drew.alloc (.cells (Array.replicate m (Value.int .u32 0)) 184)).grownBy w1 none):
  Made w (w1.alloc (.cells #[.slice ao m cap,.slice (some ⟨w.heap.size,0,none⟩) m m] 177)) w1.heap.size w.heap.size ao m cap hs:=by
 have hsz:w.heap.size+1<=w1.heap.size:=by have:=hgrow.size;rw [nblk_alloc] at this;exact this
 have hlt:∀ k,(Value.slice ao m cap).ownBlock=some k->w.heap.size+1<=k/\k<w1.heap.size:=by have h:=hown.lt;rw [nblk_alloc] at h;exact h
 have hW:Wr Nil w w1:=((Wr.refl Nil w).drew.alloc _).grown hgrow (λk hk=>by cases hk);refine ⟨P7 hm (blk_alloc_new _ _) ?_ ((Gx hown (Nat.zero_le _)).alloc _) (by omega) (λk hk=>by have:=(hlt k hk).1;omega),by omega,Nat.le_refl _,λk hk=>by have:=(hlt k hk).1;omega,hW.alloc _⟩;rw [blk_alloc_lt _ _ _ (by omega),hgrow.block _ (by rw [nblk_alloc];exact Nat.lt_succ_self _) (by simp),KM];exact blk_alloc_new w.drew _
def GN (w:World) (hs:List Int) (m:Nat) (e:Ending) (w':World):Prop:=
 ∃ b bw hv,e= .returned (iH (A8 hs) b)/\MemAt w' b bw hv hs (List.replicate m 0)/\w.heap.size<=b/\w.heap.size<=bw/\(∀ k,hv.ownBlock=some k->w.heap.size<=k)/\Wr Nil w w'
theorem Qa {w:World} {sa:Option Addr} {m c:Nat} {hs:List Int} (hr:Ad .i64 w sa m hs) (hm:m<=4096):
  Calls prog 62 #[.slice sa m c] w (GN w hs m):=by
 obtain ⟨i0,hi,hz0,hz1,hz2⟩:=info_parts JC;obtain ⟨i1,gi,VO,VP,VQ⟩:=info_parts QS;have hmk:∀ w:World,(Instr.makeSlice 175 (.int .i64 (m:Int)) (.int .i64 (m:Int))).run prog w= .ok (.slice (some ⟨w.heap.size,0,none⟩) m m) (w.alloc (.cells ((List.replicate m (0:Int)).map (Value.int .u32)).toArray 184)):=by
  intro w;have h:=Go.run_make (P:=prog) w 175 184 i1 _ underlying175 gi VO .i64 .i64 m m (by omega) (by omega) (by rw [VQ];omega) (by omega);rw [VP] at h;simp only [Int.toNat_natCast] at h;rw [Nq] at h;exact h
 have hlen:=hr.len
 go_in
 go_wp2
 go_region_law (refine Ha rfl _ _ 22 rfl 3 i0 (.int .i64 0) 8 underlying22 hi hz0 hz1 hz2 rfl (by simp [Act.eval]) sa m c (hs.map (Value.int .i64)) (by simp [Act.eval,Act.put]) hr.empty (by simpa using hlen) (by first|exact hr.news|exact (hr.after ((Wr.refl Nil w).drew.alloc _)).news) (by intro u hu;simp only [List.mem_map] at hu;obtain ⟨z,_,rfl⟩:=hu;rfl) (by unfold maxLen;omega) (by omega) ?_;intro ao cap w1 hown hgrow)
 all_goals first
  |(have R:=Np hm hown hgrow
    obtain ⟨X,hX⟩:∃ X,X=(w1.alloc (.cells (Array.replicate m (Value.int .u32 0)) 184)).alloc (.cells #[.slice ao m cap,.slice (some ⟨w1.heap.size,0,none⟩) m m] 177):=⟨_,rfl⟩
    rw [<-hX] at R ⊢;clear hX hown hgrow;generalize w1.heap.size+1=b at R ⊢;generalize w1.heap.size=bw at R ⊢)
  |(have R:=QU hm hown hgrow
    obtain ⟨X,hX⟩:∃ X,X=w1.alloc (.cells #[.slice ao m cap,.slice (some ⟨w.heap.size,0,none⟩) m m] 177):=⟨_,rfl⟩
    rw [<-hX] at R ⊢;clear hX hown hgrow;generalize w1.heap.size=b at R ⊢;obtain ⟨bw,eC⟩:∃ bw,bw=w.heap.size:=⟨_,rfl⟩
    rw [<-eC] at R ⊢)
 all_goals
  obtain ⟨hM,rb,ko,bu,hW⟩:=R;have hao:m=0\/∃ g,ao=some ⟨g,0,none⟩/\∀ k,k<m->X.cell? ⟨g,k,none⟩=some (.int .i64 (hs.getD k 0)):=by
   rcases Nat.eq_zero_or_pos m with h0|h0
   ·exact .inl h0
   ·have hh:=hM.homes
    rw [List.length_replicate] at hh;obtain ⟨g,e,_,_⟩:=EI hh h0;refine .inr ⟨g,e,λk hk=> ?_⟩;obtain ⟨g',e',hc,_⟩:=EI hh hk;rw [e] at e';simp only [Option.some.injEq,Addr.mk.injEq] at e';obtain ⟨rfl,_⟩:=e';rw [hc];simp [hlen,hk]
  have c0:=hM.cell0;have HF:=Qw (Qz hM (Qz rb (Qz ko (Qz bu hW))));clear hM rb ko bu hW hr;go_wp2
  go_loop [22] (λi=>∃ k:Nat,k<=m/\i= .int .i64 k/\Hid ((hs.take k).all FO=true)) (λi=>m-(intOf i).toNat)
  case atStart=>exact ⟨0,Nat.zero_le _,rfl,by simp [Hid]⟩
  case round=>
   obtain ⟨k,hk,rfl,hok⟩:=hrel;by_cases hlt:k<m
   ·rcases hao with h0|⟨g,rfl,hcell⟩
    ·omega
    ·obtain ⟨x,hx⟩:∃ x,x=hs.getD k 0:=⟨_,rfl⟩
     have hc:=hcell k hlt;rw [<-hx] at hc;have X1:=Qw (Qz hx hcell);clear hx hcell;by_cases x0:x<0
     ·exact zz7s
     ·by_cases x1:8<=x
      ·exact zz7s
      ·exact zz7p
   ·have hb:Hid (A8 hs=true):=Qw (by have h:=hok.out;rw [List.take_of_length_le (by omega)] at h;exact h)
    exact zz38
theorem Y9 {w:World} {sa:Option Addr} {m c:Nat} {hs:List Int} (hr:Ad .i64 w sa m hs) (hm:m<=4096) (ho:A8 hs=true):
  Calls prog 62 #[.slice sa m c] w λe w'=>∃ b bw hv,e= .returned (.tuple #[.pointer (some ⟨b,0,none⟩),.int .i64 0])/\MemAt w' b bw hv hs (List.replicate m 0)/\w.heap.size<=b/\w.heap.size<=bw/\(∀ k,hv.ownBlock=some k->w.heap.size<=k)/\Wr Nil w w':=by
 refine (Qa hr hm).mono ?_;unfold GN;rw [ho];exact λe w' h=>h
def Gb (ws:List Int) (K a old v:Int):List Int:=if K=2\/K=3 then BA ws a v else if K=4 then Fg ws a old v else if K=5 then J4 ws a v else ws
def CR (ws:List Int) (K a:Int):Int:=if K=1\/K=3\/K=5 then BK ws a else 0
theorem L3 (ws:List Int) (K a old v:Int):(Gb ws K a old v).length=ws.length:=by
 unfold Gb J4;split
 ·exact Dv _ _ _
 ·split
  ·exact M7 _ _ _ _
  ·split
   ·exact Dv _ _ _
   ·rfl
theorem QQ {sa:Option Addr} {m cap:Nat} {hs:List Int} {w:World} (h:Ad .i64 w sa m hs) (hm:m<=9223372036854775807):
  Calls prog 22 #[.slice sa m cap] w λe w'=>e= .returned (.bool (A8 hs))/\w=w':=by
 have hlen:=h.len;have hat:=h.at;clear h
 go_in
 go_wp2
 go_loop [7] (λi=>∃ k:Nat,k<=m/\i= .int .i64 k/\Hid ((hs.take k).all FO=true)) (λi=>m-(intOf i).toNat)
 case atStart=>exact ⟨0,Nat.zero_le _,rfl,by simp [Hid]⟩
 case round=>
  obtain ⟨k,hk,rfl,hok⟩:=hrel;by_cases hlt:k<m
  ·rcases hat with h0|⟨b,o,rfl,hcell⟩
   ·omega
   ·obtain ⟨x,hx⟩:∃ x,x=hs.getD k 0:=⟨_,rfl⟩
    have hc:=hcell k hlt;rw [<-hx] at hc;have X1:=Qw (Qz hx hcell);clear hx hcell;by_cases x0:x<0
    ·exact zz4l
    ·by_cases x1:7<x
     ·exact zz4l
     ·exact zz7p
  ·have hb:Hid (A8 hs=true):=Qw (by have h:=hok.out;rw [List.take_of_length_le (by omega)] at h;exact h)
   go_wp2;go_ret;exact ⟨Bm hb.out.symm,rfl⟩
end Go.Proofs.YtmnephejhkfchaaGreat

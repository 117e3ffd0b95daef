
import Derived.Test.YteokghghpmppnaaGreatChecked
import Derived.Test.YteokghghpmppnaaGreatBuAw
namespace Go.Proofs.YteokghghpmppnaaGreat
set_option maxHeartbeats 8000000
open _root_.Go.Proofs.Tryz
open Go.RowKit Go.BigFrame
set_option linter.unusedVariables false
set_option maxRecDepth 100000
theorem so_disable (w:World):(callFunc 107 #[]).run prog w= .ok (.value (.tuple #[])) w:=run_call_mark0 func107 (by kernel_rfl) (by kernel_rfl) (by kernel_rfl) .disable (by kernel_rfl) w
theorem so_enable (w:World):(callFunc 109 #[]).run prog w= .ok (.value (.tuple #[])) w:=run_call_mark0 func109 (by kernel_rfl) (by kernel_rfl) (by kernel_rfl) .enable (by kernel_rfl) w
theorem so_acquire (a:Addr) (w:World):(callFunc 110 #[.pointer (some a)]).run prog w= .ok (.value (.tuple #[])) w:=run_call_marked func110 (by kernel_rfl) (by kernel_rfl) (by kernel_rfl) .acquire (by kernel_rfl) a w
theorem so_release (a:Addr) (w:World):(callFunc 112 #[.pointer (some a)]).run prog w= .ok (.value (.tuple #[])) w:=run_call_marked func112 (by kernel_rfl) (by kernel_rfl) (by kernel_rfl) .releaseMerge (by kernel_rfl) a w
theorem so_store_d (a:Addr) (x:Value) (u:FrameMode) (w:World) (hc:w.cell? a=some x) (hz:w.frozen? a=false):
  CallsD prog 45 #[.pointer (some a),.bool true] u w λe u' w'=>u'=u∧(e= .returned (.tuple #[])∧w'=w.drew.setCell a (.int .u32 1)):=by
 have hc':w.drew.cell? a=some x:=by go_simp
 have hz':w.drew.frozen? a=false:=by go_simp
 have hst:=run_call_store (P:=prog) func68 (by kernel_rfl) (by kernel_rfl) (by kernel_rfl) (by kernel_rfl) (k:= .u32) (y:=1) hc' hz'
 go_enter_d func45,ntmps45
 go_wp2
 go_region_calls
 all_goals (go_end0;exact ⟨rfl,rfl⟩)
theorem so_store (a:Addr) (x:Value) (w:World) (hc:w.cell? a=some x) (hz:w.frozen? a=false):
  Calls prog 45 #[.pointer (some a),.bool true] w λe w'=>e= .returned (.tuple #[])∧w'=w.drew.setCell a (.int .u32 1):=by
 have hc':w.drew.cell? a=some x:=by go_simp
 have hz':w.drew.frozen? a=false:=by go_simp
 have hst:=run_call_store (P:=prog) func68 (by kernel_rfl) (by kernel_rfl) (by kernel_rfl) (by kernel_rfl) (k:= .u32) (y:=1) hc' hz'
 go_enter func45,ntmps45
 go_wp2
 go_region_calls
 all_goals (go_end0;exact ⟨rfl,rfl⟩)
theorem so_load (a:Addr) (x:Int) (w:World) (hc:w.cell? a=some (.int .u32 x)):
  Calls prog 42 #[.pointer (some a)] w λe w'=>e= .returned (.bool (x != 0))∧w=w':=by
 have hl:=run_call_load (P:=prog) func66 (by kernel_rfl) (by kernel_rfl) (by kernel_rfl) .u32 (by kernel_rfl) hc
 go_enter func42,ntmps42
 go_wp2
 go_ret
 exact ⟨rfl,rfl⟩
theorem so_unlock_d (a:Addr) (u:FrameMode) (w:World) (hc:w.cell? a=some (.int .i32 1)) (hz:w.frozen? a=false):
  CallsD prog 89 #[.pointer (some a)] u w λe u' w'=>u'=u∧(e= .returned (.tuple #[])∧w'=w.setCell a (.int .i32 0)):=by
 have hd:=so_disable
 have he:=so_enable
 have hr:=so_release
 have hadd:=run_call_add (P:=prog) func113 (by kernel_rfl) (by kernel_rfl) (by kernel_rfl) .i32 (by kernel_rfl) (y:= -1) (s:=0) hc hz (by simp [go_sem];rfl)
 have hcv:=run_convert_to_unsafe (P:=prog) (src:=260) (dst:=264) underlying260 underlying264 (by kernel_rfl) hc
 go_enter_d func89,ntmps89
 go_wp2
 go_end0
 go_wp2
 all_goals (try go_end0)
 all_goals exact ⟨rfl,rfl⟩
theorem so_lock (a:Addr) (w:World) (hc:w.cell? a=some (.int .i32 0)) (hz:w.frozen? a=false):
  Calls prog 88 #[.pointer (some a)] w λe w'=>e= .returned (.tuple #[])∧w'=w.setCell a (.int .i32 1):=by
 have hd:=so_disable
 have he:=so_enable
 have ha:=so_acquire
 have hcas:=run_call_cas_hit (P:=prog) func108 (by kernel_rfl) (by kernel_rfl) (by kernel_rfl) .i32 (by kernel_rfl) (y:=1) hc hz
 have hc':(w.setCell a (.int .i32 1)).cell? a=some (.int .i32 1):=World.cell?_setCell_same w a _ hc
 have hcv:=run_convert_to_unsafe (P:=prog) (src:=260) (dst:=264) underlying260 underlying264 (by kernel_rfl) hc'
 go_enter func88,ntmps88
 go_wp2
 first|go_end0|(simp only [Exit.inBlock,Exit.then];refine bodyPost_ret (results_none rfl _ _ _) rfl ?_)|refine bodyPost_ret (results_none rfl _ _ _) rfl ?_
 go_wp2
 all_goals (try go_end0)
 all_goals exact ⟨rfl,rfl⟩
structure OnceFn (b:Nat) (pl:Addr) (w:World) (Q:World→Prop):Prop where
 run:Calls prog 44 #[.pointer (some pl)] (w.setCell ⟨b,1,none⟩ (.int .i32 1)) λe w'=>e= .returned (.tuple #[])∧Q w'
 out:∀ w',Q w'→(w'.cell? ⟨b,0,none⟩=some (.int .u32 0)∧w'.frozen? ⟨b,0,none⟩=false)∧w'.cell? ⟨b,1,none⟩=some (.int .i32 1)∧w'.frozen? ⟨b,1,none⟩=false
theorem so_slow (b:Nat) (pl:Addr) (w:World) (Q:World→Prop) (h0:w.cell? ⟨b,0,none⟩=some (.int .u32 0)) (h1:w.cell? ⟨b,1,none⟩=some (.int .i32 0)) (f0:w.frozen? ⟨b,0,none⟩=false) (f1:w.frozen? ⟨b,1,none⟩=false) (hF:OnceFn b pl w Q):
  Calls prog 67 #[.pointer (some ⟨b,0,none⟩),.func (.func 44) #[] #[.pointer (some pl)]] w λe w'=>e= .returned (.tuple #[])∧∃ w1,Q w1∧w'=(w1.drew.setCell ⟨b,0,none⟩ (.int .u32 1)).setCell ⟨b,1,none⟩ (.int .i32 0):=by
 have cL:=so_load ⟨b,0,none⟩ 0 (w.setCell ⟨b,1,none⟩ (.int .i32 1)) ((World.cell?_setCell_other _ ⟨b,1,none⟩ ⟨b,0,none⟩ _ (by simp)).trans h0)
 have hnot:∀ (x:Bool) (w:World),(Op.unary .not (.bool x)).run prog w= .ok (.bool (!x)) w:=λ_ _=>rfl
 have HF:=Lib.hid hF
 clear hF
 go_enter_defers func67,ntmps67
 go_wp2_with (first
  |(go_at_call 88;refine (so_lock ⟨b,1,none⟩ _ (by go_simp) (by go_simp)).mono ?_;rintro e w' ⟨rfl,rfl⟩)
  |(go_at_call 42;(with_reducible refine cL.mono ?_);rintro e w' ⟨rfl,rfl⟩)
  |(go_at_call 44;(refine HF.out.run.mono ?_);rintro e w1 ⟨rfl,hQ⟩;have HQ:=Lib.hid hQ;clear hQ))
 obtain ⟨⟨q0,z0⟩,q1,z1⟩:=HF.out.out _ HQ.out
 refine leaves_cons (f:=45) (args:= #[.pointer (some ⟨b,0,none⟩),.bool true]) (by simp) (by simp [go_sem]) ?_
 refine (so_store_d ⟨b,0,none⟩ (.int .u32 0) .returning _ q0 z0).mono ?_
 rintro e u' w'' ⟨rfl,rfl,rfl⟩
 refine leaves_cons (f:=89) (args:= #[.pointer (some ⟨b,1,none⟩)]) (by simp [settle]) (by simp [go_sem]) ?_
 refine (so_unlock_d ⟨b,1,none⟩ _ _ ?_ (by simp [z1])).mono ?_
 ·refine (World.cell?_setCell_other _ ⟨b,0,none⟩ ⟨b,1,none⟩ _ (by simp)).trans ?_
  rw [World.cell?_drew]
  exact q1
 rintro e u' w'' ⟨rfl,rfl,rfl⟩
 simp [Leaves,settle,results,results67]
 exact ⟨w1,HQ.out,rfl⟩
theorem so_first (b:Nat) (pl:Addr) (w:World) (Q:World→Prop) (h0:w.cell? ⟨b,0,none⟩=some (.int .u32 0)) (h1:w.cell? ⟨b,1,none⟩=some (.int .i32 0)) (f0:w.frozen? ⟨b,0,none⟩=false) (f1:w.frozen? ⟨b,1,none⟩=false) (hF:OnceFn b pl w Q):
  Calls prog 43 #[.pointer (some ⟨b,0,none⟩),.func (.func 44) #[] #[.pointer (some pl)]] w λe w'=>e= .returned (.tuple #[])∧∃ w1,Q w1∧w'=(w1.drew.setCell ⟨b,0,none⟩ (.int .u32 1)).setCell ⟨b,1,none⟩ (.int .i32 0):=by
 have cS:=so_slow b pl w Q h0 h1 f0 f1 hF
 have cL:=so_load ⟨b,0,none⟩ 0 w h0
 have hnot:∀ (x:Bool) (w:World),(Op.unary .not (.bool x)).run prog w= .ok (.bool (!x)) w:=λ_ _=>rfl
 clear hF
 go_enter func43,ntmps43
 go_wp2_with (first
  |(go_at_call 42;(with_reducible refine cL.mono ?_);rintro e w' ⟨rfl,rfl⟩)
  |(go_at_call 67;(with_reducible refine cS.mono ?_);rintro e w' ⟨rfl,hq⟩;have HQ:=Lib.hid hq;clear hq))
 go_end0
 exact ⟨rfl,HQ.out⟩
theorem so_again (b:Nat) (fv:Value) (w:World) (h0:w.cell? ⟨b,0,none⟩=some (.int .u32 1)):
  Calls prog 43 #[.pointer (some ⟨b,0,none⟩),fv] w λe w'=>e= .returned (.tuple #[])∧w=w':=by
 have cL:=so_load ⟨b,0,none⟩ 1 w h0
 have hnot:∀ (x:Bool) (w:World),(Op.unary .not (.bool x)).run prog w= .ok (.bool (!x)) w:=λ_ _=>rfl
 go_enter func43,ntmps43
 go_wp2_with (first
  |(go_at_call 42;(with_reducible refine cL.mono ?_);rintro e w' ⟨rfl,rfl⟩))
 go_end0
 exact ⟨rfl,rfl⟩
theorem fin_0 (s:SS) (t:Int):s.fin t 0=s:=by
 unfold SS.fin endO behindI
 simp
theorem lock_new {n:Nat} (x y:Bool) (n1:1≤n):(newSeat n x y).lock 0 (-1)=(newSeat n x y).set 0 1 (-1):=by
 have e:lockE (newSeat n x y) 0 (-1)=0:=by
  unfold lockE
  rw [if_pos ⟨⟨Int.le_refl 0,by show (0:Int)<(n:Int);omega⟩,.inl rfl⟩]
  rfl
 unfold SS.lock
 rw [if_pos e]
 rfl
theorem acc_new {n:Nat} {ws:List Int} {K a o x:Int} (n1:1≤n) (h1:1≤K) (h5:K≤5) (h0:0≤a) (hl:a<ws.length):cntI (doS (newS n ws) 0 K a o x).ac 0=1:=by
 have e:okS (newS n ws) 0 K a=true:=by
  unfold okS okT newS
  simp
  omega
 unfold doS
 rw [if_pos e]
 show cntI ((List.replicate n 0).set 0 ((List.replicate n 0).getD 0 0+1)) 0=1
 cases n with
 |zero=>omega
 |succ n=>rfl
def FirstA (n:Nat) (ws:List Int) (s':SS) (p':PSta):Prop:=s'.stI 0=1∧∃ K a o x:Int,(1≤K∧K≤5∧0≤a∧a<ws.length)∧p'=doS (newS n ws) 0 K a o x
theorem st_set {n:Nat} (x y:Bool) (n1:1≤n):((newSeat n x y).set 0 1 (-1)).stI 0=1∧((newSeat n x y).set 0 1 (-1)).st 0=1∧(0:Int)≤0∧(0:Int)<(((newSeat n x y).set 0 1 (-1)).n:Nat):=by
 have h:(0:Int)<(((newSeat n x y).set 0 1 (-1)).n:Nat):=by show (0:Int)<(n:Int);omega
 have h2:((newSeat n x y).set 0 1 (-1)).st 0=1:=by show upd (λ_=>0) 0 1 0=1;exact upd_same _ _ _
 refine ⟨?_,h2,Int.le_refl _,h⟩
 unfold SS.stI
 rw [if_pos ⟨Int.le_refl _,h⟩]
 exact h2
theorem Kf.first_any (n:Nat) (v:Int) (n1:1≤n) (L:Kf.Lp) (h1:L.a1=0):FirstA n [v,v] (((Kf.newF n n v).lock 0 (-1)).step L 0 0).s (((Kf.newF n n v).lock 0 (-1)).step L 0 0).ps:=by
 obtain ⟨f,hf⟩:∃ f,f=(Kf.newF n n v).lock 0 (-1):=⟨_,rfl⟩
 have hs:f.s=(newSeat n false true).set 0 1 (-1):=by rw [hf];exact lock_new _ _ n1
 have hp:f.ps=newS n [v,v]:=by rw [hf];rfl
 have hd0:f.dr 0=false:=by rw [hf];rfl
 obtain ⟨e1,e2,e3,e4⟩:=st_set (false) (true) n1
 rw [←hs] at e1 e2 e4
 rw [←hf]
 clear hf
 have hd:(f.did L 0 0).ev=0:=by
  unfold Kf.FL.did
  rw [if_pos ⟨e3,e4⟩,show Int.toNat 0=0 from rfl,if_pos e2]
  unfold Kf.FL.acqD
  rw [if_neg (by rw [hd0];decide)]
 refine ⟨?_,?_⟩
 ·show (f.s.fin 0 (f.did L 0 0).ev).stI 0=1
  rw [hd,fin_0]
  exact e1
 ·show ∃ K a o x:Int,_∧(f.mid L 0 0).ps=_
  unfold Kf.FL.mid
  rw [if_pos ⟨e3,e4⟩,show Int.toNat 0=0 from rfl,if_pos e2]
  unfold Kf.FL.acq
  rw [if_neg (by rw [hd0];decide),hp,h1]
  exact ⟨_,_,_,_,⟨by decide,by decide,by decide,by show (0:Int)<((2:Nat):Int);decide⟩,rfl⟩
theorem Ks.first_any (n m z:Nat) (v:Int) (n1:1≤n) (L:Ks.Lp) (h1:L.a1=0):FirstA n ([v]++Ks.slotR z m) (((Ks.newF n n m z v).lock 0 (-1)).step L 0 0).s (((Ks.newF n n m z v).lock 0 (-1)).step L 0 0).ps:=by
 obtain ⟨f,hf⟩:∃ f,f=(Ks.newF n n m z v).lock 0 (-1):=⟨_,rfl⟩
 have hs:f.s=(newSeat n false false).set 0 1 (-1):=by rw [hf];exact lock_new _ _ n1
 have hp:f.ps=newS n ([v]++Ks.slotR z m):=by rw [hf];rfl
 have hd0:f.pc 0=0:=by rw [hf];rfl
 obtain ⟨e1,e2,e3,e4⟩:=st_set (false) (false) n1
 rw [←hs] at e1 e2 e4
 rw [←hf]
 clear hf
 have hd:(f.did L 0 0).ev=0:=by
  unfold Ks.FL.did
  rw [if_pos ⟨e3,e4⟩,show Int.toNat 0=0 from rfl,if_pos e2]
  unfold Ks.FL.acqD
  rw [if_pos hd0]
 refine ⟨?_,?_⟩
 ·show (f.s.fin 0 (f.did L 0 0).ev).stI 0=1
  rw [hd,fin_0]
  exact e1
 ·show ∃ K a o x:Int,_∧(f.mid L 0 0).ps=_
  unfold Ks.FL.mid
  rw [if_pos ⟨e3,e4⟩,show Int.toNat 0=0 from rfl,if_pos e2]
  unfold Ks.FL.acq
  rw [if_pos hd0,hp,h1]
  exact ⟨_,_,_,_,⟨by decide,by decide,by decide,by have h9:0<([v]++Ks.slotR z m).length:=(by simp);omega⟩,rfl⟩
theorem Kc.first_any (n:Nat) (n1:1≤n) (L:Kc.Lp) (h2:L.a2=1):FirstA n (Kc.zerosC n) (((Kc.newF n n).lock 0 (-1)).step L 0 0).s (((Kc.newF n n).lock 0 (-1)).step L 0 0).ps:=by
 obtain ⟨f,hf⟩:∃ f,f=(Kc.newF n n).lock 0 (-1):=⟨_,rfl⟩
 have hs:f.s=(newSeat n false true).set 0 1 (-1):=by rw [hf];exact lock_new _ _ n1
 have hp:f.ps=newS n (Kc.zerosC n):=by rw [hf];rfl
 have hd0:f.pc 0=0:=by rw [hf];rfl
 have hn0:f.node 0=1:=by rw [hf];show Kc.nodeK n 0=1;unfold Kc.nodeK;rw [if_pos (by omega)];rfl
 obtain ⟨e1,e2,e3,e4⟩:=st_set (false) (true) n1
 rw [←hs] at e1 e2 e4
 rw [←hf]
 clear hf
 have hd:(f.did L 0 0).ev=0:=by
  unfold Kc.FL.did
  rw [if_pos ⟨e3,e4⟩,show Int.toNat 0=0 from rfl,if_pos e2]
  unfold Kc.FL.acqD
  rw [if_pos hd0];rfl
 refine ⟨?_,?_⟩
 ·show (f.s.fin 0 (f.did L 0 0).ev).stI 0=1
  rw [hd,fin_0]
  exact e1
 ·show ∃ K a o x:Int,_∧(f.mid L 0 0).ps=_
  unfold Kc.FL.mid
  rw [if_pos ⟨e3,e4⟩,show Int.toNat 0=0 from rfl,if_pos e2]
  unfold Kc.FL.acq
  rw [if_pos hd0,hp,h2,hn0]
  exact ⟨_,_,_,_,⟨by decide,by decide,by decide,by rw [Kc.zerosC_len];first|omega|(simp;omega)|(push_cast;omega)⟩,rfl⟩
theorem Km.first_any (n:Nat) (n1:1≤n) (L:Km.Lp) (h2:L.a2=1):FirstA n (Km.zerosC n) (((Km.newF n n).lock 0 (-1)).step L 0 0).s (((Km.newF n n).lock 0 (-1)).step L 0 0).ps:=by
 obtain ⟨f,hf⟩:∃ f,f=(Km.newF n n).lock 0 (-1):=⟨_,rfl⟩
 have hs:f.s=(newSeat n false true).set 0 1 (-1):=by rw [hf];exact lock_new _ _ n1
 have hp:f.ps=newS n (Km.zerosC n):=by rw [hf];rfl
 have hd0:f.pc 0=0:=by rw [hf];rfl
 obtain ⟨e1,e2,e3,e4⟩:=st_set (false) (true) n1
 rw [←hs] at e1 e2 e4
 rw [←hf]
 clear hf
 have hd:(f.did L 0 0).ev=0:=by
  unfold Km.FL.did
  rw [if_pos ⟨e3,e4⟩,show Int.toNat 0=0 from rfl,if_pos e2]
  unfold Km.FL.acqD
  rw [if_pos hd0];rfl
 refine ⟨?_,?_⟩
 ·show (f.s.fin 0 (f.did L 0 0).ev).stI 0=1
  rw [hd,fin_0]
  exact e1
 ·show ∃ K a o x:Int,_∧(f.mid L 0 0).ps=_
  unfold Km.FL.mid
  rw [if_pos ⟨e3,e4⟩,show Int.toNat 0=0 from rfl,if_pos e2]
  unfold Km.FL.acq
  rw [if_pos hd0,hp]
  unfold Km.Lp.nx
  rw [h2]
  exact ⟨_,_,_,_,⟨by decide,by decide,by decide,by rw [Km.zerosC_len];first|omega|(simp;omega)|(push_cast;omega)⟩,rfl⟩
theorem Ka.first_any (n ea:Nat) (n1:1≤n) (e1:1≤ea) (L:Ka.Lp) (h2:L.a2=1):FirstA n (Ka.zerosA (n*ea)) (((Ka.newF n ea n).lock 0 (-1)).step L 0 0 0).s (((Ka.newF n ea n).lock 0 (-1)).step L 0 0 0).ps:=by
 obtain ⟨f,hf⟩:∃ f,f=(Ka.newF n ea n).lock 0 (-1):=⟨_,rfl⟩
 have hs:f.s=(newSeat n true false).set 0 1 (-1):=by rw [hf];exact lock_new _ _ n1
 have hp:f.ps=newS n (Ka.zerosA (n*ea)):=by rw [hf];rfl
 have hd0:f.pc 0=1:=by rw [hf];rfl
 have ht0:f.tr 0=0:=by rw [hf];rfl
 have hid:f.id 0=1:=by unfold Ka.FL.id;rw [ht0];simp
 have hz:tellS f.ps 0 1 (L.oA (f.id 0))=0:=by
  unfold tellS
  split
  ·rw [hp]
   show loadI (Ka.zerosA (n*ea)) _=0
   unfold loadI
   split
   ·exact Ka.zerosA_at _ _
   ·rfl
  ·rfl
 have hm:1≤n*ea:=Nat.mul_pos n1 e1
 obtain ⟨e1,e2,e3,e4⟩:=st_set (true) (false) n1
 rw [←hs] at e1 e2 e4
 rw [←hf]
 clear hf
 have hd:(f.did L 0 0 0).ev=0:=by
  unfold Ka.FL.did
  rw [if_pos ⟨e3,e4⟩,show Int.toNat 0=0 from rfl,if_pos e2]
  unfold Ka.FL.acqD
  rw [if_pos hd0,if_neg (by rw [hz];simp)];rfl
 refine ⟨?_,?_⟩
 ·show (f.s.fin 0 (f.did L 0 0 0).ev).stI 0=1
  rw [hd,fin_0]
  exact e1
 ·show ∃ K a o x:Int,_∧(f.mid L 0 0 0).ps=_
  unfold Ka.FL.mid
  rw [if_pos ⟨e3,e4⟩,show Int.toNat 0=0 from rfl,if_pos e2]
  unfold Ka.FL.acq
  rw [if_pos hd0,hp,hid]
  unfold Ka.Lp.oA
  rw [h2]
  exact ⟨_,_,_,_,⟨by decide,by decide,by decide,by rw [Ka.zerosA_len];first|omega|(simp;omega)|(push_cast;omega)⟩,rfl⟩
theorem Kh.first_any (n:Nat) (zs:List Int) (n1:1≤n) (L:Kh.Lp) (h2:L.a2=1):FirstA n (Kh.wordsH n) (((Kh.newF zs n n).lock 0 (-1)).step L 0 0).s (((Kh.newF zs n n).lock 0 (-1)).step L 0 0).ps:=by
 obtain ⟨f,hf⟩:∃ f,f=(Kh.newF zs n n).lock 0 (-1):=⟨_,rfl⟩
 have hs:f.s=(newSeat n false false).set 0 1 (-1):=by rw [hf];exact lock_new _ _ n1
 have hp:f.ps=newS n (Kh.wordsH n):=by rw [hf];rfl
 have hd0:f.pc 0=0:=by rw [hf];rfl
 have hn0:f.nd 0=1:=by rw [hf];rfl
 obtain ⟨e1,e2,e3,e4⟩:=st_set (false) (false) n1
 rw [←hs] at e1 e2 e4
 rw [←hf]
 clear hf
 have hd:(f.did L 0 0).ev=0:=by
  unfold Kh.FL.did
  rw [if_pos ⟨e3,e4⟩,show Int.toNat 0=0 from rfl,if_pos e2]
  unfold Kh.FL.acqD
  rw [if_pos hd0];rfl
 refine ⟨?_,?_⟩
 ·show (f.s.fin 0 (f.did L 0 0).ev).stI 0=1
  rw [hd,fin_0]
  exact e1
 ·show ∃ K a o x:Int,_∧(f.mid L 0 0).ps=_
  unfold Kh.FL.mid
  rw [if_pos ⟨e3,e4⟩,show Int.toNat 0=0 from rfl,if_pos e2]
  unfold Kh.FL.acq
  rw [if_pos hd0,hp,hn0]
  unfold Kh.Lp.nA
  rw [h2]
  exact ⟨_,_,_,_,⟨by decide,by decide,by decide,by rw [Kh.wordsH_len];first|omega|(simp;omega)|(push_cast;omega)⟩,rfl⟩
theorem Kf.inn_first (m n:Nat) (ws:List Int) (o:Nat) (m1:1≤m) (hl:o+2≤ws.length):∃ K a p x:Int,(1≤K∧K≤5∧0≤a∧a<ws.length)∧(((newTk m (newS n ws)).lock (0:Nat) (-1)).step (o:Nat) (0:Nat) 0).ps=doS (newS n ws) 0 K a p x:=by
 obtain ⟨f,hf⟩:∃ f:Kf.FL,f=Kf.FL.lock ⟨newSeat m false true,λ_=>0,λ_=>false,newS n ws⟩ (0:Nat) (-1):=⟨_,rfl⟩
 have hs:f.s=(newSeat m false true).set 0 1 (-1):=by rw [hf];exact lock_new _ _ m1
 have hp:f.ps=newS n ws:=by rw [hf];rfl
 have hd0:f.dr 0=false:=by rw [hf];rfl
 obtain ⟨e1,e2,e3,e4⟩:=st_set false true m1
 rw [←hs] at e1 e2 e4
 show ∃ K a p x:Int,_∧(Kf.FL.mid (Kf.FL.lock ⟨newSeat m false true,λ_=>0,λ_=>false,newS n ws⟩ (0:Nat) (-1)) (Kf.lp (o:Nat)) (0:Nat) 0).ps=_
 rw [←hf]
 clear hf
 unfold Kf.FL.mid
 rw [if_pos ⟨e3,e4⟩,show Int.toNat ((0:Nat):Int)=0 from rfl,if_pos e2]
 unfold Kf.FL.acq
 rw [if_neg (by rw [hd0];decide),hp]
 exact ⟨_,_,_,_,⟨by decide,by decide,Int.natCast_nonneg o,by show (o:Int)<_;omega⟩,rfl⟩
theorem Kc.inn_first (m n:Nat) (ws:List Int) (o:Nat) (m1:1≤m) (hl:o+(m+2)≤ws.length):∃ K a p x:Int,(1≤K∧K≤5∧0≤a∧a<ws.length)∧(((newCl m (newS n ws)).lock (0:Nat) (-1)).step (o:Nat) (0:Nat) 0).ps=doS (newS n ws) 0 K a p x:=by
 obtain ⟨f,hf⟩:∃ f:Kc.FL,f=Kc.FL.lock ⟨newSeat m false true,λ_=>0,λj=>if j<m then (j:Int)+1 else 0,λ_=>0,newS n ws⟩ (0:Nat) (-1):=⟨_,rfl⟩
 have hs:f.s=(newSeat m false true).set 0 1 (-1):=by rw [hf];exact lock_new _ _ m1
 have hp:f.ps=newS n ws:=by rw [hf];rfl
 have hd0:f.pc 0=0:=by rw [hf];rfl
 have hn0:f.node 0=1:=by rw [hf];show (if 0<m then ((0:Nat):Int)+1 else 0)=1;rw [if_pos (by omega)];rfl
 obtain ⟨e1,e2,e3,e4⟩:=st_set false true m1
 rw [←hs] at e1 e2 e4
 show ∃ K a p x:Int,_∧(Kc.FL.mid (Kc.FL.lock ⟨newSeat m false true,λ_=>0,λj=>if j<m then (j:Int)+1 else 0,λ_=>0,newS n ws⟩ (0:Nat) (-1)) (Kc.lp (o:Nat)) (0:Nat) 0).ps=_
 rw [←hf]
 clear hf
 unfold Kc.FL.mid
 rw [if_pos ⟨e3,e4⟩,show Int.toNat ((0:Nat):Int)=0 from rfl,if_pos e2]
 unfold Kc.FL.acq
 rw [if_pos hd0,hp,hn0]
 refine ⟨_,(o:Int)+1+1,_,_,⟨by decide,by decide,by omega,by omega⟩,rfl⟩
theorem Km.inn_first (m n:Nat) (ws:List Int) (o:Nat) (m1:1≤m) (hl:o+(2*m+1)≤ws.length):∃ K a p x:Int,(1≤K∧K≤5∧0≤a∧a<ws.length)∧(((newMc m (newS n ws)).lock (0:Nat) (-1)).step (o:Nat) (0:Nat) 0).ps=doS (newS n ws) 0 K a p x:=by
 obtain ⟨f,hf⟩:∃ f:Km.FL,f=Km.FL.lock ⟨newSeat m false true,λ_=>0,λ_=>0,newS n ws⟩ (0:Nat) (-1):=⟨_,rfl⟩
 have hs:f.s=(newSeat m false true).set 0 1 (-1):=by rw [hf];exact lock_new _ _ m1
 have hp:f.ps=newS n ws:=by rw [hf];rfl
 have hd0:f.pc 0=0:=by rw [hf];rfl
 obtain ⟨e1,e2,e3,e4⟩:=st_set false true m1
 rw [←hs] at e1 e2 e4
 show ∃ K a p x:Int,_∧(Km.FL.mid (Km.FL.lock ⟨newSeat m false true,λ_=>0,λ_=>0,newS n ws⟩ (0:Nat) (-1)) (Km.lp (o:Nat)) (0:Nat) 0).ps=_
 rw [←hf]
 clear hf
 unfold Km.FL.mid
 rw [if_pos ⟨e3,e4⟩,show Int.toNat ((0:Nat):Int)=0 from rfl,if_pos e2]
 unfold Km.FL.acq
 rw [if_pos hd0,hp]
 refine ⟨_,(o:Int)+1+2*((0:Nat):Int),_,_,⟨by decide,by decide,by omega,by omega⟩,rfl⟩
theorem first_co (n:Nat) (zs:List Int) (G D B:Int) (n1:1≤n) (n2:n≤64) (hn:zs.length=n) (ho:homesOK zs=true) (hr:rightB G D B=true) (L:Lp):
  FirstA n (wordsC zs n G D) (((newC zs n G D B n).lock 0 (-1)).step L 0 0).s (((newC zs n G D B n).lock 0 (-1)).step L 0 0).ps:=by
 obtain ⟨f,hf⟩:∃ f,f=(newC zs n G D B n).lock 0 (-1):=⟨_,rfl⟩
 have hs:f.s=(newSeat n false false).set 0 1 (-1):=by rw [hf];exact lock_new _ _ n1
 have hp:f.ps=newS n (wordsC zs n G D):=by rw [hf];rfl
 have hd0:f.ph 0=0:=by rw [hf];rfl
 have hc0:f.own 0=0:=by rw [hf];rfl
 have hn0:f.nd 0=hNo zs 0:=by rw [hf];rfl
 have hL:f.Lc (hNo zs 0)=newInn D (cntH (hNo zs) (hNo zs 0) n) (newS n (wordsC zs n G D)):=by rw [hf];rfl
 have hla:f.la (hNo zs 0)=8+inZ G 8+lZ D (cntC zs n) (hNo zs 0):=by rw [hf];show 0+8+inZ G 8+_=_;rw [Nat.zero_add];rfl
 have hD:D=1∨D=3∨D=4:=by
  unfold rightB at hr
  simp only [Bool.and_eq_true,decide_eq_true_eq,List.mem_cons,List.not_mem_nil,or_false] at hr
  omega
 have hH:=hNo_of hn ho 0 (by omega)
 have pos:0<cntC zs n (hNo zs 0):=(cntH_pos _ _ _).2 ⟨0,by omega,rfl⟩
 have lm:lZ D (cntC zs n) (hNo zs 0)+inZ D (cntC zs n (hNo zs 0))≤lZ D (cntC zs n) 8:=lZ_mono D _ hH.2 pos
 have hw:(wordsC zs n G D).length=8+inZ G 8+lZ D (cntC zs n) 8:=List.length_replicate
 obtain ⟨e1,e2,e3,e4⟩:=st_set false false n1
 rw [←hs] at e1 e2 e4
 rw [←hf]
 clear hf
 have hd:(f.did L 0 0).ev=0:=by
  unfold FL.did
  rw [if_pos ⟨e3,e4⟩,show Int.toNat 0=0 from rfl,if_pos e2]
  unfold FL.acqD
  rw [if_pos hd0]
 refine ⟨?_,?_⟩
 ·show (f.s.fin 0 (f.did L 0 0).ev).stI 0=1
  rw [hd,fin_0]
  exact e1
 ·show ∃ K a o x:Int,_∧(f.mid L 0 0).ps=_
  unfold FL.mid
  rw [if_pos ⟨e3,e4⟩,show Int.toNat 0=0 from rfl,if_pos e2]
  unfold FL.acq
  rw [if_pos hd0]
  show ∃ K a o x:Int,_∧((f.ask 0).step (f.la (f.nd 0):Nat) (f.own 0:Nat) 0).ps=_
  have ha:f.ask 0=(newInn D (cntC zs n (hNo zs 0)) (newS n (wordsC zs n G D))).lock (0:Nat) (-1):=by
   unfold FL.ask FL.lk
   rw [hn0,hc0,hL,hp,newInn_on,newInn_s,if_pos (show (newSeat _ _ _).st 0=0 from rfl)]
   rfl
  rw [ha,hn0,hc0,hla]
  generalize cntC zs n (hNo zs 0)=m at*
  unfold newInn
  rcases hD with rfl|rfl|rfl
  ·rw [if_pos rfl]
   unfold inZ at lm
   rw [if_pos rfl] at lm
   exact Kf.inn_first m n _ _ pos (by rw [hw];omega)
  ·rw [if_neg (by decide),if_pos rfl]
   unfold inZ at lm
   rw [if_neg (by decide),if_pos rfl] at lm
   exact Kc.inn_first m n _ _ pos (by rw [hw];omega)
  ·rw [if_neg (by decide),if_neg (by decide)]
   unfold inZ at lm
   rw [if_neg (by decide),if_neg (by decide)] at lm
   exact Km.inn_first m n _ _ pos (by rw [hw];omega)
theorem NewA.first {n:Nat} {zs:List Int} {v sz pl B G D:Int} {a:Any} (h:NewA n zs v sz pl B G D a) (n1:1≤n) (n2:n≤64) (hn:zs.length=n) (ho:homesOK zs=true):
  ((a.lock 0 (-1)).step 0 0).s.stI 0=1∧cntI ((a.lock 0 (-1)).step 0 0).ps.ac 0=1∧cntI (a.lock 0 (-1)).ps.ac 0=0∧(a.lock 0 (-1)).ps.D=[]:=by
 have key:∀ {ws:List Int} {s':SS} {p':PSta},FirstA n ws s' p'→s'.stI 0=1∧cntI p'.ac 0=1:=λ⟨h1,K,a,o,x,h2,h3⟩=>⟨h1,by rw [h3];exact acc_new n1 h2.1 h2.2.1 h2.2.2.1 h2.2.2.2⟩
 have hz:=h.zero
 have r2:cntI (a.lock 0 (-1)).ps.ac 0=0:=by rw [Any.lock_ps,hz.2.1,cnt_rep]
 have r3:(a.lock 0 (-1)).ps.D=[]:=by rw [Any.lock_ps,hz.2.2]
 refine (λ(q:_∧_)=>⟨q.1,q.2,r2,r3⟩) ?_
 cases a with
 |tk L f=>obtain ⟨rfl,h1,h2,_⟩:=h;exact key (Kf.first_any n v n1 L h1)
 |sl L f=>obtain ⟨m,z,_,_,_,_,rfl,h1,h2,_⟩:=h;exact key (Ks.first_any n m z v n1 L h1)
 |cl L f=>obtain ⟨rfl,h1,h2,_⟩:=h;exact key (Kc.first_any n n1 L h2)
 |mc L f=>obtain ⟨rfl,h1,h2,_⟩:=h;exact key (Km.first_any n n1 L h2)
 |ab L f=>obtain ⟨ea,_,e1,_,rfl,h1,h2,_⟩:=h;exact key (Ka.first_any n ea n1 e1 L h2)
 |hi L f=>obtain ⟨rfl,h1,h2,_⟩:=h;exact key (Kh.first_any n zs n1 L h2)
 |co L f=>obtain ⟨rfl,h1,_,hr⟩:=h;exact key (first_co n zs G D B n1 n2 hn ho hr L)
theorem NewA.home {n:Nat} {zs:List Int} {v sz pl B G D:Int} {a:Any} (h:NewA n zs v sz pl B G D a):a.hs.getD 0 0=if a.kd=7 then 0 else zs.getD 0 0:=by
 cases a with
 |tk L f=>obtain ⟨_,_,_,e⟩:=h;show L.hs.getD 0 0=_;rw [e];rfl
 |sl L f=>obtain ⟨m,z,_,_,_,_,_,_,_,e⟩:=h;show L.hs.getD 0 0=_;rw [e];rfl
 |cl L f=>obtain ⟨_,_,_,e⟩:=h;show L.hs.getD 0 0=_;rw [e];rfl
 |mc L f=>obtain ⟨_,_,_,e⟩:=h;show L.hs.getD 0 0=_;rw [e];rfl
 |ab L f=>obtain ⟨ea,_,_,_,_,_,_,e⟩:=h;show L.hs.getD 0 0=_;rw [e];rfl
 |hi L f=>obtain ⟨_,_,_,e⟩:=h;show L.hs.getD 0 0=_;rw [e];rfl
 |co L f=>obtain ⟨_,_,e,_⟩:=h;show L.hs.getD 0 0=_;rw [e];rfl
end Go.Proofs.YteokghghpmppnaaGreat

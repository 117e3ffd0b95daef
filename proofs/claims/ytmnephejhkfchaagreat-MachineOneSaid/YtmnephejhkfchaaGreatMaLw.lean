import Derived.Test.YtmnephejhkfchaaGreatMaNew
namespace Go.Proofs.YtmnephejhkfchaaGreat
open Go.RowKit Go.BigFrame
set_option linter.unusedVariables false
set_option maxRecDepth 100000
theorem ZR {kd:Int} {n:Nat} {zs:List Int} {sz pl B G D:Int} (h:Ky kd n zs sz pl B G D=0):A8 zs=true/\1<=n/\n<=64:=by
 unfold Ky at h;split at h
 ·cases h
 ·split at h
  ·cases h
  ·next hx=>
   refine ⟨?_,by omega,by omega⟩;cases e:A8 zs with
   |false=>exact absurd (.inl e) hx
   |true=>rfl
theorem ZX {w:World} {s1:Option Addr} {EG:Nat} {z1:Nat->Nat->Int} (r1:Structs w [.i64,.i64,.i64] s1 EG z1):Pe w s1 EG z1:=by
 rcases r1.at (by decide) with e|⟨b2,o2,rfl,fx⟩
 ·exact .inl e
 ·exact .inr ⟨b2,o2,rfl,λi hi j hj=>(fx i hi j .i64 (by match j,hj with|0,_=>rfl|1,_=>rfl|2,_=>rfl)).1⟩
theorem Pe.old {w w':World} {so:Option Addr} {n:Nat} {z:Nat->Nat->Int} (h:Pe w so n z) (k:Wr Nil w w'):Pe w' so n z:=by
 rcases h with e|⟨b,o,e,hc⟩
 ·exact .inl e
 ·exact .inr ⟨b,o,e,λi hi j hj=>k.old (hc i hi j hj)⟩
end Go.Proofs.YtmnephejhkfchaaGreat

import Derived.OpenShut
import Derived.Test.YtnjlkhhcfiedbaaGreatDoorCel0
namespace Go.Proofs.YtnjlkhhcfiedbaaGreatDoor
open Go.RowKit
def IsRow (k:IntKind) (w:World) (a:Option Addr) (len cap:Nat) (zs:List Int):Prop :=
 (a=none∧len=0∧cap=0∧zs=[]) ∨
 ∃ x,a=some x∧len≤cap∧cap≤maxLen∧zs.length=cap∧(∀ i,i<zs.length→w.cell? (x.add i)=some (.int k (zs.getD i 0)))∧∀ n ∈ zs,(Lit.int k n).wf=true
theorem IsRow.nums {w:World} {a:Option Addr} {len cap:Nat} {zs:List Int} (h:IsRow .i64 w a len cap zs):Nums .i64 w a len (zs.take len)∧len≤cap∧cap≤9223372036854775807:=by
 rcases h with ⟨rfl,rfl,rfl,rfl⟩ | ⟨x,rfl,h1,h2,h3,h4,h5⟩
 ·exact⟨Nums.nil _ _ _,Nat.le_refl _,by omega⟩
 ·refine⟨⟨by rw[List.length_take,h3,Nat.min_eq_left h1],fun y hy=>?_,fun _=>⟨x,rfl,fun j y hj=>?_⟩⟩,h1,by simpa [maxLen] using h2⟩
  ·have:=bounds_i64 (h5 y (List.mem_of_mem_take hy))
   exact this
  ·rw[List.getElem?_take] at hj
   split at hj
   ·have hjl:j<zs.length:=(List.getElem?_eq_some_iff.1 hj).1
    rw[h4 j hjl,List.getD_eq_getElem?_getD,hj]
    rfl
   ·cases hj
end Go.Proofs.YtnjlkhhcfiedbaaGreatDoor

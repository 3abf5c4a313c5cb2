import Derived.ProofKit
import Derived.LaidMore
import Derived.OpenShut
import Derived.Stop.Joined
import Derived.Test.YtnjlkhhcfiedbaaGreatDoorRows
import Derived.Test.YtnjlkhhcfiedbaaGreatDoorCel9
namespace Go.Proofs.YtnjlkhhcfiedbaaGreatDoor
open Go.ChangeShapes Go.WideShapes Go.ChangeAt Go.RowKit
def tabs {H : Type} : List (String × DataW H) := [("math/bits.deBruijn32tab", Rows.laid_math_bits_deBruijn32tab), ("math/bits.deBruijn64tab", Rows.laid_math_bits_deBruijn64tab), ("internal/strconv.uint64pow10", Rows.laid_internal_strconv_uint64pow10)]
theorem g64 : Tryz.prog.globalNamed "math/bits.deBruijn64tab" = some 1 := by kernel_rfl
theorem t64:(Tryz.prog.globals[1]?).map (·.type)=some 196:=by kernel_rfl
theorem of_laid {W:World} (h:laidMetH Tryz.prog tabs W):Tab W∧1<W.heap.size:=by
 rw[MakeChecks.laidMetH_plain _ _ _ (by kernel_rfl)] at h
 obtain⟨ps,⟨g0,t0,cs0,f0,p0,q0,hg0,ht0,hv0,hd0,⟨g1,t1,cs1,f1,p1,q1,hg1,ht1,hv1,hd1,_,_⟩,_⟩,_,_⟩:=h
 obtain rfl:=Option.some.inj (g64.symm.trans hg1)
 obtain rfl:=Option.some.inj (t64.symm.trans ht1)
 obtain⟨xs,m1,rfl,hx1,hlen,hn3,hel⟩:=DataW.trod_array Tryz.underlying196 hd1
 have c3:Tryz.prog.cellsOf 5 = 1:=by kernel_rfl
 rw[Prod.mk.injEq] at hx1
 have hxs:DataW.agg (xs.map (·.1))=(Rows.laid_math_bits_deBruijn64tab:DataW Unit):=hx1.1.symm
 unfold Rows.laid_math_bits_deBruijn64tab at hxs
 injection hxs with hxs
 have key:∀ (i:Nat) (k:Int),i<64→(xs.map (·.1))[i]? = some (.lit (.int .u8 k))→W.cell? ⟨1,i,none⟩=some (.int .u8 k):=by
  intro i k hi hk
  have h0:=hel i hi
  rw[c3,Nat.mul_one] at h0
  obtain⟨x,hx⟩:∃ x,xs[i]? = some x:=⟨_,List.getElem?_eq_getElem (by omega)⟩
  rw[List.getElem?_map,hx] at hk
  rw[hx] at h0
  obtain⟨k',e1,e2,_⟩:=DataW.trod_int Tryz.underlying5 h0
  have hk':k'=k:=by rw[e2] at hk;simpa using hk
  subst hk'
  rw[World.var?_cell hg1 hv1 i,← Array.getElem?_toList]
  have h1:(List.take 1 (cs1.toList.drop i))[0]? = some (.int .u8 k'):=by rw[e1];rfl
  rw[List.getElem?_take,if_pos (by omega),List.getElem?_drop] at h1
  exact h1
 rw[hxs] at key
 have c0:=key 0 0 (by omega) rfl
 refine⟨⟨c0,key 1 1 (by omega) rfl,key 3 2 (by omega) rfl,key 7 3 (by omega) rfl⟩,?_⟩
 rcases Nat.lt_or_ge 1 W.heap.size with h1 | h1
 ·exact h1
 ·simp[World.cell?,Array.getElem?_eq_none h1] at c0
end Go.Proofs.YtnjlkhhcfiedbaaGreatDoor

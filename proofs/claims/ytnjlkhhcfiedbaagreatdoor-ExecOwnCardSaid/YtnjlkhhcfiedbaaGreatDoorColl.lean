import Derived.RangeFuncNested
import Derived.RangeFuncBound
import Derived.RangeFuncCalls
import Derived.RangeFuncLeaves
import Derived.RangeFuncBox
import Derived.Shelf.Abstract
import Derived.Shelf.RegionOpen
import Derived.OwnWalkIn
import Derived.TacticsInMore
import Derived.LoopNIn
import Derived.LoopIn
import Derived.Maps.AppendAt
import Derived.Shelf.Strconv.Itoa0
import Derived.Deep.RegionHeld
import Derived.IntWalk
import Derived.Test.YtnjlkhhcfiedbaaGreatDoorFactsLaw2
import Derived.Test.YtnjlkhhcfiedbaaGreatDoorCel0
import Derived.Test.YtnjlkhhcfiedbaaGreatDoorProg
import Derived.Test.YtnjlkhhcfiedbaaGreatDoorMake
import Derived.Test.YtnjlkhhcfiedbaaGreatDoorJoinS
namespace Go.Proofs.YtnjlkhhcfiedbaaGreatDoor
open Go.RowKit
def bytesV (xs:List Int):List Value:=xs.map (Value.int .u8)
theorem append_byte (wr:World) (B:Nat) (v:Value) (xs:List Int) (x:Int) (g:Nat) (hg:g=wr.heap.size) (h:wr.ownsRow B 5 1 v xs.length (bytesV xs)) (hn:xs.length≤1000000) (hB:B≤wr.heap.size) :
  ∃ v' w',(Builtin.append_ #[143,143] 143 #[v,.slice (some ⟨g,0,none⟩) 1 1]).run Tryz.prog (wr.alloc (.cells #[.int .u8 x] 5))=.ok v' w'∧w'.ownsRow B 5 1 v' (xs ++ [x]).length (bytesV (xs ++ [x]))∧Below B wr w':=by
 obtain⟨i0,hi,hz0,hz1,hz2⟩:=info_parts infoByte
 obtain⟨v',w',hrun,ho,hgr,_,_⟩:=run_append_own_at (P:=Tryz.prog) (wr.alloc (.cells #[.int .u8 x] 5)) B 143 143 5 i0 _ 1 1 Tryz.underlying143 hi hz0 hz1 hz2 rfl (by omega) v xs.length (bytesV xs) (h.alloc _)
  ⟨g,0,none⟩ 1 1 [.int .u8 x] rfl (fun j u hu=>by
   rw[add0,hg,show (wr.alloc (.cells #[.int .u8 x] 5)).cell? ⟨wr.heap.size,j,none⟩=#[.int .u8 x][j]? from cell_of_row _ _ _ _ 5 (0,0) (heap_alloc_new wr _)]
   simpa using hu)
  (by intro u hu;simp at hu;subst hu;rfl) (by simp[maxLen];omega) (by omega) (by simp;omega)
 have hb:=(Below.refl wr.heap.size wr).alloc (Nat.le_refl _) (.cells #[.int .u8 x] 5)
 exact⟨v',w',hrun,by rw[List.length_append];simpa [bytesV] using ho,(hb.mono hB).trans (below_grown hgr (h.alloc _) (by simp;omega))⟩
end Go.Proofs.YtnjlkhhcfiedbaaGreatDoor
namespace Go.Proofs.YtnjlkhhcfiedbaaGreatDoor
open Go.RowKit Go.Shelf
end Go.Proofs.YtnjlkhhcfiedbaaGreatDoor
namespace Go.Proofs.YtnjlkhhcfiedbaaGreatDoor
open Go.RowKit
end Go.Proofs.YtnjlkhhcfiedbaaGreatDoor
namespace Go.Proofs.YtnjlkhhcfiedbaaGreatDoor
open Go.RowKit Go.Shelf
end Go.Proofs.YtnjlkhhcfiedbaaGreatDoor
namespace Go.Proofs.YtnjlkhhcfiedbaaGreatDoor
open Go.RowKit
end Go.Proofs.YtnjlkhhcfiedbaaGreatDoor
namespace Go.Proofs.YtnjlkhhcfiedbaaGreatDoor
open Go.RowKit Go.Shelf
attribute [local go_sem] Oper.semAt_some
end Go.Proofs.YtnjlkhhcfiedbaaGreatDoor
namespace Go.Proofs.YtnjlkhhcfiedbaaGreatDoor
open Go.RowKit Go.Shelf
attribute [local go_sem] Oper.semAt_some
theorem wpListIn_append_eq {F:Fence} {n:Nat} {P:Program} {ops:Array Oper} {rest:List Oper} {o:Oper} {a:Act} {w:World} {Q:Exit→Act→World→Prop} (hgd:o.guard=none) (s x:Operand) (t:TypeId)
  (ho:o.op=Op.call { callee:=Callee.builtin Builtin.append,args:=#[s,x],argTypes:=#[t,t] }) (v y v':Value) (w':World) (hs:a.eval s=v) (hx:a.eval x=y)
  (hrun:(Builtin.append_ #[t,t] o.type #[v,y]).run P w=.ok v' w') (h:wpListIn F n P ops Q rest (a.put o.dst v') w'):wpListIn F n P ops Q (o :: rest) a w:=by
 refine wpListIn_plain hgd fun K hK'=>?_
 unfold Oper.wpIn
 refine⟨?_,?_⟩
 ·simp[Oper.about,ho,resolve,Target.leads,Sem.run_pure]
 ·rw[Oper.semAt_plain F _ _ (by rw[ho];intro c hc';cases hc')]
  simp[execOp,ho,resolve,invoke,builtin,hs,hx,hrun,Result.andThen]
  exact hK' _ _ h
end Go.Proofs.YtnjlkhhcfiedbaaGreatDoor

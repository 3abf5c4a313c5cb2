import Derived.Shelf.Abstract
import Derived.Test.YtnjlkhhcfiedbaaGreatDoorCel0
namespace Go.Proofs.YtnjlkhhcfiedbaaGreatDoor
open Go.RowKit Go.Shelf
attribute [local go_sem] Oper.semAt_some
set_option maxHeartbeats 400000 in
theorem lwithin12 (a n:Int) (w:World) (ha:inK .i64 a) (hn:1≤n) (hn2:n≤4611686018427387904) :
  Calls Tryz.prog 15 #[.int .i64 a,.int .i64 n] w fun e w'=>e=.returned (.int .i64 (a % n))∧w=w':=by
 obtain⟨ha1,ha2⟩:=ha
 by_cases h:0≤a
 ·have h1:=Int.emod_nonneg a (show n ≠ 0 by omega)
  go_enter Tryz.func15,Tryz.ntmps15
  go_wp2
  go_ret
  exact⟨rfl,rfl⟩
 ·have h1:=Int.emod_nonneg a (show n ≠ 0 by omega)
  have h2:=Int.emod_lt_of_pos a (show 0<n by omega)
  have h3:=Int.tmod_eq_emod (a:=a) (b:=n)
  have h4:a.tmod n=a % n∨a.tmod n=a % n - n:=by
   rw[h3]
   split
   ·simp
   ·right;omega
  by_cases h5:a.tmod n<0
  ·have e:a.tmod n+n=a % n:=by omega
   have h6:-n≤a.tmod n:=by omega
   have E:=Lib.hid e
   clear e h3 h4 h1 h2
   go_enter Tryz.func15,Tryz.ntmps15
   go_wp2
   go_ret
   exact⟨ret_int E.out,rfl⟩
  ·have e:a.tmod n=a % n:=by omega
   have E:=Lib.hid e
   clear e h3 h4 h1 h2
   go_enter Tryz.func15,Tryz.ntmps15
   go_wp2
   go_ret
   exact⟨ret_int E.out,rfl⟩

end Go.Proofs.YtnjlkhhcfiedbaaGreatDoor

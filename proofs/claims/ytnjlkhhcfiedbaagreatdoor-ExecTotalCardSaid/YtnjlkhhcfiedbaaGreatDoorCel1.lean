import Derived.Deep.CutRange
import Derived.Deep.DeepCutAuto
import Derived.Deep.CutBlock
import Derived.Deep.RegionHeld
import Derived.Test.YtnjlkhhcfiedbaaGreatDoorCel0
namespace Go.Proofs.YtnjlkhhcfiedbaaGreatDoor
open Go.RowKit
set_option maxRecDepth 100000 in
set_option maxHeartbeats 1000000 in
theorem clone_any (v:Value) (xs:List Int) (w:World) (hx:RI w v xs) (hm:xs.length≤1000000) :
  Calls Tryz.prog 82 #[v] w fun e w'=>∃ v',e=.returned v'∧OI w.heap.size w' v' xs∧Below w.heap.size w w':=by
 obtain⟨P,c,rfl,hn,hc1,hc2,h0⟩:=hx
 cases P with
 | none =>
  have hc0:c=0:=h0 rfl
  subst hc0
  have e:xs=[]:=List.eq_nil_of_length_eq_zero (by omega)
  subst e
  clear hn hc1 hc2 h0 hm
  have hq:(binOp .eql 22 (.slice none 0 0) (.slice none 0 0)).run Tryz.prog w=.ok (.bool true) w:=Go.Lib.run_eql_slice_nil w _ _ none 0 0 0 0 Tryz.underlying22
  go_enter Tryz.func82,Tryz.ntmps82
  go_wp2
  go_ret
  exact⟨_,rfl,OI.nil _ _,Below.refl _ _⟩
 | some ad =>
  obtain⟨i0,hi,hz0,hz1,hz2⟩:=info_parts infoI
  have hlit:(w.alloc (.cells #[] 3)).ownsRow w.heap.size 3 1 (.slice (some ⟨w.heap.size,0,none⟩) 0 0) 0 []:=World.ownsRow_made w #[] 0 (Nat.le_refl _) (by simp[maxLen]) (by simp)
  have hb:Below w.heap.size w (w.alloc (.cells #[] 3)):=(Below.refl _ _).alloc (Nat.le_refl _) _
  obtain⟨v',W',hrun,ho,hgr,_⟩:=run_append_own_at (P:=Tryz.prog) (w.alloc (.cells #[] 3)) w.heap.size 22 22 3 i0 _ 1 8 Tryz.underlying22 hi hz0 hz1 hz2 rfl (by omega) _ 0 [] hlit ad xs.length c (ints xs) (by rw[ints_len];omega)
   (fun j u hu=>(Keeps.of_below hb) _ _ (hn.cells_i rfl j u hu)) (ints_one _) (by simp[maxLen];omega) (by omega) hb.size
  rw[Nat.zero_add,List.nil_append] at ho
  have hok:OI w.heap.size W' v' xs:=⟨ho,hn.2.1⟩
  have hbw:Below w.heap.size w W':=hb.grown hgr hb.size fun j e=>(hlit.lt j e).1
  have Hok:=Lib.hid hok
  have Hbw:=Lib.hid hbw
  have Hrun:=Lib.hid hrun
  obtain⟨P',c',hv',_⟩:=own_form ho
  subst hv'
  have hq:(binOp .eql 22 (.slice (some ad) xs.length c) (.slice none 0 0)).run Tryz.prog w=.ok (.bool false) w:=Go.Lib.run_eql_slice_nil w _ _ (some ad) _ _ 0 0 Tryz.underlying22
  clear hn hc1 hc2 h0 hm i0 hi hz0 hz1 hz2 hlit hb hrun ho hgr hok hbw
  go_enter Tryz.func82,Tryz.ntmps82
  go_wp2_with (at_builtin;have _t:=Hrun;refine wpList_append_eq rfl (.tmp 5) (.tmp 6) 22 rfl _ _ _ _ rfl rfl Hrun.out ?_;clear _t Hrun)
  go_ret
  exact⟨_,rfl,Hok.out,Hbw.out⟩
set_option maxHeartbeats 1000000 in
theorem nan_any (x:Int) (w:World):Calls Tryz.prog 159 #[.int .i64 x] w fun e w'=>e=.returned (.bool false)∧w=w':=by
 go_enter Tryz.func159,Tryz.ntmps159
 go_wp2
 go_ret
 exact⟨rfl,rfl⟩
set_option maxHeartbeats 1000000 in
theorem cmp_any (x y:Int) (w:World):Calls Tryz.prog 132 #[.int .i64 x,.int .i64 y] w fun e w'=>e=.returned (.int .i64 (cmpI x y))∧w=w':=by
 have hx:=Lib.hid (nan_any x w)
 have hy:=Lib.hid (nan_any y w)
 unfold cmpI
 by_cases h1:x<y
 ·have d1:decide (x<y)=true:=by simpa using h1
  rw[if_pos h1]
  clear h1
  go_enter Tryz.func132,Tryz.ntmps132
  go_wp2_with fail
  refine hx.out.mono ?_
  rintro e w' ⟨rfl,rfl⟩
  go_wp2_with fail
  refine hy.out.mono ?_
  rintro e w' ⟨rfl,rfl⟩
  go_wp2
  go_ret
  exact⟨rfl,rfl⟩
 ·have d1:decide (x<y)=false:=by simpa using h1
  rw[if_neg h1]
  clear h1
  by_cases h2:y<x
  ·have d2:decide (y<x)=true:=by simpa using h2
   rw[if_pos h2]
   clear h2
   go_enter Tryz.func132,Tryz.ntmps132
   go_wp2_with fail
   refine hx.out.mono ?_
   rintro e w' ⟨rfl,rfl⟩
   go_wp2_with fail
   refine hy.out.mono ?_
   rintro e w' ⟨rfl,rfl⟩
   go_wp2
   go_ret
   exact⟨rfl,rfl⟩
  ·have d2:decide (y<x)=false:=by simpa using h2
   rw[if_neg h2]
   clear h2
   go_enter Tryz.func132,Tryz.ntmps132
   go_wp2_with fail
   refine hx.out.mono ?_
   rintro e w' ⟨rfl,rfl⟩
   go_wp2_with fail
   refine hy.out.mono ?_
   rintro e w' ⟨rfl,rfl⟩
   go_wp2
   go_ret
   exact⟨rfl,rfl⟩
set_option maxRecDepth 100000 in
set_option maxHeartbeats 2000000 in
theorem compare_any (P Q:Option Addr) (m1 c1 m2 c2:Nat) (xs ys:List Int) (w:World) (hx:Nums .i64 w P m1 xs) (hy:Nums .i64 w Q m2 ys) (h1:m1≤4611686018427387904) (h2:m2≤4611686018427387904) :
  Calls Tryz.prog 112 #[.slice P m1 c1,.slice Q m2 c2] w fun e w'=>e=.returned (.int .i64 (cmpL xs ys))∧w=w':=by
 have l1:=hx.1
 have l2:=hy.1
 have Hx:=Lib.hid hx
 have Hy:=Lib.hid hy
 have L1:=Lib.hid l1
 have L2:=Lib.hid l2
 clear hx hy l1 l2
 obtain⟨z,hz⟩:∃ z,z=cmpL xs ys:=⟨_,rfl⟩
 rw[← hz]
 have Hz:=Lib.hid hz
 clear hz
 go_enter Tryz.func112,Tryz.ntmps112
 go_wp2_with fail
 go_loop [11] (fun i=>∃ k:Nat,k≤m1∧k≤m2∧i=.int .i64 k∧cmpL xs ys=cmpL (xs.drop k) (ys.drop k)) (fun i=>m1 - (intOf i).toNat)
 case atStart=>exact⟨0,by omega,by omega,rfl,rfl⟩
 case round =>
  obtain⟨k,hk1,hk2,rfl,hr⟩:=hrel
  have Hr:=Lib.hid hr
  clear hr
  by_cases a1:k<m1
  ·by_cases a2:k<m2
   ·obtain⟨ad,x,rfl,hxk,hxi,hxc⟩:=Hx.out.at_ a1
    obtain⟨bd,y,rfl,hyk,hyi,hyc⟩:=Hy.out.at_ a2
    have hd:=cmpL_drop hxk hyk
    have i0:(0:Int)≤(k:Int):=by omega
    have i1:(k:Int)<(m1:Int):=by omega
    have i2:(k:Int)<(m2:Int):=by omega
    have d1:decide (k<m1)=true:=by simp;omega
    have d2:decide (m2≤k)=false:=by simp;omega
    have hc:=Lib.hid (cmp_any x y w)
    obtain⟨u,hu⟩:∃ u,u=cmpI x y:=⟨_,rfl⟩
    rw[← hu] at hd hc
    have Hd:=Lib.hid hd
    clear hxk hyk hxi hyi hd hu
    by_cases hu0:u=0
    ·subst hu0
     go_wp2_with fail
     refine hc.out.mono ?_
     rintro e w' ⟨rfl,rfl⟩
     go_wp2
     go_round
     case rel=>exact⟨k+1,by omega,by omega,by go_num,by rw[Hr.out,Hd.out];simp⟩
     case measure=>simp[intOf];omega
    ·have hne:(u != 0)=true:=by simpa using hu0
     have hfin:u=z:=by rw[Hz.out,Hr.out,Hd.out,if_neg hu0]
     have Hfin:=Lib.hid hfin
     clear hu0 hfin
     go_wp2_with fail
     refine hc.out.mono ?_
     rintro e w' ⟨rfl,rfl⟩
     go_wp2
     go_ret
     rw[Hfin.out]
     exact⟨rfl,rfl⟩
   ·obtain rfl:k=m2:=by omega
    obtain⟨ad,x,rfl,hxk,hxi,hxc⟩:=Hx.out.at_ a1
    have i0:(0:Int)≤(k:Int):=by omega
    have i1:(k:Int)<(m1:Int):=by omega
    have d1:decide (k<m1)=true:=by simp;omega
    have d2:decide (k≤k)=true:=by simp
    have hfin:z=1:=by
     rw[Hz.out,Hr.out,(show ys.drop k=[] from List.drop_eq_nil_of_le (by rw[L2.out];exact Nat.le_refl _)),List.drop_eq_getElem_cons (show k<xs.length by rw[L1.out];exact a1)]
     rfl
    have Hfin:=Lib.hid hfin
    clear hxk hxi hfin
    go_wp2
    go_ret
    rw[Hfin.out]
    exact⟨rfl,rfl⟩
  ·obtain rfl:k=m1:=by omega
   have d1:decide (k<k)=false:=by simp
   by_cases a2:k<m2
   ·have d2:decide (k<m2)=true:=by simp;omega
    have hfin:z=-1:=by
     rw[Hz.out,Hr.out,(show xs.drop k=[] from List.drop_eq_nil_of_le (by rw[L1.out];exact Nat.le_refl _)),List.drop_eq_getElem_cons (show k<ys.length by rw[L2.out];exact a2)]
     rfl
    have Hfin:=Lib.hid hfin
    clear hfin
    go_wp2
    go_ret
    rw[Hfin.out]
    exact⟨rfl,rfl⟩
   ·have d2:decide (k<m2)=false:=by simp;omega
    have hfin:z=0:=by
     rw[Hz.out,Hr.out,(show xs.drop k=[] from List.drop_eq_nil_of_le (by rw[L1.out];exact Nat.le_refl _)),(show ys.drop k=[] from List.drop_eq_nil_of_le (by rw[L2.out];omega))]
     rfl
    have Hfin:=Lib.hid hfin
    clear hfin
    go_wp2
    go_ret
    rw[Hfin.out]
    exact⟨rfl,rfl⟩
set_option maxHeartbeats 1000000 in
theorem less_any (v u:Value) (xs ys:List Int) (w:World) (hx:RI w v xs) (hy:RI w u ys) (h1:xs.length≤1000000) (h2:ys.length≤1000000) :
  Calls Tryz.prog 88 #[v,u] w fun e w'=>e=.returned (.int .i64 (cmpL xs ys))∧w=w':=by
 obtain⟨P,c,rfl,hn,_⟩:=hx
 obtain⟨Q,d,rfl,hm,_⟩:=hy
 have h:=Lib.hid (compare_any P Q _ c _ d xs ys w hn hm (by omega) (by omega))
 clear hn hm
 go_enter Tryz.func88,Tryz.ntmps88
 go_wp2_with fail
 refine h.out.mono ?_
 rintro e w' ⟨rfl,rfl⟩
 go_wp2
 go_ret
 exact⟨rfl,rfl⟩
end Go.Proofs.YtnjlkhhcfiedbaaGreatDoor

import Derived.IntWalk
import Derived.Test.YtnjlkhhcfiedbaaGreatDoorAliP
import Derived.Test.YtnjlkhhcfiedbaaGreatDoorSl
import Derived.Test.YtnjlkhhcfiedbaaGreatDoorRfacts
import Derived.Test.YtnjlkhhcfiedbaaGreatDoorMake
import Derived.Test.YtnjlkhhcfiedbaaGreatDoorRegP
import Derived.Test.YtnjlkhhcfiedbaaGreatDoorGood5
import Derived.Test.YtnjlkhhcfiedbaaGreatDoorExC
namespace Go.Proofs.YtnjlkhhcfiedbaaGreatDoor
open Go.RowKit Go.Shelf
attribute [local go_sem] Oper.semAt_some
set_option maxHeartbeats 1000000 in
theorem hdLen_any (h n c:Nat) (P:Option Addr) (F:Value) (w:World) (o:Own 181 w h [.slice P n c,F]) :
  Calls Tryz.prog 118 #[.pointer (some ⟨h,0,none⟩)] w fun e w'=>e=.returned (.int .i64 (n:Int))∧w=w':=by
 have c0:=o.cell (i:=0) rfl
 go_enter Tryz.func118,Tryz.ntmps118
 go_wp2
 go_ret
 exact⟨rfl,rfl⟩
set_option maxRecDepth 100000 in
set_option maxHeartbeats 2000000 in
theorem hdLeast_any (h g n c m q:Nat) (A:Addr) (F:Value) (vk vs vn vm:Value) (x:Cel) (w:World) (o:Own 181 w h [.slice (some ⟨g,0,none⟩) n c,F]) (hn:0<n) (hg:w.cell? ⟨g,0,none⟩=some (.slice (some A) m q)) (hm:0<m)
  (a0:w.cell? A=some vk) (a1:w.cell? ⟨A.block,A.off+1,none⟩=some (.int .i64 x.cnt)) (a2:w.cell? ⟨A.block,A.off+2,none⟩=some vs) (a3:w.cell? ⟨A.block,A.off+3,none⟩=some vn) (a4:w.cell? ⟨A.block,A.off+4,none⟩=some vm) (hx:CR w vk vs vn vm x) :
  Calls Tryz.prog 120 #[.pointer (some ⟨h,0,none⟩)] w fun e w'=>e=.returned (.agg #[vk,.int .i64 x.cnt,vs,vn,vm])∧Below w.heap.size w w':=by
 have c0:=o.cell (i:=0) rfl
 obtain⟨⟨Pk,ck,rfl,-⟩,⟨Ps,cs,rfl,-⟩,⟨Pn,cn,rfl,-⟩,⟨Pm,cm,rfl,-⟩⟩:=hx
 obtain⟨lk,hlk⟩:∃ z,z=x.key.length:=⟨_,rfl⟩
 obtain⟨ls,hls⟩:∃ z,z=x.sum.length:=⟨_,rfl⟩
 obtain⟨ln,hln⟩:∃ z,z=x.mn.length:=⟨_,rfl⟩
 obtain⟨lm,hlm⟩:∃ z,z=x.mx.length:=⟨_,rfl⟩
 obtain⟨xc,hxc⟩:∃ z,z=x.cnt:=⟨_,rfl⟩
 rw[← hlk] at a0 ⊢
 rw[← hxc] at a1 ⊢
 rw[← hls] at a2 ⊢
 rw[← hln] at a3 ⊢
 rw[← hlm] at a4 ⊢
 clear hlk hls hln hlm hxc
 go_enter Tryz.func120,Tryz.ntmps120
 go_upto_region 1 with (fail)
 obtain⟨Z,hZ⟩:∃ Z,Z=w.alloc (.cells #[.slice none 0 0,.int .i64 0,.slice none 0 0,.slice none 0 0,.slice none 0 0] 46):=⟨_,rfl⟩
 have oZ:Own 46 Z w.heap.size [.slice none 0 0,.int .i64 0,.slice none 0 0,.slice none 0 0,.slice none 0 0]:=by rw[hZ];exact heap_alloc_new w _
 have bZ:Below w.heap.size w Z:=by rw[hZ];exact (Below.refl _ _).alloc (Nat.le_refl _) _
 rw[← hZ]
 have kZ:=Keeps.of_below bZ
 have c0':=kZ _ _ c0
 have hg':=kZ _ _ hg
 have b0:=kZ _ _ a0
 have b1:=kZ _ _ a1
 have b2:=kZ _ _ a2
 have b3:=kZ _ _ a3
 have b4:=kZ _ _ a4
 obtain⟨f0,f1,f2,f3,f4⟩:=Own.bx oZ
 have z0:=oZ.frozen 0
 have z1:=oZ.frozen 1
 have z2:=oZ.frozen 2
 have z3:=oZ.frozen 3
 have z4:=oZ.frozen 4
 have o2:=((((oZ.set_ 0 (.slice Pk lk ck)).set_ 1 (.int .i64 xc)).set_ 2 (.slice Ps ls cs)).set_ 3 (.slice Pn ln cn)).set_ 4 (.slice Pm lm cm)
 have R0:=Lib.hid (o2.cell (i:=0) rfl)
 have R1:=Lib.hid (o2.cell (i:=1) rfl)
 have R2:=Lib.hid (o2.cell (i:=2) rfl)
 have R3:=Lib.hid (o2.cell (i:=3) rfl)
 have R4:=Lib.hid (o2.cell (i:=4) rfl)
 have HB:=Lib.hid (((((bZ.setCell (p:=⟨w.heap.size,0,none⟩) (Nat.le_refl _) (.slice Pk lk ck)).setCell (p:=⟨w.heap.size,1,none⟩) (Nat.le_refl _) (.int .i64 xc)).setCell (p:=⟨w.heap.size,2,none⟩) (Nat.le_refl _) (.slice Ps ls cs)).setCell (p:=⟨w.heap.size,3,none⟩) (Nat.le_refl _) (.slice Pn ln cn)).setCell (p:=⟨w.heap.size,4,none⟩) (Nat.le_refl _) (.slice Pm lm cm))
 clear hZ oZ bZ kZ o2 c0 hg a0 a1 a2 a3 a4
 go_wp2
 have r0:=R0.out
 have r1:=R1.out
 have r2:=R2.out
 have r3:=R3.out
 have r4:=R4.out
 exact bodyPost_ret (v:=.agg #[.slice Pk lk ck,.int .i64 xc,.slice Ps ls cs,.slice Pn ln cn,.slice Pm lm cm]) (by simp[results,Tryz.results120,go_sem,r0,r1,r2,r3,r4]) rfl ⟨rfl,HB.out⟩
end Go.Proofs.YtnjlkhhcfiedbaaGreatDoor

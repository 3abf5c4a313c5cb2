import Derived.Test.YtnjlkhhcfiedbaaGreatDoorSl
import Derived.Test.YtnjlkhhcfiedbaaGreatDoorCelg
namespace Go.Proofs.YtnjlkhhcfiedbaaGreatDoor
open Go.RowKit
theorem pair_cells (W:World) (b:Nat) (x y:Cel) (u v:V5) (hu:Reads W u x) (hv:Reads W v y) (h:W.heap[b]? = some (.cells #[u.a,u.b,u.c,u.d,u.e,v.a,v.b,v.c,v.d,v.e] 46 (0,0))):CellsR W ⟨b,0,none⟩ [x,y]:=by
 refine cells_of_vals (vs:=[u,v]) ⟨rfl,fun i p z hp hz=>?_⟩ fun j q hq=>?_
 ·match i with
  | 0=>simp at hp hz;subst hp hz;exact hu
  | 1=>simp at hp hz;subst hp hz;exact hv
  | i+2=>simp at hp
 ·rw[add0,cell_of_row W b j _ 46 (0,0) h]
  simpa [flatV,V5.l] using hq
set_option maxRecDepth 100000 in
set_option maxHeartbeats 2000000 in
theorem join_any (k s n m k' s' n' m':Value) (x y:Cel) (me:Nat) (w:World) (hx:CR w k s n m x) (hy:CR w k' s' n' m' y) (hxy:x.key=y.key) (ex:EvenC me x) (ey:EvenC me y) (hk:x.key.length≤1000000) (hm:me≤1000000) (ix:inK .i64 x.cnt) (iy:inK .i64 y.cnt) :
  Calls Tryz.prog 62 #[.agg #[k,.int .i64 x.cnt,s,n,m],.agg #[k',.int .i64 y.cnt,s',n',m']] w fun e w'=>∃ k s n m,e=.returned (.agg #[k,.int .i64 (join2 x y).cnt,s,n,m])∧CO w.heap.size w' k s n m (join2 x y)∧Below w.heap.size w w':=by
 obtain⟨Pk,ck,f1,-⟩:=hx.key
 obtain⟨Ps,cs,f2,-⟩:=hx.sum
 obtain⟨Pn,cn,f3,-⟩:=hx.mn
 obtain⟨Pm,cm,f4,-⟩:=hx.mx
 obtain⟨Qk,dk,f5,-⟩:=hy.key
 obtain⟨Qs,ds,f6,-⟩:=hy.sum
 obtain⟨Qn,dn,f7,-⟩:=hy.mn
 obtain⟨Qm,dm,f8,-⟩:=hy.mx
 rw[ex.1] at f2
 rw[ex.2.1] at f3
 rw[ex.2.2] at f4
 rw[← hxy] at f5
 rw[ey.1] at f6
 rw[ey.2.1] at f7
 rw[ey.2.2] at f8
 subst f1 f2 f3 f4 f5 f6 f7 f8
 have Ux:Hid (∀ W,Keeps w W→Reads W ⟨.slice Pk x.key.length ck,.int .i64 x.cnt,.slice Ps me cs,.slice Pn me cn,.slice Pm me cm⟩ x):=Lib.hid fun W hW=>⟨rfl,hx.keep hW,ix⟩
 have Uy:Hid (∀ W,Keeps w W→Reads W ⟨.slice Qk x.key.length dk,.int .i64 y.cnt,.slice Qs me ds,.slice Qn me dn,.slice Qm me dm⟩ y):=Lib.hid fun W hW=>⟨rfl,hy.keep hW,iy⟩
 have HL:Hid (∀ W,Keeps w W→Calls Tryz.prog 88 #[.slice Pk x.key.length ck,.slice Qk x.key.length dk] W fun e w'=>e=.returned (.int .i64 0)∧W=w'):=Lib.hid fun W hW=>by
  have h:=less_any _ _ x.key y.key W (hx.key.keep hW) (hy.key.keep hW) hk (hxy ▸ hk)
  rwa [← hxy,cmpL_self] at h
 have Hev:Hid (∀ z ∈ [x,y],EvenC me z):=Lib.hid fun z hz=>by
  simp at hz
  rcases hz with rfl | rfl
  ·exact ex
  ·exact ey
 have hb:Below w.heap.size w (((w.alloc (.cells #[.slice Pk x.key.length ck,.int .i64 x.cnt,.slice Ps me cs,.slice Pn me cn,.slice Pm me cm] 46)).alloc (.cells #[.slice Qk x.key.length dk,.int .i64 y.cnt,.slice Qs me ds,.slice Qn me dn,.slice Qm me dm] 46)).alloc (.cells #[.slice none 0 0,.int .i64 0,.slice none 0 0,.slice none 0 0,.slice none 0 0] 46)):=(((Below.refl _ w).alloc (Nat.le_refl _) _).alloc (by simp) _).alloc (by simp;omega) _
 have o1:Own 46 (((w.alloc (.cells #[.slice Pk x.key.length ck,.int .i64 x.cnt,.slice Ps me cs,.slice Pn me cn,.slice Pm me cm] 46)).alloc (.cells #[.slice Qk x.key.length dk,.int .i64 y.cnt,.slice Qs me ds,.slice Qn me dn,.slice Qm me dm] 46)).alloc (.cells #[.slice none 0 0,.int .i64 0,.slice none 0 0,.slice none 0 0,.slice none 0 0] 46)) w.heap.size [.slice Pk x.key.length ck,.int .i64 x.cnt,.slice Ps me cs,.slice Pn me cn,.slice Pm me cm]:=((show Own 46 (w.alloc (.cells #[.slice Pk x.key.length ck,.int .i64 x.cnt,.slice Ps me cs,.slice Pn me cn,.slice Pm me cm] 46)) w.heap.size [.slice Pk x.key.length ck,.int .i64 x.cnt,.slice Ps me cs,.slice Pn me cn,.slice Pm me cm] from heap_alloc_new w _).alloc _).alloc _
 have o2:Own 46 (((w.alloc (.cells #[.slice Pk x.key.length ck,.int .i64 x.cnt,.slice Ps me cs,.slice Pn me cn,.slice Pm me cm] 46)).alloc (.cells #[.slice Qk x.key.length dk,.int .i64 y.cnt,.slice Qs me ds,.slice Qn me dn,.slice Qm me dm] 46)).alloc (.cells #[.slice none 0 0,.int .i64 0,.slice none 0 0,.slice none 0 0,.slice none 0 0] 46)) (w.heap.size+1) [.slice Qk x.key.length dk,.int .i64 y.cnt,.slice Qs me ds,.slice Qn me dn,.slice Qm me dm]:=by
  have h:=heap_alloc_new (w.alloc (.cells #[.slice Pk x.key.length ck,.int .i64 x.cnt,.slice Ps me cs,.slice Pn me cn,.slice Pm me cm] 46)) (.cells #[.slice Qk x.key.length dk,.int .i64 y.cnt,.slice Qs me ds,.slice Qn me dn,.slice Qm me dm] 46)
  rw[show (w.alloc (.cells #[.slice Pk x.key.length ck,.int .i64 x.cnt,.slice Ps me cs,.slice Pn me cn,.slice Pm me cm] 46)).heap.size=w.heap.size+1 from by simp] at h
  exact Own.alloc (show Own 46 ((w.alloc (.cells #[.slice Pk x.key.length ck,.int .i64 x.cnt,.slice Ps me cs,.slice Pn me cn,.slice Pm me cm] 46)).alloc (.cells #[.slice Qk x.key.length dk,.int .i64 y.cnt,.slice Qs me ds,.slice Qn me dn,.slice Qm me dm] 46)) (w.heap.size+1) [.slice Qk x.key.length dk,.int .i64 y.cnt,.slice Qs me ds,.slice Qn me dn,.slice Qm me dm] from h) _
 have o3:Own 46 (((w.alloc (.cells #[.slice Pk x.key.length ck,.int .i64 x.cnt,.slice Ps me cs,.slice Pn me cn,.slice Pm me cm] 46)).alloc (.cells #[.slice Qk x.key.length dk,.int .i64 y.cnt,.slice Qs me ds,.slice Qn me dn,.slice Qm me dm] 46)).alloc (.cells #[.slice none 0 0,.int .i64 0,.slice none 0 0,.slice none 0 0,.slice none 0 0] 46)) (w.heap.size+2) [.slice none 0 0,.int .i64 0,.slice none 0 0,.slice none 0 0,.slice none 0 0]:=by
  have h:=heap_alloc_new ((w.alloc (.cells #[.slice Pk x.key.length ck,.int .i64 x.cnt,.slice Ps me cs,.slice Pn me cn,.slice Pm me cm] 46)).alloc (.cells #[.slice Qk x.key.length dk,.int .i64 y.cnt,.slice Qs me ds,.slice Qn me dn,.slice Qm me dm] 46)) (.cells #[.slice none 0 0,.int .i64 0,.slice none 0 0,.slice none 0 0,.slice none 0 0] 46)
  rw[show ((w.alloc (.cells #[.slice Pk x.key.length ck,.int .i64 x.cnt,.slice Ps me cs,.slice Pn me cn,.slice Pm me cm] 46)).alloc (.cells #[.slice Qk x.key.length dk,.int .i64 y.cnt,.slice Qs me ds,.slice Qn me dn,.slice Qm me dm] 46)).heap.size=w.heap.size+2 from by simp] at h
  exact h
 have HB:=Lib.hid hb
 have O1:=Lib.hid o1
 have O2:=Lib.hid o2
 have O3:=Lib.hid o3
 have Hk:=Lib.hid hk
 have Hex:=Lib.hid ex
 clear hb o1 o2 o3 hx hy hxy ey hk ex ix iy
 go_enter Tryz.func62,Tryz.ntmps62
 go_wp2_with fail
 refine (HL.out _ (Keeps.of_below HB.out)).mono ?_
 rintro e w1 ⟨rfl,rfl⟩
 generalize (((w.alloc (.cells #[.slice Pk x.key.length ck,.int .i64 x.cnt,.slice Ps me cs,.slice Pn me cn,.slice Pm me cm] 46)).alloc (.cells #[.slice Qk x.key.length dk,.int .i64 y.cnt,.slice Qs me ds,.slice Qn me dn,.slice Qm me dm] 46)).alloc (.cells #[.slice none 0 0,.int .i64 0,.slice none 0 0,.slice none 0 0,.slice none 0 0] 46))=W at HB O1 O2 O3 ⊢
 have p0:=O1.out.cell (i:=0) rfl
 have p1:=O1.out.cell (i:=1) rfl
 have p2:=O1.out.cell (i:=2) rfl
 have p3:=O1.out.cell (i:=3) rfl
 have p4:=O1.out.cell (i:=4) rfl
 have q0:=O2.out.cell (i:=0) rfl
 have q1:=O2.out.cell (i:=1) rfl
 have q2:=O2.out.cell (i:=2) rfl
 have q3:=O2.out.cell (i:=3) rfl
 have q4:=O2.out.cell (i:=4) rfl
 go_wp2_with fail
 have kw:=Keeps.of_below HB.out
 have hrow:=pair_cells (W.alloc (.cells #[.slice Pk x.key.length ck,.int .i64 x.cnt,.slice Ps me cs,.slice Pn me cn,.slice Pm me cm,.slice Qk x.key.length dk,.int .i64 y.cnt,.slice Qs me ds,.slice Qn me dn,.slice Qm me dm] 46)) W.heap.size x y _ _ (Ux.out _ (kw.alloc _)) (Uy.out _ (kw.alloc _)) (heap_alloc_new W _)
 refine (even_any ⟨W.heap.size,0,none⟩ 2 [x,y] me _ hrow Hev.out hm (by simp)).mono ?_
 rintro e w2 ⟨rfl,hb2⟩
 have D2:=Lib.hid (show Below W.heap.size W w2 from ((Below.refl _ W).alloc (Nat.le_refl _) _).trans (hb2.mono (by simp)))
 have kd:=Keeps.of_below D2.out
 replace p0:=kd _ _ p0
 replace p1:=kd _ _ p1
 replace p2:=kd _ _ p2
 replace p3:=kd _ _ p3
 replace p4:=kd _ _ p4
 replace q0:=kd _ _ q0
 replace q1:=kd _ _ q1
 replace q2:=kd _ _ q2
 replace q3:=kd _ _ q3
 replace q4:=kd _ _ q4
 clear hrow hb2
 go_wp2_with fail
 have kw2:=kw.trans kd
 have hrow:=pair_cells (w2.alloc (.cells #[.slice Pk x.key.length ck,.int .i64 x.cnt,.slice Ps me cs,.slice Pn me cn,.slice Pm me cm,.slice Qk x.key.length dk,.int .i64 y.cnt,.slice Qs me ds,.slice Qn me dn,.slice Qm me dm] 46)) w2.heap.size x y _ _ (Ux.out _ (kw2.alloc _)) (Uy.out _ (kw2.alloc _)) (heap_alloc_new w2 _)
 have D3:=Lib.hid (show Below W.heap.size W (w2.alloc (.cells #[.slice Pk x.key.length ck,.int .i64 x.cnt,.slice Ps me cs,.slice Pn me cn,.slice Pm me cm,.slice Qk x.key.length dk,.int .i64 y.cnt,.slice Qs me ds,.slice Qn me dn,.slice Qm me dm] 46)) from D2.out.alloc D2.out.size _)
 refine (joined_any ⟨w2.heap.size,0,none⟩ 2 1 x [y] me _ hrow Hev.out Hk.out hm rfl (by omega) (by omega) (by simp[maxLen])).mono ?_
 rintro e w4 ⟨k,s,n,m,rfl,hco,hap,hb4⟩
 replace hco:CO _ w4 k s n m (join2 x y):=hco
 have e9:(joinAll [x,y]).cnt=(join2 x y).cnt:=rfl
 rw[e9]
 clear e9
 generalize w2.alloc (.cells #[.slice Pk x.key.length ck,.int .i64 x.cnt,.slice Ps me cs,.slice Pn me cn,.slice Pm me cm,.slice Qk x.key.length dk,.int .i64 y.cnt,.slice Qs me ds,.slice Qn me dn,.slice Qm me dm] 46)=W3 at D3 hco hb4
 have D4:=Lib.hid (D3.out.trans (hb4.mono D3.out.size))
 have B4:=Lib.hid (HB.out.trans (D4.out.mono HB.out.size))
 have hco2:CO w.heap.size w4 k s n m (join2 x y):=hco.mono (by have:=HB.out.size;have:=D3.out.size;omega)
 have o4:=O3.out.below D4.out O3.out.lt
 obtain⟨P1,c1,e1,-⟩:=hco2.key.form
 obtain⟨P2,c2,e2,-⟩:=hco2.sum.form
 obtain⟨P3,c3,e3,-⟩:=hco2.mn.form
 obtain⟨P4,c4,e4,-⟩:=hco2.mx.form
 subst e1 e2 e3 e4
 obtain⟨J,hJ⟩:∃ J,J=join2 x y:=⟨_,rfl⟩
 rw[← hJ] at hco2 ⊢
 have HeJ:=Lib.hid hJ
 clear hJ
 clear hco hap hb4 hrow
 have z0:=o4.cell (i:=0) rfl
 have z1:=o4.cell (i:=1) rfl
 have z2:=o4.cell (i:=2) rfl
 have z3:=o4.cell (i:=3) rfl
 have z4:=o4.cell (i:=4) rfl
 have zf:=o4.frozen
 obtain⟨W5,hW5⟩:∃ W5,W5=put5 w4 (w.heap.size+2) (.slice P1 J.key.length c1) (.int .i64 J.cnt) (.slice P2 J.sum.length c2) (.slice P3 J.mn.length c3) (.slice P4 J.mx.length c4):=⟨_,rfl⟩
 have o5:Own 46 W5 (w.heap.size+2) [.slice P1 J.key.length c1,.int .i64 J.cnt,.slice P2 J.sum.length c2,.slice P3 J.mn.length c3,.slice P4 J.mx.length c4]:=hW5 ▸ put5_own o4
 have on5:Only (w.heap.size+2) w4 W5:=hW5 ▸ put5_only
 have hfin:CO w.heap.size W5 (.slice P1 J.key.length c1) (.slice P2 J.sum.length c2) (.slice P3 J.mn.length c3) (.slice P4 J.mx.length c4) J:=hco2.only on5 o4 (by decide)
 have hbf:Below w.heap.size w W5:=B4.out.trans (on5.below (by omega) B4.out.size)
 have HW5:=Lib.hid hW5
 have Hfin:=Lib.hid hfin
 have Hbf:=Lib.hid hbf
 have HO5:=Lib.hid o5
 clear hW5 o5 on5 hfin hbf hco2 o4 p0 p1 p2 p3 p4 q0 q1 q2 q3 q4
 go_wp2
 have e5:=HW5.out
 unfold put5 at e5
 rw[← e5]
 clear e5
 have s0:=HO5.out.cell (i:=0) rfl
 have s1:=HO5.out.cell (i:=1) rfl
 have s2:=HO5.out.cell (i:=2) rfl
 have s3:=HO5.out.cell (i:=3) rfl
 have s4:=HO5.out.cell (i:=4) rfl
 have hJ:=HeJ.out
 subst hJ
 exact bodyPost_ret (v:=.agg #[.slice P1 (join2 x y).key.length c1,.int .i64 (join2 x y).cnt,.slice P2 (join2 x y).sum.length c2,.slice P3 (join2 x y).mn.length c3,.slice P4 (join2 x y).mx.length c4]) (by simp[results,Tryz.results62,go_sem,s0,s1,s2,s3,s4]) rfl ⟨_,_,_,_,rfl,Hfin.out,Hbf.out⟩
end Go.Proofs.YtnjlkhhcfiedbaaGreatDoor
namespace Go.Proofs.YtnjlkhhcfiedbaaGreatDoor
open Go.RowKit
theorem plc_sub (frm tow:Int) (h1:0≤frm) (h2:frm≤15) (t1:0≤tow) (t2:tow≤15) (hs:bits .andNot .i64 tow frm=0):∀ d ∈ dimsL tow,0≤plc frm d∧plc frm d<ones frm:=by
 rcases (by omega:frm=0∨frm=1∨frm=2∨frm=3∨frm=4∨frm=5∨frm=6∨frm=7∨frm=8∨frm=9∨frm=10∨frm=11∨frm=12∨frm=13∨frm=14∨frm=15) with rfl | rfl | rfl | rfl | rfl | rfl | rfl | rfl | rfl | rfl | rfl | rfl | rfl | rfl | rfl | rfl
 all_goals
  rcases (by omega:tow=0∨tow=1∨tow=2∨tow=3∨tow=4∨tow=5∨tow=6∨tow=7∨tow=8∨tow=9∨tow=10∨tow=11∨tow=12∨tow=13∨tow=14∨tow=15) with rfl | rfl | rfl | rfl | rfl | rfl | rfl | rfl | rfl | rfl | rfl | rfl | rfl | rfl | rfl | rfl
 all_goals first
  | (exfalso;revert hs;decide +kernel)
  | (clear hs;decide +kernel)
set_option maxRecDepth 100000 in
set_option maxHeartbeats 2000000 in
theorem narrow_any (k s n m:Value) (x:Cel) (frm tow:Int) (lk:Nat) (w:World) (hlk:lk=x.key.length) (hx:CR w k s n m x) (g1:0≤frm) (g2:frm≤15) (t1:0≤tow) (t2:tow≤15) (hsub:bits .andNot .i64 tow frm=0) (hones:ones frm=(lk:Int)) (hl:x.sum.length≤1000000) (hl2:x.mn.length≤1000000) (hl3:x.mx.length≤1000000) (hT:Tab w) (hw1:1<w.heap.size) :
  Calls Tryz.prog 39 #[.agg #[k,.int .i64 x.cnt,s,n,m],.int .i64 frm,.int .i64 tow] w fun e w'=>∃ k s n m,e=.returned (.agg #[k,.int .i64 x.cnt,s,n,m])∧CO w.heap.size w' k s n m ⟨(dimsL tow).map (pick x.key frm),x.cnt,x.sum,x.mn,x.mx⟩∧Below w.heap.size w w':=by
 have hin:=plc_sub frm tow g1 g2 t1 t2 hsub
 rw[hones] at hin
 have hlk4:lk≤4:=by unfold ones at hones;omega
 obtain⟨Pk,ck,f1,hnk,-⟩:=hx.key
 obtain⟨Ps,cs,f2,-⟩:=hx.sum
 obtain⟨Pn,cn,f3,-⟩:=hx.mn
 obtain⟨Pm,cm,f4,-⟩:=hx.mx
 rw[← hlk] at f1 hnk
 subst f1 f2 f3 f4
 have hok:IntsOk ((dimsL tow).map (pick x.key frm)):=fun y hy=>by
  simp only[List.mem_map] at hy
  obtain⟨q,_,rfl⟩:=hy
  exact pick_ok hnk.2.1 _ _
 have Hok:=Lib.hid hok
 have Hcl:Hid (∀ W,Keeps w W→_):=Lib.hid fun W hW=>cloned_any _ _ _ _ x W (hx.keep hW) (by omega) hl hl2 hl3
 have Hval:Hid (∀ W,Keeps w W→1<W.heap.size→_):=Lib.hid fun W hW hsz=>values_in Pk lk ck x.key frm tow W (hnk.keep hW) (by omega) (hT.keep hW) hsz g1 g2 t1 t2 hin
 have Hon:Hid (∀ W,_):=Lib.hid fun W=>ones_any frm W g1 g2
 rw[hones] at Hon
 have u1:IntKind.u64.wrap frm=frm:=u64_id frm g1 g2
 have d1:decide (frm<0)=false:=by simp;omega
 have b1:((lk:Int) != (lk:Int))=false:=by simp
 have b2:(bits .andNot .i64 tow frm != 0)=false:=by rw[hsub];rfl
 have o1:=(show Own 46 (w.alloc (.cells #[.slice Pk lk ck,.int .i64 x.cnt,.slice Ps x.sum.length cs,.slice Pn x.mn.length cn,.slice Pm x.mx.length cm] 46)) w.heap.size [.slice Pk lk ck,.int .i64 x.cnt,.slice Ps x.sum.length cs,.slice Pn x.mn.length cn,.slice Pm x.mx.length cm] from heap_alloc_new w _).alloc (.cells #[.slice none 0 0,.int .i64 0,.slice none 0 0,.slice none 0 0,.slice none 0 0] 46)
 have o2:Own 46 ((w.alloc (.cells #[.slice Pk lk ck,.int .i64 x.cnt,.slice Ps x.sum.length cs,.slice Pn x.mn.length cn,.slice Pm x.mx.length cm] 46)).alloc (.cells #[.slice none 0 0,.int .i64 0,.slice none 0 0,.slice none 0 0,.slice none 0 0] 46)) (w.heap.size+1) [.slice none 0 0,.int .i64 0,.slice none 0 0,.slice none 0 0,.slice none 0 0]:=by
  have h:=heap_alloc_new (w.alloc (.cells #[.slice Pk lk ck,.int .i64 x.cnt,.slice Ps x.sum.length cs,.slice Pn x.mn.length cn,.slice Pm x.mx.length cm] 46)) (.cells #[.slice none 0 0,.int .i64 0,.slice none 0 0,.slice none 0 0,.slice none 0 0] 46)
  rw[show (w.alloc (.cells #[.slice Pk lk ck,.int .i64 x.cnt,.slice Ps x.sum.length cs,.slice Pn x.mn.length cn,.slice Pm x.mx.length cm] 46)).heap.size=w.heap.size+1 from by simp] at h
  exact h
 have hb:Below w.heap.size w ((w.alloc (.cells #[.slice Pk lk ck,.int .i64 x.cnt,.slice Ps x.sum.length cs,.slice Pn x.mn.length cn,.slice Pm x.mx.length cm] 46)).alloc (.cells #[.slice none 0 0,.int .i64 0,.slice none 0 0,.slice none 0 0,.slice none 0 0] 46)):=((Below.refl _ w).alloc (Nat.le_refl _) _).alloc (by simp) _
 have O1:=Lib.hid o1
 have O2:=Lib.hid o2
 have HB:=Lib.hid hb
 clear hin hx hnk hok hT hl hl2 hl3 o1 o2 hb hlk hones
 go_enter Tryz.func39,Tryz.ntmps39
 go_wp2_with fail
 generalize ((w.alloc (.cells #[.slice Pk lk ck,.int .i64 x.cnt,.slice Ps x.sum.length cs,.slice Pn x.mn.length cn,.slice Pm x.mx.length cm] 46)).alloc (.cells #[.slice none 0 0,.int .i64 0,.slice none 0 0,.slice none 0 0,.slice none 0 0] 46))=W1 at O1 O2 HB ⊢
 have p0:=O1.out.cell (i:=0) rfl
 refine wp_region_held_drew (S:=fun W=>W.cell? ⟨w.heap.size,0,none⟩=some (.slice Pk lk ck)) (by kernel_rfl) (show W1.drew.cell? ⟨w.heap.size,0,none⟩=some (.slice Pk lk ck) from p0) (fun hHeld=>?_)
 refine WTH (i:=0) (v:=?va0) ?ya0 hHeld ?ra0
 case ya0=>(intro W hW;go_simp;first | done | with_reducible rfl)
 try simp only[SL,Act.put]
 refine WTH (i:=1) (v:=?va1) ?ya1 hHeld ?ra1
 case ya1=>(intro W hW;go_simp;first | done | with_reducible rfl)
 try simp only[SL,Act.put]
 refine WTH (i:=2) (v:=?va2) ?ya2 hHeld ?ra2
 case ya2=>(intro W hW;go_simp;first | done | with_reducible rfl)
 try simp only[SL,Act.put]
 refine WTH (i:=3) (v:=?va3) ?ya3 hHeld ?ra3
 case ya3=>(intro W hW;go_simp;first | done | with_reducible rfl)
 try simp only[SL,Act.put]
 refine WTH (i:=4) (v:=?va4) ?ya4 hHeld ?ra4
 case ya4=>(intro W hW;go_simp;first | done | with_reducible rfl)
 try simp only[SL,Act.put]
 refine WTH (i:=6) (v:=?va6) ?ya6 hHeld ?ra6
 case ya6=>(intro W hW;go_simp;first | done | with_reducible rfl)
 try simp only[SL,Act.put]
 refine WTH (i:=7) (v:=?va7) ?ya7 hHeld ?ra7
 case ya7=>(intro W hW;go_simp;first | done | with_reducible rfl)
 try simp only[SL,Act.put]
 refine WTH (i:=8) (v:=?va8) ?ya8 hHeld ?ra8
 case ya8=>(intro W hW;go_simp;first | done | with_reducible rfl)
 try simp only[SL,Act.put]
 refine wpAnyH_ready (rs:=[5]) (by kernel_rfl) (by simp) ?_
 refine AllReadyH.cons rfl (fun K hK=>?_) (AllReadyH.nil)
 go_simp
 refine (Hon.out W1.drew).mono ?_
 rintro e w' ⟨rfl,rfl⟩
 go_wp2_with fail
 refine hK.out _ _ (p0) (fun hHeld=>?_)
 clear hK K
 try simp only[SL,Act.put]
 refine WTH (i:=9) (v:=?va9) ?ya9 hHeld ?ra9
 case ya9=>(intro W hW;go_simp;first | done | with_reducible rfl)
 try simp only[SL,Act.put]
 refine WTH (i:=10) (v:=?va10) ?ya10 hHeld ?ra10
 case ya10=>(intro W hW;go_simp;first | done | with_reducible rfl)
 try simp only[SL,Act.put]
 refine WTH (i:=11) (v:=?va11) ?ya11 hHeld ?ra11
 case ya11=>(intro W hW;go_simp;first | done | with_reducible rfl)
 try simp only[SL,Act.put]
 refine WTH (i:=12) (v:=?va12) ?ya12 hHeld ?ra12
 case ya12=>(intro W hW;go_simp;first | done | with_reducible rfl)
 try simp only[SL,Act.put]
 refine WTH (i:=13) (v:=?va13) ?ya13 hHeld ?ra13
 case ya13=>(intro W hW;go_simp;first | done | with_reducible rfl)
 try simp only[SL,Act.put]
 refine WTH (i:=14) (v:=?va14) ?ya14 hHeld ?ra14
 case ya14=>(intro W hW;go_simp;first | done | with_reducible rfl)
 try simp only[SL,Act.put]
 refine WTH (i:=15) (v:=?va15) ?ya15 hHeld ?ra15
 case ya15=>(intro W hW;go_simp;first | done | with_reducible rfl)
 try simp only[SL,Act.put]
 refine WTH (i:=16) (v:=?va16) ?ya16 hHeld ?ra16
 case ya16=>(intro W hW;go_simp;first | done | with_reducible rfl)
 try simp only[SL,Act.put]
 refine wpAnyH_done (by kernel_rfl) ?_ _
 have O1d:=Lib.hid (O1.out.drewN 1)
 have O2d:=Lib.hid (O2.out.drewN 1)
 have HBd:=Lib.hid (below_drewN HB.out 1)
 change Hid (Own _ W1.drew _ _) at O1d
 change Hid (Own _ W1.drew _ _) at O2d
 change Hid (Below _ w W1.drew) at HBd
 clear p0 O1 O2 HB
 generalize W1.drew=W at O1d O2d HBd ⊢
 have p0:=O1d.out.cell (i:=0) rfl
 have p1:=O1d.out.cell (i:=1) rfl
 have p2:=O1d.out.cell (i:=2) rfl
 have p3:=O1d.out.cell (i:=3) rfl
 have p4:=O1d.out.cell (i:=4) rfl
 go_wp2_with fail
 refine (Hcl.out W (Keeps.of_below HBd.out)).mono ?_
 rintro e w2 ⟨k1,s1,n1,m1,rfl,hco,hap,hb2⟩
 have hB2:=HBd.out.trans (hb2.mono HBd.out.size)
 obtain⟨P1,c1,e1,-⟩:=hco.key.form
 obtain⟨P2,c2,e2,-⟩:=hco.sum.form
 obtain⟨P3,c3,e3,-⟩:=hco.mn.form
 obtain⟨P4,c4,e4,-⟩:=hco.mx.form
 subst e1 e2 e3 e4
 have k2:=Keeps.of_below hb2
 have hb3:Below w2.heap.size w2 (w2.alloc (.cells #[.slice P1 x.key.length c1,.int .i64 x.cnt,.slice P2 x.sum.length c2,.slice P3 x.mn.length c3,.slice P4 x.mx.length c4] 46)):=(Below.refl _ _).alloc (Nat.le_refl _) _
 have hx3:Own 46 (w2.alloc (.cells #[.slice P1 x.key.length c1,.int .i64 x.cnt,.slice P2 x.sum.length c2,.slice P3 x.mn.length c3,.slice P4 x.mx.length c4] 46)) w2.heap.size [.slice P1 x.key.length c1,.int .i64 x.cnt,.slice P2 x.sum.length c2,.slice P3 x.mn.length c3,.slice P4 x.mx.length c4]:=heap_alloc_new w2 _
 have hO2:=((O2d.out.below hb2 O2d.out.lt).below hb3 (Nat.lt_of_lt_of_le O2d.out.lt hb2.size))
 have hc3:=(hco.below hb3).mono HBd.out.size
 have hB3:=hB2.alloc hB2.size (.cells #[.slice P1 x.key.length c1,.int .i64 x.cnt,.slice P2 x.sum.length c2,.slice P3 x.mn.length c3,.slice P4 x.mx.length c4] 46)
 replace p0:=(Keeps.of_below hb3) _ _ (k2 _ _ p0)
 have hlt2:w.heap.size+1<w2.heap.size:=Nat.lt_of_lt_of_le O2d.out.lt hb2.size
 have HX:=Lib.hid hx3
 have HO:=Lib.hid hO2
 have HC:=Lib.hid hc3
 have HB3:=Lib.hid hB3
 have HLT:=Lib.hid hlt2
 clear hx3 hO2 hc3 hB3 hB2 hb3 k2 hb2 hco hap p1 p2 p3 p4 O1d O2d HBd hlt2
 go_wp2_with fail
 generalize hW3:w2.alloc (.cells #[.slice P1 x.key.length c1,.int .i64 x.cnt,.slice P2 x.sum.length c2,.slice P3 x.mn.length c3,.slice P4 x.mx.length c4] 46)=W3 at HX HO HC HB3 p0 ⊢
 generalize w2.heap.size=b at HX HLT ⊢
 clear hW3
 refine (Hval.out W3 (Keeps.of_below HB3.out) (Nat.lt_of_lt_of_le hw1 HB3.out.size)).mono ?_
 rintro e w4 ⟨v,rfl,hrow,hb4⟩
 have hv:OI W3.heap.size w4 v ((dimsL tow).map (pick x.key frm)):=⟨by rw[List.length_map];exact hrow,Hok.out⟩
 obtain⟨P5,c5,e5,-⟩:=hv.form
 subst e5
 have hx4:=HX.out.below hb4 HX.out.lt
 have ho4:=HO.out.below hb4 HO.out.lt
 have hc4:=HC.out.below hb4
 have hB4:=HB3.out.trans (hb4.mono HB3.out.size)
 have hv4:OI w.heap.size w4 (.slice P5 ((dimsL tow).map (pick x.key frm)).length c5) ((dimsL tow).map (pick x.key frm)):=hv.mono HB3.out.size
 clear hrow hv hb4
 obtain⟨x2,hx2⟩:∃ x2:Cel,x2=⟨(dimsL tow).map (pick x.key frm),x.cnt,x.sum,x.mn,x.mx⟩:=⟨_,rfl⟩
 have hN:CO w.heap.size w4 (.slice P5 ((dimsL tow).map (pick x.key frm)).length c5) (.slice P2 x.sum.length c2) (.slice P3 x.mn.length c3) (.slice P4 x.mx.length c4) x2:=by
  rw[hx2];exact⟨hv4,hc4.sum,hc4.mn,hc4.mx⟩
 have Hx2:=Lib.hid hx2
 clear hx2 hv4 hc4
 generalize ((dimsL tow).map (pick x.key frm)).length=l5 at hN ⊢
 have on1:=only_setCell b w4 0 (.slice P5 l5 c5)
 have hx5:=hx4.set_ 0 (.slice P5 l5 c5)
 have ho5:=ho4.only on1 (by have:=HLT.out;omega)
 have hN5:=hN.only on1 hx4 (by decide)
 have hB5:=hB4.trans (on1.below (by have:=HLT.out;omega) hB4.size)
 have r0:=hx4.cell (i:=0) rfl
 have r1:=hx4.cell (i:=1) rfl
 have r2:=hx4.cell (i:=2) rfl
 have r3:=hx4.cell (i:=3) rfl
 have r4:=hx4.cell (i:=4) rfl
 have rf:=hx4.frozen
 have y0:=hx5.cell (i:=0) rfl
 have y1:=hx5.cell (i:=1) rfl
 have y2:=hx5.cell (i:=2) rfl
 have y3:=hx5.cell (i:=3) rfl
 have y4:=hx5.cell (i:=4) rfl
 have z0:=ho4.cell (i:=0) rfl
 have z1:=ho4.cell (i:=1) rfl
 have z2:=ho4.cell (i:=2) rfl
 have z3:=ho4.cell (i:=3) rfl
 have z4:=ho4.cell (i:=4) rfl
 have zf:=ho4.frozen
 have t0:=ho5.cell (i:=0) rfl
 have t1':=ho5.cell (i:=1) rfl
 have t2':=ho5.cell (i:=2) rfl
 have t3:=ho5.cell (i:=3) rfl
 have t4:=ho5.cell (i:=4) rfl
 have tf:=ho5.frozen
 obtain⟨W6,hW6⟩:∃ W6,W6=put5 (w4.setCell ⟨b,0,none⟩ (.slice P5 l5 c5)) (w.heap.size+1) (.slice P5 l5 c5) (.int .i64 x.cnt) (.slice P2 x.sum.length c2) (.slice P3 x.mn.length c3) (.slice P4 x.mx.length c4):=⟨_,rfl⟩
 have o6:Own 46 W6 (w.heap.size+1) [.slice P5 l5 c5,.int .i64 x.cnt,.slice P2 x.sum.length c2,.slice P3 x.mn.length c3,.slice P4 x.mx.length c4]:=hW6 ▸ put5_own ho5
 have on6:Only (w.heap.size+1) (w4.setCell ⟨b,0,none⟩ (.slice P5 l5 c5)) W6:=hW6 ▸ put5_only
 have hfin:=hN5.only on6 ho5 (by decide)
 have hbf:Below w.heap.size w W6:=hB5.trans (on6.below (by omega) hB5.size)
 have HW6:=Lib.hid hW6
 have Hfin:=Lib.hid hfin
 have Hbf:=Lib.hid hbf
 have HO6:=Lib.hid o6
 have Hneq:b ≠ w.heap.size+1:=by have:=HLT.out;omega
 clear hW6 o6 on6 hfin hbf hN hN5 hB5 hB4 ho5 ho4 hx5 hx4 on1 p0
 go_wp2
 have e5:=HW6.out
 unfold put5 at e5
 rw[← e5]
 clear e5
 have q0:=HO6.out.cell (i:=0) rfl
 have q1:=HO6.out.cell (i:=1) rfl
 have q2:=HO6.out.cell (i:=2) rfl
 have q3:=HO6.out.cell (i:=3) rfl
 have q4:=HO6.out.cell (i:=4) rfl
 have hfin:=Hfin.out
 rw[Hx2.out] at hfin
 exact bodyPost_ret (v:=.agg #[.slice P5 l5 c5,.int .i64 x.cnt,.slice P2 x.sum.length c2,.slice P3 x.mn.length c3,.slice P4 x.mx.length c4]) (by simp[results,Tryz.results39,go_sem,q0,q1,q2,q3,q4]) rfl ⟨_,_,_,_,rfl,hfin,Hbf.out⟩
end Go.Proofs.YtnjlkhhcfiedbaaGreatDoor

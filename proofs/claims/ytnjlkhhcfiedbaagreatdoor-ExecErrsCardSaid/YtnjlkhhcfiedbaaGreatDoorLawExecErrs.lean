/- The law ExecErrs. -/
import Derived.IntWalk
import Derived.Test.YtnjlkhhcfiedbaaGreatDoorExL
namespace Go.Proofs.YtnjlkhhcfiedbaaGreatDoor
open Go.RowKit Go.Shelf
attribute [local go_sem] Oper.semAt_some
def e12:Cel:=⟨[1,2],1,[],[],[]⟩
def f12:Cel:=⟨[2],1,[],[],[]⟩
theorem one_two (w:World) (A:Addr) (b:Nat) (alg:Int) (hT:Tab w) (hw1:1<w.heap.size) (hc:CellsR w A [e12]) (hb:3≤b) (hb9:b≤9223372036854775807) (ha:alg=0∨alg=1):Calls Tryz.prog 17 #[.slice (some A) 1 1,.int .i64 3,.int .i64 2,.int .i64 (b:Nat),.int .i64 alg] w fun e w'=>∃ P c h,e=.returned (.tuple #[.agg #[.slice (some P) 1 c,.int .i64 h],.int .i64 0])∧CellsR w' P [f12]∧Below w.heap.size w w' :=
 (xOne_any (some A) 1 1 b 2 0 3 2 alg [e12] w (fun _=>⟨A,rfl,hc⟩) rfl (fun x hx=>by rw[List.mem_singleton] at hx;subst hx;exact⟨rfl,by decide,rfl,rfl,rfl⟩) (by omega) (by omega) (by decide) (by omega) (by omega) (by omega) (by omega) (by decide) hb hb9 ha hT hw1).mono fun e w' h=>by
  obtain⟨v,us,rfl,hg,hb⟩:=h
  obtain⟨P,c,rfl,-⟩:=hg.form
  have he:List.map (nwE 3 2) [e12]=[f12]:=by rw[List.map_singleton];congr 1
  have hl:=hg.len
  rw[he] at hg hl
  rw[show grpR [f12]=[f12] from rfl] at hg hl
  rw[List.length_singleton] at hl
  rw[hl] at hg ⊢
  obtain⟨ad,rfl,hr⟩:=hg.rowC.1 (by omega)
  exact⟨ad,c,_,rfl,hr,hb⟩
set_option maxRecDepth 100000 in
set_option maxHeartbeats 4000000 in
theorem execErrs_walk (a0 a1:Int) (w:World) (h0:inK .i64 a0) (_h1:inK .i64 a1) (hT:Tab w) (hw1:1<w.heap.size) :
  Calls Tryz.prog 6 #[.int .i64 a0,.int .i64 a1] w fun e w'=>e=.returned (.bool true)∧Below w.heap.size w w':=by
 have HKn:=Lib.hid (known12_any w hT hw1)
 have HT:=Lib.hid hT
 have HI:=Lib.hid h0
 clear h0 hT
 by_cases hal:a1=0∨a1=1
 ·have HAL:=Lib.hid hal
  by_cases hs:a0<3
  ·have d1:decide (a0<3)=true:=decide_eq_true hs
   have HSM:=Lib.hid (fun (P:Option Addr) (c N:Nat) (W:World)=>xOne_small P c N 3 2 a0 a1 W hal hs)
   clear hs
   rcases hal with rfl | rfl
   ·go_enter Tryz.func6,Tryz.ntmps6
    go_wp2_with fail
    refine HKn.out.mono ?_
    rintro e w1 ⟨rfl,hb1⟩
    have HB1:=Lib.hid hb1
    clear hb1 HKn
    obtain⟨Wb,hWb⟩:∃ z,z=w1.alloc (.cells #[.int .i64 1,.int .i64 2] 3):=⟨_,rfl⟩
    have hbb:Below w1.heap.size w1 Wb:=by rw[hWb];exact (Below.refl _ _).alloc (Nat.le_refl _) _
    have hzb:Wb.heap.size=w1.heap.size+1:=by rw[hWb];simp
    obtain⟨Wc,hWc⟩:∃ z,z=Wb.alloc (.cells #[.slice (some ⟨w1.heap.size,0,none⟩) 2 2,.int .i64 1,.slice none 0 0,.slice none 0 0,.slice none 0 0] 46):=⟨_,rfl⟩
    have hbc:Below Wb.heap.size Wb Wc:=by rw[hWc];exact (Below.refl _ _).alloc (Nat.le_refl _) _
    have ob:Own 3 Wb w1.heap.size [.int .i64 1,.int .i64 2]:=by rw[hWb];exact heap_alloc_new w1 _
    have oc:Own 46 Wc (w1.heap.size+1) [.slice (some ⟨w1.heap.size,0,none⟩) 2 2,.int .i64 1,.slice none 0 0,.slice none 0 0,.slice none 0 0]:=by rw[hWc,← hzb];exact heap_alloc_new Wb _
    have hb1c:=hbb.trans (hbc.mono hbb.size)
    have HWc:=Lib.hid (hWc.trans (by rw[hWb]))
    have HC1:=Lib.hid (HB1.out.trans (hb1c.mono HB1.out.size))
    have HX:=Lib.hid (HSM.out (some ⟨w1.heap.size+1,0,none⟩) 1 1 Wc)
    clear hbb hbc ob oc hb1c hWb hWc hzb
    go_wp2_with fail
    rw[← HWc.out]
    refine HX.out.mono ?_
    rintro e w3 ⟨rfl,hb3⟩
    have o3:Own 34 (w3.alloc (.cells #[.slice none 0 0,.int .i64 0] 34)) w3.heap.size [.slice none 0 0,.int .i64 0]:=heap_alloc_new w3 _
    have hbd:Below w3.heap.size w3 (w3.alloc (.cells #[.slice none 0 0,.int .i64 0] 34)):=(Below.refl _ _).alloc (Nat.le_refl _) _
    have HE:=Lib.hid (HC1.out.trans ((hb3.trans (hbd.mono hb3.size)).mono HC1.out.size))
    go_upto_region 9 with (fail)
    generalize w3.alloc (.cells #[.slice none 0 0,.int .i64 0] 34)=W4 at o3 hbd HE ⊢
    have q0:=o3.cell (i:=0) rfl
    have q1:=o3.cell (i:=1) rfl
    try dsimp only at q0 q1
    clear o3 hbd hb3 HX
    go_wp2
    go_ret
    exact⟨by first | rfl | simp,HE.out⟩
   ·go_enter Tryz.func6,Tryz.ntmps6
    go_wp2_with fail
    refine HKn.out.mono ?_
    rintro e w1 ⟨rfl,hb1⟩
    have HB1:=Lib.hid hb1
    clear hb1 HKn
    obtain⟨Wb,hWb⟩:∃ z,z=w1.alloc (.cells #[.int .i64 1,.int .i64 2] 3):=⟨_,rfl⟩
    have hbb:Below w1.heap.size w1 Wb:=by rw[hWb];exact (Below.refl _ _).alloc (Nat.le_refl _) _
    have hzb:Wb.heap.size=w1.heap.size+1:=by rw[hWb];simp
    obtain⟨Wc,hWc⟩:∃ z,z=Wb.alloc (.cells #[.slice (some ⟨w1.heap.size,0,none⟩) 2 2,.int .i64 1,.slice none 0 0,.slice none 0 0,.slice none 0 0] 46):=⟨_,rfl⟩
    have hbc:Below Wb.heap.size Wb Wc:=by rw[hWc];exact (Below.refl _ _).alloc (Nat.le_refl _) _
    have ob:Own 3 Wb w1.heap.size [.int .i64 1,.int .i64 2]:=by rw[hWb];exact heap_alloc_new w1 _
    have oc:Own 46 Wc (w1.heap.size+1) [.slice (some ⟨w1.heap.size,0,none⟩) 2 2,.int .i64 1,.slice none 0 0,.slice none 0 0,.slice none 0 0]:=by rw[hWc,← hzb];exact heap_alloc_new Wb _
    have hb1c:=hbb.trans (hbc.mono hbb.size)
    have HWc:=Lib.hid (hWc.trans (by rw[hWb]))
    have HC1:=Lib.hid (HB1.out.trans (hb1c.mono HB1.out.size))
    have HX:=Lib.hid (HSM.out (some ⟨w1.heap.size+1,0,none⟩) 1 1 Wc)
    clear hbb hbc ob oc hb1c hWb hWc hzb
    go_wp2_with fail
    rw[← HWc.out]
    refine HX.out.mono ?_
    rintro e w3 ⟨rfl,hb3⟩
    have o3:Own 34 (w3.alloc (.cells #[.slice none 0 0,.int .i64 0] 34)) w3.heap.size [.slice none 0 0,.int .i64 0]:=heap_alloc_new w3 _
    have hbd:Below w3.heap.size w3 (w3.alloc (.cells #[.slice none 0 0,.int .i64 0] 34)):=(Below.refl _ _).alloc (Nat.le_refl _) _
    have HE:=Lib.hid (HC1.out.trans ((hb3.trans (hbd.mono hb3.size)).mono HC1.out.size))
    go_upto_region 9 with (fail)
    generalize w3.alloc (.cells #[.slice none 0 0,.int .i64 0] 34)=W4 at o3 hbd HE ⊢
    have q0:=o3.cell (i:=0) rfl
    have q1:=o3.cell (i:=1) rfl
    try dsimp only at q0 q1
    clear o3 hbd hb3 HX
    go_wp2
    go_ret
    exact⟨by first | rfl | simp,HE.out⟩
  ·have d1:decide (a0<3)=false:=decide_eq_false hs
   obtain⟨n0,hn0⟩:∃ n:Nat,a0=(n:Int):=⟨a0.toNat,by omega⟩
   have hb9:n0≤9223372036854775807:=by have:=HI.out.2;omega
   have hb3':3≤n0:=by omega
   subst hn0
   clear hs
   rcases hal with rfl | rfl
   ·go_enter Tryz.func6,Tryz.ntmps6
    go_wp2_with fail
    refine HKn.out.mono ?_
    rintro e w1 ⟨rfl,hb1⟩
    have HB1:=Lib.hid hb1
    clear hb1 HKn
    obtain⟨Wb,hWb⟩:∃ z,z=w1.alloc (.cells #[.int .i64 1,.int .i64 2] 3):=⟨_,rfl⟩
    have hbb:Below w1.heap.size w1 Wb:=by rw[hWb];exact (Below.refl _ _).alloc (Nat.le_refl _) _
    have hzb:Wb.heap.size=w1.heap.size+1:=by rw[hWb];simp
    obtain⟨Wc,hWc⟩:∃ z,z=Wb.alloc (.cells #[.slice (some ⟨w1.heap.size,0,none⟩) 2 2,.int .i64 1,.slice none 0 0,.slice none 0 0,.slice none 0 0] 46):=⟨_,rfl⟩
    have hbc:Below Wb.heap.size Wb Wc:=by rw[hWc];exact (Below.refl _ _).alloc (Nat.le_refl _) _
    have ob:Own 3 Wb w1.heap.size [.int .i64 1,.int .i64 2]:=by rw[hWb];exact heap_alloc_new w1 _
    have oc:Own 46 Wc (w1.heap.size+1) [.slice (some ⟨w1.heap.size,0,none⟩) 2 2,.int .i64 1,.slice none 0 0,.slice none 0 0,.slice none 0 0]:=by rw[hWc,← hzb];exact heap_alloc_new Wb _
    have hb1c:=hbb.trans (hbc.mono hbb.size)
    have HWc:=Lib.hid (hWc.trans (by rw[hWb]))
    have HC1:=Lib.hid (HB1.out.trans (hb1c.mono HB1.out.size))
    have rk:RI Wc (.slice (some ⟨w1.heap.size,0,none⟩) 2 2) [1,2]:=row_ri _ w1.heap.size [1,2] 3 (by simp[inK]) (ob.below hbc ob.lt) (by decide)
    have hcr:CellsR Wc ⟨w1.heap.size+1,0,none⟩ [e12]:=fun j x hx=>by
     rcases j with _ | j
     ·simp only[List.getElem?_cons_zero,Option.some.injEq] at hx
      subst hx
      obtain⟨h0,h1,h2,h3,h4⟩:=oc.bx
      rw[show (⟨w1.heap.size+1,0,none⟩:Addr).add (0*5)=⟨w1.heap.size+1,0,none⟩ from by simp[Addr.add]]
      exact⟨_,_,_,_,h0,h1,h2,h3,h4,⟨rk,nil_ri _,nil_ri _,nil_ri _⟩,by simp[inK,e12]⟩
     ·simp at hx
    have HX:=Lib.hid (one_two Wc ⟨w1.heap.size+1,0,none⟩ n0 0 (HT.out.keep (Keeps.of_below HC1.out)) (Nat.lt_of_lt_of_le hw1 HC1.out.size) hcr (by omega) (by omega) (by omega))
    clear hbb hbc ob oc hb1c hWb hWc hzb rk hcr
    go_wp2_with fail
    rw[← HWc.out]
    refine HX.out.mono ?_
    rintro e w3 ⟨P3,c3,h3,rfl,hr3,hb3⟩
    obtain⟨W4,hW4⟩:∃ z,z=w3.alloc (.cells #[.slice (some P3) 1 c3,.int .i64 h3] 34):=⟨_,rfl⟩
    have o3:Own 34 W4 w3.heap.size [.slice (some P3) 1 c3,.int .i64 h3]:=by rw[hW4];exact heap_alloc_new w3 _
    have hbd:Below w3.heap.size w3 W4:=by rw[hW4];exact (Below.refl _ _).alloc (Nat.le_refl _) _
    have HE:=Lib.hid (HC1.out.trans ((hb3.trans (hbd.mono hb3.size)).mono HC1.out.size))
    have q0:=o3.cell (i:=0) rfl
    have q1:=o3.cell (i:=1) rfl
    try dsimp only at q0 q1
    have h4:=(hr3.keep (Keeps.of_below hbd)) 0 f12 rfl
    rw[show P3.add (0*5)=P3 from by simp[Addr.add]] at h4
    obtain⟨k,s,n,mx,r0,-,-,-,-,⟨⟨Pk,ck,rfl,hk,-⟩,-,-,-⟩,-⟩:=h4
    obtain⟨ad,v,rfl,hv,-,r5⟩:=hk.at_ (k:=0) (by decide)
    rw[show f12.key[0]? = some 2 from rfl] at hv
    injection hv with hv
    subst hv
    rw[show f12.key.length=1 from rfl] at r0
    rw[show ad.add 0=ad from by simp[Addr.add]] at r5
    have HW4:=Lib.hid hW4
    clear o3 hbd hb3 hr3 hk hW4 HX
    go_upto_region 9 with (fail)
    rw[← HW4.out]
    go_wp2
    go_ret
    exact⟨by first | rfl | simp,HE.out⟩
   ·go_enter Tryz.func6,Tryz.ntmps6
    go_wp2_with fail
    refine HKn.out.mono ?_
    rintro e w1 ⟨rfl,hb1⟩
    have HB1:=Lib.hid hb1
    clear hb1 HKn
    obtain⟨Wb,hWb⟩:∃ z,z=w1.alloc (.cells #[.int .i64 1,.int .i64 2] 3):=⟨_,rfl⟩
    have hbb:Below w1.heap.size w1 Wb:=by rw[hWb];exact (Below.refl _ _).alloc (Nat.le_refl _) _
    have hzb:Wb.heap.size=w1.heap.size+1:=by rw[hWb];simp
    obtain⟨Wc,hWc⟩:∃ z,z=Wb.alloc (.cells #[.slice (some ⟨w1.heap.size,0,none⟩) 2 2,.int .i64 1,.slice none 0 0,.slice none 0 0,.slice none 0 0] 46):=⟨_,rfl⟩
    have hbc:Below Wb.heap.size Wb Wc:=by rw[hWc];exact (Below.refl _ _).alloc (Nat.le_refl _) _
    have ob:Own 3 Wb w1.heap.size [.int .i64 1,.int .i64 2]:=by rw[hWb];exact heap_alloc_new w1 _
    have oc:Own 46 Wc (w1.heap.size+1) [.slice (some ⟨w1.heap.size,0,none⟩) 2 2,.int .i64 1,.slice none 0 0,.slice none 0 0,.slice none 0 0]:=by rw[hWc,← hzb];exact heap_alloc_new Wb _
    have hb1c:=hbb.trans (hbc.mono hbb.size)
    have HWc:=Lib.hid (hWc.trans (by rw[hWb]))
    have HC1:=Lib.hid (HB1.out.trans (hb1c.mono HB1.out.size))
    have rk:RI Wc (.slice (some ⟨w1.heap.size,0,none⟩) 2 2) [1,2]:=row_ri _ w1.heap.size [1,2] 3 (by simp[inK]) (ob.below hbc ob.lt) (by decide)
    have hcr:CellsR Wc ⟨w1.heap.size+1,0,none⟩ [e12]:=fun j x hx=>by
     rcases j with _ | j
     ·simp only[List.getElem?_cons_zero,Option.some.injEq] at hx
      subst hx
      obtain⟨h0,h1,h2,h3,h4⟩:=oc.bx
      rw[show (⟨w1.heap.size+1,0,none⟩:Addr).add (0*5)=⟨w1.heap.size+1,0,none⟩ from by simp[Addr.add]]
      exact⟨_,_,_,_,h0,h1,h2,h3,h4,⟨rk,nil_ri _,nil_ri _,nil_ri _⟩,by simp[inK,e12]⟩
     ·simp at hx
    have HX:=Lib.hid (one_two Wc ⟨w1.heap.size+1,0,none⟩ n0 1 (HT.out.keep (Keeps.of_below HC1.out)) (Nat.lt_of_lt_of_le hw1 HC1.out.size) hcr (by omega) (by omega) (by omega))
    clear hbb hbc ob oc hb1c hWb hWc hzb rk hcr
    go_wp2_with fail
    rw[← HWc.out]
    refine HX.out.mono ?_
    rintro e w3 ⟨P3,c3,h3,rfl,hr3,hb3⟩
    obtain⟨W4,hW4⟩:∃ z,z=w3.alloc (.cells #[.slice (some P3) 1 c3,.int .i64 h3] 34):=⟨_,rfl⟩
    have o3:Own 34 W4 w3.heap.size [.slice (some P3) 1 c3,.int .i64 h3]:=by rw[hW4];exact heap_alloc_new w3 _
    have hbd:Below w3.heap.size w3 W4:=by rw[hW4];exact (Below.refl _ _).alloc (Nat.le_refl _) _
    have HE:=Lib.hid (HC1.out.trans ((hb3.trans (hbd.mono hb3.size)).mono HC1.out.size))
    have q0:=o3.cell (i:=0) rfl
    have q1:=o3.cell (i:=1) rfl
    try dsimp only at q0 q1
    have h4:=(hr3.keep (Keeps.of_below hbd)) 0 f12 rfl
    rw[show P3.add (0*5)=P3 from by simp[Addr.add]] at h4
    obtain⟨k,s,n,mx,r0,-,-,-,-,⟨⟨Pk,ck,rfl,hk,-⟩,-,-,-⟩,-⟩:=h4
    obtain⟨ad,v,rfl,hv,-,r5⟩:=hk.at_ (k:=0) (by decide)
    rw[show f12.key[0]? = some 2 from rfl] at hv
    injection hv with hv
    subst hv
    rw[show f12.key.length=1 from rfl] at r0
    rw[show ad.add 0=ad from by simp[Addr.add]] at r5
    have HW4:=Lib.hid hW4
    clear o3 hbd hb3 hr3 hk hW4 HX
    go_upto_region 9 with (fail)
    rw[← HW4.out]
    go_wp2
    go_ret
    exact⟨by first | rfl | simp,HE.out⟩
 ·have e0:(a1 != 0)=true:=by simp;exact fun h=>hal (.inl h)
  have e1:(a1 != 1)=true:=by simp;exact fun h=>hal (.inr h)
  have HBD:=Lib.hid (fun (P:Option Addr) (c N:Nat) (W:World)=>xOne_bad P c N 3 2 a0 a1 W (fun h=>hal (.inl h)) (fun h=>hal (.inr h)))
  clear hal
  by_cases hs:a0<3
  ·have d1:decide (a0<3)=true:=decide_eq_true hs
   clear hs
   go_enter Tryz.func6,Tryz.ntmps6
   go_wp2_with fail
   refine HKn.out.mono ?_
   rintro e w1 ⟨rfl,hb1⟩
   have HB1:=Lib.hid hb1
   clear hb1 HKn
   obtain⟨Wb,hWb⟩:∃ z,z=w1.alloc (.cells #[.int .i64 1,.int .i64 2] 3):=⟨_,rfl⟩
   have hbb:Below w1.heap.size w1 Wb:=by rw[hWb];exact (Below.refl _ _).alloc (Nat.le_refl _) _
   have hzb:Wb.heap.size=w1.heap.size+1:=by rw[hWb];simp
   obtain⟨Wc,hWc⟩:∃ z,z=Wb.alloc (.cells #[.slice (some ⟨w1.heap.size,0,none⟩) 2 2,.int .i64 1,.slice none 0 0,.slice none 0 0,.slice none 0 0] 46):=⟨_,rfl⟩
   have hbc:Below Wb.heap.size Wb Wc:=by rw[hWc];exact (Below.refl _ _).alloc (Nat.le_refl _) _
   have ob:Own 3 Wb w1.heap.size [.int .i64 1,.int .i64 2]:=by rw[hWb];exact heap_alloc_new w1 _
   have oc:Own 46 Wc (w1.heap.size+1) [.slice (some ⟨w1.heap.size,0,none⟩) 2 2,.int .i64 1,.slice none 0 0,.slice none 0 0,.slice none 0 0]:=by rw[hWc,← hzb];exact heap_alloc_new Wb _
   have hb1c:=hbb.trans (hbc.mono hbb.size)
   have HWc:=Lib.hid (hWc.trans (by rw[hWb]))
   have HC1:=Lib.hid (HB1.out.trans (hb1c.mono HB1.out.size))
   have HX:=Lib.hid (HBD.out (some ⟨w1.heap.size+1,0,none⟩) 1 1 Wc)
   clear hbb hbc ob oc hb1c hWb hWc hzb
   go_wp2_with fail
   rw[← HWc.out]
   refine HX.out.mono ?_
   rintro e w3 ⟨rfl,hb3⟩
   have o3:Own 34 (w3.alloc (.cells #[.slice none 0 0,.int .i64 0] 34)) w3.heap.size [.slice none 0 0,.int .i64 0]:=heap_alloc_new w3 _
   have hbd:Below w3.heap.size w3 (w3.alloc (.cells #[.slice none 0 0,.int .i64 0] 34)):=(Below.refl _ _).alloc (Nat.le_refl _) _
   have HE:=Lib.hid (HC1.out.trans ((hb3.trans (hbd.mono hb3.size)).mono HC1.out.size))
   go_upto_region 9 with (fail)
   generalize w3.alloc (.cells #[.slice none 0 0,.int .i64 0] 34)=W4 at o3 hbd HE ⊢
   have q0:=o3.cell (i:=0) rfl
   have q1:=o3.cell (i:=1) rfl
   try dsimp only at q0 q1
   clear o3 hbd hb3 HX
   go_wp2
   go_ret
   exact⟨by first | rfl | simp,HE.out⟩
  ·have d1:decide (a0<3)=false:=decide_eq_false hs
   clear hs
   go_enter Tryz.func6,Tryz.ntmps6
   go_wp2_with fail
   refine HKn.out.mono ?_
   rintro e w1 ⟨rfl,hb1⟩
   have HB1:=Lib.hid hb1
   clear hb1 HKn
   obtain⟨Wb,hWb⟩:∃ z,z=w1.alloc (.cells #[.int .i64 1,.int .i64 2] 3):=⟨_,rfl⟩
   have hbb:Below w1.heap.size w1 Wb:=by rw[hWb];exact (Below.refl _ _).alloc (Nat.le_refl _) _
   have hzb:Wb.heap.size=w1.heap.size+1:=by rw[hWb];simp
   obtain⟨Wc,hWc⟩:∃ z,z=Wb.alloc (.cells #[.slice (some ⟨w1.heap.size,0,none⟩) 2 2,.int .i64 1,.slice none 0 0,.slice none 0 0,.slice none 0 0] 46):=⟨_,rfl⟩
   have hbc:Below Wb.heap.size Wb Wc:=by rw[hWc];exact (Below.refl _ _).alloc (Nat.le_refl _) _
   have ob:Own 3 Wb w1.heap.size [.int .i64 1,.int .i64 2]:=by rw[hWb];exact heap_alloc_new w1 _
   have oc:Own 46 Wc (w1.heap.size+1) [.slice (some ⟨w1.heap.size,0,none⟩) 2 2,.int .i64 1,.slice none 0 0,.slice none 0 0,.slice none 0 0]:=by rw[hWc,← hzb];exact heap_alloc_new Wb _
   have hb1c:=hbb.trans (hbc.mono hbb.size)
   have HWc:=Lib.hid (hWc.trans (by rw[hWb]))
   have HC1:=Lib.hid (HB1.out.trans (hb1c.mono HB1.out.size))
   have HX:=Lib.hid (HBD.out (some ⟨w1.heap.size+1,0,none⟩) 1 1 Wc)
   clear hbb hbc ob oc hb1c hWb hWc hzb
   go_wp2_with fail
   rw[← HWc.out]
   refine HX.out.mono ?_
   rintro e w3 ⟨rfl,hb3⟩
   have o3:Own 34 (w3.alloc (.cells #[.slice none 0 0,.int .i64 0] 34)) w3.heap.size [.slice none 0 0,.int .i64 0]:=heap_alloc_new w3 _
   have hbd:Below w3.heap.size w3 (w3.alloc (.cells #[.slice none 0 0,.int .i64 0] 34)):=(Below.refl _ _).alloc (Nat.le_refl _) _
   have HE:=Lib.hid (HC1.out.trans ((hb3.trans (hbd.mono hb3.size)).mono HC1.out.size))
   go_upto_region 9 with (fail)
   generalize w3.alloc (.cells #[.slice none 0 0,.int .i64 0] 34)=W4 at o3 hbd HE ⊢
   have q0:=o3.cell (i:=0) rfl
   have q1:=o3.cell (i:=1) rfl
   try dsimp only at q0 q1
   clear o3 hbd hb3 HX
   go_wp2
   go_ret
   exact⟨by first | rfl | simp,HE.out⟩
end Go.Proofs.YtnjlkhhcfiedbaaGreatDoor

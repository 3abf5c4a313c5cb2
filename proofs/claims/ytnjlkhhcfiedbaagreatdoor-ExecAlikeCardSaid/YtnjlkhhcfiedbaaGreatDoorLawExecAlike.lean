/- The law ExecAlike. -/
import Derived.IntWalk
import Derived.Test.YtnjlkhhcfiedbaaGreatDoorExL
import Derived.Test.YtnjlkhhcfiedbaaGreatDoorGood5
import Derived.Test.YtnjlkhhcfiedbaaGreatDoorFactsLaw2
import Derived.Test.YtnjlkhhcfiedbaaGreatDoorWith12
import Derived.Test.YtnjlkhhcfiedbaaGreatDoorMake
import Derived.Test.YtnjlkhhcfiedbaaGreatDoorIsRow
namespace Go.Proofs.YtnjlkhhcfiedbaaGreatDoor
open Go.RowKit
attribute [local go_sem] Oper.semAt_some
set_option maxRecDepth 100000 in
set_option maxHeartbeats 8000000 in
theorem execAlike_walk (a0:Int) (a1:Option Addr) (len1 cap1:Nat) (z1:List Int) (a2:Int) (a3:Option Addr) (len3 cap3:Nat) (z3:List Int) (a4:Int) (a5 a6 a7:Int) (w:World) (h0:inK .i64 a0) (w1:IsRow .i64 w a1 len1 cap1 z1) (h2:inK .i64 a2) (w3:IsRow .i64 w a3 len3 cap3 z3) (h4:inK .i64 a4) (h5:inK .i64 a5) (h6:inK .i64 a6) (h7:inK .i64 a7) (hT:Tab w) (hw1:1<w.heap.size) :
  Calls Tryz.prog 9 #[.int .i64 a0,.slice a1 len1 cap1,.int .i64 a2,.slice a3 len3 cap3,.int .i64 a4,.int .i64 a5,.int .i64 a6,.int .i64 a7] w fun e w'=>e=.returned (.bool true)∧Below w.heap.size w w':=by
 obtain⟨n1,lc1,cm1⟩:=w1.nums
 obtain⟨n3,lc3,cm3⟩:=w3.nums
 have HW:=Lib.hid (fun (x n:Int) (W:World) (h:inK .i64 x) (e1:1≤n) (e2:n≤1000000)=>lwithin12 x n W h e1 (by omega))
 have N1:=Lib.hid n1
 have N3:=Lib.hid n3
 have HKn:=Lib.hid (known12_any w hT hw1)
 clear w1 w3 n1 n3
 go_enter Tryz.func9,Tryz.ntmps9
 go_wp2_with fail
 refine HKn.out.mono ?_
 rintro e w1 ⟨rfl,hb1⟩
 have Hb1:=Lib.hid hb1
 clear hb1 HKn
 go_wp2_with fail
 refine (Facts_res a0 a2 a1 a3 len1 cap1 len3 cap3 _ _ w1 (N1.out.keep (Keeps.of_below Hb1.out)) (N3.out.keep (Keeps.of_below Hb1.out)) (by omega) (by omega) h0 h2).mono ?_
 rintro e w2 ⟨A,c,D,d,C,q,mm,m,cs,l,rfl,hF⟩
 have F:=Lib.hid hF
 obtain⟨k1,k2,k3,k4⟩:1≤q∧q≤4∧mm≤2∧m≤40:=⟨hF.q1,hF.q4,hF.m2,hF.m40⟩
 have hb2:Below w.heap.size w w2:=Hb1.out.trans (hF.below.mono Hb1.out.size)
 have hb3:Below w2.heap.size w2 (w2.alloc (.cells #[.slice A q c,.int .i64 mm] 25)):=(Below.refl _ _).alloc (Nat.le_refl _) _
 obtain⟨s1,s2,s3⟩:=set_bd a4 q k1 k2
 have Hb2:=Lib.hid hb2
 have Hb3:=Lib.hid hb3
 clear hF hb2 hb3 N1 N3
 go_wp2_with fail
 refine (set_any A q c mm a4 _ k1 k2 h4).mono ?_
 rintro e w4 ⟨rfl,rfl⟩
 obtain⟨sa,hsa⟩:∃ sa,sa=a4 % 2 ^ q:=⟨_,rfl⟩
 rw[← hsa] at s1 s2 s3 ⊢
 clear hsa
 have hb4:Below w2.heap.size w2 ((w2.alloc (.cells #[.slice A q c,.int .i64 mm] 25)).alloc (.cells #[.slice A q c,.int .i64 mm] 25)):=Hb3.out.alloc Hb3.out.size _
 have HB4:=Lib.hid hb4
 clear hb4
 generalize (w2.alloc (.cells #[.slice A q c,.int .i64 mm] 25)).alloc (.cells #[.slice A q c,.int .i64 mm] 25)=w4 at HB4 ⊢
 have hl4:∀ r ∈ l,r.key.length=q∧r.m.length=mm:=F.out.lens
 have HL4:=Lib.hid (fun r hr=>(show r.key.length≤4∧r.m.length=mm from ⟨by rw[(hl4 r hr).1];exact k2,(hl4 r hr).2⟩))
 have hmk:=fun W (hW:Below w2.heap.size w2 W)=>make_any D m d C sa l W (F.out.rows.below hW (Nat.le_refl _)) F.out.em k4 F.out.small (fun r hr=>by have:=hl4 r hr;omega) s1 s2
 obtain⟨L,hL⟩:∃ L,L=l.map (ofC sa):=⟨_,rfl⟩
 have hLm:L.length=m:=by rw[hL,List.length_map,F.out.em]
 obtain⟨dd,hdd⟩:∃ dd,dd=(dimsL sa).length:=⟨_,rfl⟩
 have hdd4:dd≤4:=by rw[hdd];exact dims_few s1 s2
 have hon:ones sa=(dd:Int):=by rw[hdd];exact ones_len sa s1 s2
 have hlq:∀ r ∈ l,r.key.length=q:=fun r hr=>(hl4 r hr).1
 have HLQ:=Lib.hid hlq
 have HON:=Lib.hid hon
 have hLo:OkL dd mm L:=by rw[hL,hdd];exact ok_dims (ok_cells sa F.out.right hl4 F.out.c16) hlq k2 s1 s3
 rw[← hL] at hmk
 have HMK:=Lib.hid hmk
 have HLo:=Lib.hid hLo
 have HLm:=Lib.hid hLm
 have HLL:=Lib.hid hL
 have Hb24:=Lib.hid (Hb2.out.trans (HB4.out.mono Hb2.out.size))
 have HTT:=Lib.hid hT
 have HDD:=Lib.hid hdd
 clear hl4 hL hLm hdd hLo hmk hlq hon hT
 go_wp2_with fail
 refine (HMK.out w4 HB4.out).mono ?_
 rintro e w5 ⟨lv,us,rfl,hg,hb5⟩
 obtain⟨Pl,cl,fl,-,-,-,hPl⟩:=hg.form
 have hul:=hg.len
 rw[HLm.out] at hul
 rw[hul] at fl
 subst fl
 have RL:=Lib.hid hg.rowC.1
 have HPL:=Lib.hid hPl
 have HGL:=Lib.hid hg
 have HB5:=Lib.hid (HB4.out.trans (hb5.mono HB4.out.size))
 have Hb5:=Lib.hid (Hb24.out.trans (hb5.mono Hb24.out.size))
 have Hb45:=Lib.hid hb5
 clear hul hg hb5 hPl
 have hw16:=HW.out a5 16 w5 h5 (by omega) (by omega)
 go_wp2_with fail
 refine hw16.mono ?_
 clear hw16
 rintro e w' ⟨rfl,hw'⟩
 subst hw'
 obtain⟨b1sb,b2sb,b3sb⟩:=and_sub sa (a5 % 16) s1 s2 (by omega) (by omega)
 obtain⟨sb,hsb⟩:∃ s,s=bits .and .i64 sa (a5 % 16):=⟨_,rfl⟩
 rw[← hsb] at b1sb b2sb b3sb
 have HSbsb:=hsb.symm
 clear hsb
 have hnwG2:L.map (nwE sa sb)=l.map (ofC sb):=by rw[HLL.out];exact nwE_of HLQ.out k2 s1 s2 s3 b1sb b2sb b3sb
 obtain⟨G2,hG2⟩:∃ G,G=grpR (l.map (ofC sb)):=⟨_,rfl⟩
 obtain⟨NG2,hNG2⟩:∃ N,N=G2.length:=⟨_,rfl⟩
 have hNmG2:NG2≤40:=by rw[hNG2,hG2];have:=grp_le (l.map (ofC sb));rw[List.length_map,F.out.em] at this;omega
 have hokG2:OkL (dimsL sb).length mm G2:=by rw[hG2,← hnwG2];exact grp_okL (okL_nw sa sb HLo.out)
 have HNWG2:=Lib.hid hnwG2
 have HG2:=Lib.hid hG2
 have HNG2:=Lib.hid hNG2
 have HOG2:=Lib.hid hokG2
 have HFG2:=Lib.hid (hokG2.few (by have:=dims_few b1sb b2sb;omega) (by omega))
 clear hG2 hNG2 hnwG2 hokG2
 have hone:=fun (P:Option Addr) (c b:Nat) (alg:Int) (W:World) (hK:RowC W P m L) (hW:Below w.heap.size w W) (g1:3≤b) (g2:b≤9223372036854775807) (ha:alg=0∨alg=1)=>xOne_any P c m b dd mm sa sb alg L W hK HLm.out.symm HLo.out (by omega) (by omega) HON.out s1 s2 b1sb b2sb b3sb g1 g2 ha (HTT.out.keep (Keeps.of_below hW)) (Nat.lt_of_lt_of_le hw1 hW.size)
 rw[show grpR ((L).map (nwE sa sb))=G2 by rw[HNWG2.out,HG2.out]] at hone
 have ONE:=Lib.hid hone
 clear hone
 obtain⟨ka,hka⟩:∃ ka:Nat,(ka:Int)=a6 % 40:=⟨(a6 % 40).toNat,by omega⟩
 have hkan:ka<40:=by omega
 have Hka:=Lib.hid hka
 clear hka
 go_wp2_with fail
 refine (HW.out a6 40 w5 h6 (by omega) (by omega)).mono ?_
 rintro e w' ⟨rfl,hw'⟩
 subst hw'
 rw[← Hka.out]
 obtain⟨Ka,hKa⟩:∃ Ka,Ka=ka+3:=⟨_,rfl⟩
 have hw1:IntKind.i64.wrap (3+(ka:Int))=(Ka:Int):=by rw[IntWalk.i64_in _ (by omega),hKa];push_cast;omega
 have hKab:3≤Ka∧Ka≤42:=by omega
 clear hKa hkan
 go_wp2_with fail
 refine (ONE.out Pl cl Ka 0 w5 RL.out Hb5.out (by omega) (by omega) (.inl rfl)).mono ?_
 rintro e x7 ⟨v7,u7,rfl,g7,b7⟩
 obtain⟨P7,c7,f7,n7,-⟩:=g7.form
 have l7:u7.length=NG2:=by rw[g7.len,HNG2.out]
 rw[l7] at f7
 subst f7
 obtain⟨z7,hh7⟩:∃ h,h=hiX 0 Ka (dimsL sb).length ((L).map (nwE sa sb)):=⟨_,rfl⟩
 rw[← hh7]
 have HH7:=Lib.hid hh7
 have r7:=g7.rowC.1
 obtain⟨y7,hy7⟩:∃ y,y=x7.alloc (.cells #[.slice P7 NG2 c7,.int .i64 (z7:Nat)] 34):=⟨_,rfl⟩
 have hb7:Below x7.heap.size x7 y7:=by rw[hy7];exact (Below.refl _ _).alloc (Nat.le_refl _) _
 have o7:Own 34 y7 x7.heap.size [.slice P7 NG2 c7,.int .i64 (z7:Nat)]:=by rw[hy7];exact heap_alloc_new x7 _
 have hc7:=b7.trans (hb7.mono b7.size)
 have O7:=Lib.hid o7
 have R7:=Lib.hid (r7.keep (Keeps.of_below hb7))
 have B7:=Lib.hid (Hb5.out.trans (hc7.mono Hb5.out.size))
 have C7:=Lib.hid hc7
 have Y7:=Lib.hid hy7
 clear g7 b7 l7 hh7 r7 hy7 hb7 o7 hc7 n7
 obtain⟨kb,hkb⟩:∃ kb:Nat,(kb:Int)=a7 % 40:=⟨(a7 % 40).toNat,by omega⟩
 have hkbn:kb<40:=by omega
 have Hkb:=Lib.hid hkb
 clear hkb
 go_wp2_with fail
 rw[← Y7.out]
 refine (HW.out a7 40 y7 h7 (by omega) (by omega)).mono ?_
 rintro e w' ⟨rfl,hw'⟩
 subst hw'
 rw[← Hkb.out]
 obtain⟨Kb,hKb⟩:∃ Kb,Kb=kb+3:=⟨_,rfl⟩
 have hw2:IntKind.i64.wrap (3+(kb:Int))=(Kb:Int):=by rw[IntWalk.i64_in _ (by omega),hKb];push_cast;omega
 have hKbb:3≤Kb∧Kb≤42:=by omega
 clear hKb hkbn
 go_wp2_with fail
 refine (ONE.out Pl cl Kb 1 y7 (RL.out.keep (Keeps.of_below C7.out)) B7.out (by omega) (by omega) (.inr rfl)).mono ?_
 rintro e x8 ⟨v8,u8,rfl,g8,b8⟩
 obtain⟨P8,c8,f8,n8,-⟩:=g8.form
 have l8:u8.length=NG2:=by rw[g8.len,HNG2.out]
 rw[l8] at f8
 subst f8
 obtain⟨z8,hh8⟩:∃ h,h=hiX 1 Kb (dimsL sb).length ((L).map (nwE sa sb)):=⟨_,rfl⟩
 rw[← hh8]
 have HH8:=Lib.hid hh8
 have r8:=g8.rowC.1
 obtain⟨y8,hy8⟩:∃ y,y=x8.alloc (.cells #[.slice P8 NG2 c8,.int .i64 (z8:Nat)] 34):=⟨_,rfl⟩
 have hb8:Below x8.heap.size x8 y8:=by rw[hy8];exact (Below.refl _ _).alloc (Nat.le_refl _) _
 have o8:Own 34 y8 x8.heap.size [.slice P8 NG2 c8,.int .i64 (z8:Nat)]:=by rw[hy8];exact heap_alloc_new x8 _
 have hc8:=b8.trans (hb8.mono b8.size)
 have O8:=Lib.hid o8
 have R8:=Lib.hid (r8.keep (Keeps.of_below hb8))
 have B8:=Lib.hid (B7.out.trans (hc8.mono B7.out.size))
 have C8:=Lib.hid hc8
 have Y8:=Lib.hid hy8
 clear g8 b8 l8 hh8 r8 hy8 hb8 o8 hc8 n8
 have e70:=(O7.out.below C8.out O7.out.lt).cell (i:=0) rfl
 have e71:=(O7.out.below C8.out O7.out.lt).cell (i:=1) rfl
 try dsimp only at e70 e71
 have e80:=O8.out.cell (i:=0) rfl
 have e81:=O8.out.cell (i:=1) rfl
 try dsimp only at e80 e81
 go_upto_region 9 with (fail)
 rw[← Y8.out]
 go_wp2_with fail
 refine (same_yes P7 P8 NG2 c7 c8 G2 y8 (R7.out.keep (Keeps.of_below C8.out)) R8.out HNG2.out HFG2.out (by omega)).mono ?_
 rintro e x9 ⟨rfl,b9⟩
 have HEnd:=Lib.hid (B8.out.trans (b9.mono B8.out.size))
 go_wp2
 go_ret
 exact⟨by first | rfl | simp,HEnd.out⟩
end Go.Proofs.YtnjlkhhcfiedbaaGreatDoor

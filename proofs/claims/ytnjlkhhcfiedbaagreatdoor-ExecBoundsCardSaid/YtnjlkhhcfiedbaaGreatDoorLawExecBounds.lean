/- The law ExecBounds. -/
import Derived.IntWalk
import Derived.Test.YtnjlkhhcfiedbaaGreatDoorExL
import Derived.Test.YtnjlkhhcfiedbaaGreatDoorGood5
import Derived.Test.YtnjlkhhcfiedbaaGreatDoorFactsLaw2
import Derived.Test.YtnjlkhhcfiedbaaGreatDoorWith12
import Derived.Test.YtnjlkhhcfiedbaaGreatDoorMake
import Derived.Test.YtnjlkhhcfiedbaaGreatDoorIsRow
import Derived.Test.YtnjlkhhcfiedbaaGreatDoorRfacts
namespace Go.Proofs.YtnjlkhhcfiedbaaGreatDoor
open Go.RowKit
attribute [local go_sem] Oper.semAt_some
set_option maxRecDepth 100000 in
set_option maxHeartbeats 8000000 in
theorem execBounds_walk (a0:Int) (a1:Option Addr) (len1 cap1:Nat) (z1:List Int) (a2:Int) (a3:Option Addr) (len3 cap3:Nat) (z3:List Int) (a4:Int) (a5 a6 a7:Int) (w:World) (h0:inK .i64 a0) (w1:IsRow .i64 w a1 len1 cap1 z1) (h2:inK .i64 a2) (w3:IsRow .i64 w a3 len3 cap3 z3) (h4:inK .i64 a4) (h5:inK .i64 a5) (h6:inK .i64 a6) (h7:inK .i64 a7) (hT:Tab w) (hw1:1<w.heap.size) :
  Calls Tryz.prog 5 #[.int .i64 a0,.slice a1 len1 cap1,.int .i64 a2,.slice a3 len3 cap3,.int .i64 a4,.int .i64 a5,.int .i64 a6,.int .i64 a7] w fun e w'=>e=.returned (.bool true)∧Below w.heap.size w w':=by
 obtain⟨n1,lc1,cm1⟩:=w1.nums
 obtain⟨n3,lc3,cm3⟩:=w3.nums
 have HW:=Lib.hid (fun (x n:Int) (W:World) (h:inK .i64 x) (e1:1≤n) (e2:n≤1000000)=>lwithin12 x n W h e1 (by omega))
 have N1:=Lib.hid n1
 have N3:=Lib.hid n3
 have HKn:=Lib.hid (known12_any w hT hw1)
 clear w1 w3 n1 n3
 go_enter Tryz.func5,Tryz.ntmps5
 go_wp2_with fail
 refine HKn.out.mono ?_
 rintro e w1 ⟨rfl,hb1⟩
 have Hb1:=Lib.hid hb1
 clear hb1 HKn
 go_wp2_with fail
 refine (Facts_res a0 a2 a1 a3 len1 cap1 len3 cap3 _ _ w1 (N1.out.keep (Keeps.of_below Hb1.out)) (N3.out.keep (Keeps.of_below Hb1.out)) (by omega) (by omega) h0 h2).mono ?_
 rintro e w2 ⟨A,c,D,d,C,q,mm,m,cs,l,rfl,hF⟩
 have F:=Lib.hid hF
 obtain⟨k1,k2,k3,k4⟩:1≤q∧q≤4∧mm≤2∧m≤40:=⟨hF.q1,hF.q4,hF.m2,hF.m40⟩
 have hb2:Below w.heap.size w w2:=Hb1.out.trans (hF.below.mono Hb1.out.size)
 have hb3:Below w2.heap.size w2 (w2.alloc (.cells #[.slice A q c,.int .i64 mm] 25)):=(Below.refl _ _).alloc (Nat.le_refl _) _
 obtain⟨s1,s2,s3⟩:=set_bd a4 q k1 k2
 have Hb2:=Lib.hid hb2
 have Hb3:=Lib.hid hb3
 clear hF hb2 hb3 N1 N3
 go_wp2_with fail
 refine (set_any A q c mm a4 _ k1 k2 h4).mono ?_
 rintro e w4 ⟨rfl,rfl⟩
 obtain⟨sa,hsa⟩:∃ sa,sa=a4 % 2 ^ q:=⟨_,rfl⟩
 rw[← hsa] at s1 s2 s3 ⊢
 clear hsa
 have hb4:Below w2.heap.size w2 ((w2.alloc (.cells #[.slice A q c,.int .i64 mm] 25)).alloc (.cells #[.slice A q c,.int .i64 mm] 25)):=Hb3.out.alloc Hb3.out.size _
 have HB4:=Lib.hid hb4
 clear hb4
 generalize (w2.alloc (.cells #[.slice A q c,.int .i64 mm] 25)).alloc (.cells #[.slice A q c,.int .i64 mm] 25)=w4 at HB4 ⊢
 have hl4:∀ r ∈ l,r.key.length=q∧r.m.length=mm:=F.out.lens
 have HL4:=Lib.hid (fun r hr=>(show r.key.length≤4∧r.m.length=mm from ⟨by rw[(hl4 r hr).1];exact k2,(hl4 r hr).2⟩))
 have hmk:=fun W (hW:Below w2.heap.size w2 W)=>make_any D m d C sa l W (F.out.rows.below hW (Nat.le_refl _)) F.out.em k4 F.out.small (fun r hr=>by have:=hl4 r hr;omega) s1 s2
 obtain⟨L,hL⟩:∃ L,L=l.map (ofC sa):=⟨_,rfl⟩
 have hLm:L.length=m:=by rw[hL,List.length_map,F.out.em]
 obtain⟨dd,hdd⟩:∃ dd,dd=(dimsL sa).length:=⟨_,rfl⟩
 have hdd4:dd≤4:=by rw[hdd];exact dims_few s1 s2
 have hon:ones sa=(dd:Int):=by rw[hdd];exact ones_len sa s1 s2
 have hlq:∀ r ∈ l,r.key.length=q:=fun r hr=>(hl4 r hr).1
 have HLQ:=Lib.hid hlq
 have HON:=Lib.hid hon
 have hLo:OkL dd mm L:=by rw[hL,hdd];exact ok_dims (ok_cells sa F.out.right hl4 F.out.c16) hlq k2 s1 s3
 rw[← hL] at hmk
 have HMK:=Lib.hid hmk
 have HLo:=Lib.hid hLo
 have HLm:=Lib.hid hLm
 have HLL:=Lib.hid hL
 have HFA:=Lib.hid (fun (set:Int) (W:World) (hW:Below w2.heap.size w2 W) (e1:0≤set) (e2:set≤15)=>rFacts_any D m d C mm set l W (F.out.rows.below hW (Nat.le_refl _)) F.out.em k4 F.out.small HL4.out (by omega) e1 e2)
 have Hb24:=Lib.hid (Hb2.out.trans (HB4.out.mono Hb2.out.size))
 have HTT:=Lib.hid hT
 have HDD:=Lib.hid hdd
 clear hl4 hL hLm hdd hLo hmk hlq hon hT
 have hw16:=HW.out a5 16 w4 h5 (by omega) (by omega)
 go_wp2_with fail
 refine hw16.mono ?_
 clear hw16
 rintro e w' ⟨rfl,hw'⟩
 subst hw'
 obtain⟨b1sb,b2sb,b3sb⟩:=and_sub sa (a5 % 16) s1 s2 (by omega) (by omega)
 obtain⟨sb,hsb⟩:∃ s,s=bits .and .i64 sa (a5 % 16):=⟨_,rfl⟩
 rw[← hsb] at b1sb b2sb b3sb
 have HSbsb:=hsb.symm
 clear hsb
 have hnwG2:L.map (nwE sa sb)=l.map (ofC sb):=by rw[HLL.out];exact nwE_of HLQ.out k2 s1 s2 s3 b1sb b2sb b3sb
 obtain⟨G2,hG2⟩:∃ G,G=grpR (l.map (ofC sb)):=⟨_,rfl⟩
 obtain⟨NG2,hNG2⟩:∃ N,N=G2.length:=⟨_,rfl⟩
 have hNmG2:NG2≤40:=by rw[hNG2,hG2];have:=grp_le (l.map (ofC sb));rw[List.length_map,F.out.em] at this;omega
 have hokG2:OkL (dimsL sb).length mm G2:=by rw[hG2,← hnwG2];exact grp_okL (okL_nw sa sb HLo.out)
 have HNWG2:=Lib.hid hnwG2
 have HG2:=Lib.hid hG2
 have HNG2:=Lib.hid hNG2
 have HOG2:=Lib.hid hokG2
 have HFG2:=Lib.hid (hokG2.few (by have:=dims_few b1sb b2sb;omega) (by omega))
 clear hG2 hNG2 hnwG2 hokG2
 have hone:=fun (P:Option Addr) (c b:Nat) (alg:Int) (W:World) (hK:RowC W P m L) (hW:Below w.heap.size w W) (g1:3≤b) (g2:b≤9223372036854775807) (ha:alg=0∨alg=1)=>xOne_any P c m b dd mm sa sb alg L W hK HLm.out.symm HLo.out (by omega) (by omega) HON.out s1 s2 b1sb b2sb b3sb g1 g2 ha (HTT.out.keep (Keeps.of_below hW)) (Nat.lt_of_lt_of_le hw1 hW.size)
 rw[show grpR ((L).map (nwE sa sb))=G2 by rw[HNWG2.out,HG2.out]] at hone
 have ONE:=Lib.hid hone
 clear hone
 obtain⟨ka,hka⟩:∃ ka:Nat,(ka:Int)=a6 % 30:=⟨(a6 % 30).toNat,by omega⟩
 have hkan:ka<30:=by omega
 have Hka:=Lib.hid hka
 clear hka
 go_wp2_with fail
 refine (HW.out a6 30 w4 h6 (by omega) (by omega)).mono ?_
 rintro e w' ⟨rfl,hw'⟩
 subst hw'
 rw[← Hka.out]
 obtain⟨K,hK⟩:∃ K,K=ka+3:=⟨_,rfl⟩
 have hw1:IntKind.i64.wrap (3+(ka:Int))=(K:Int):=by rw[IntWalk.i64_in _ (by omega),hK];push_cast;omega
 have hKb:3≤K∧K≤32:=by omega
 clear hK hkan
 go_wp2_with fail
 refine (HMK.out w4 HB4.out).mono ?_
 rintro e x5 ⟨v5,u5,rfl,g5,b5⟩
 obtain⟨P5,c5,f5,-,-,-,p5⟩:=g5.form
 have l5:=g5.len
 rw[HLm.out] at l5
 rw[l5] at f5
 subst f5
 have R5:=Lib.hid g5.rowC.1
 have C5:=Lib.hid b5
 have B5:=Lib.hid (Hb24.out.trans (b5.mono Hb24.out.size))
 have D5:=Lib.hid ((HB4.out).trans (b5.mono (HB4.out).size))
 clear g5 b5 l5 p5
 obtain⟨kb,hkb⟩:∃ kb:Nat,(kb:Int)=a7 % 2:=⟨(a7 % 2).toNat,by omega⟩
 have hkbn:kb<2:=by omega
 have Hkb:=Lib.hid hkb
 clear hkb
 go_wp2_with fail
 refine (HW.out a7 2 x5 h7 (by omega) (by omega)).mono ?_
 rintro e w' ⟨rfl,hw'⟩
 subst hw'
 rw[← Hkb.out]
 go_wp2_with fail
 refine (ONE.out P5 c5 K (kb:Int) x5 R5.out B5.out (by omega) (by omega) (by omega)).mono ?_
 rintro e x7 ⟨v7,u7,rfl,g7,b7⟩
 obtain⟨P7,c7,f7,n7,-⟩:=g7.form
 have l7:u7.length=NG2:=by rw[g7.len,HNG2.out]
 rw[l7] at f7
 subst f7
 obtain⟨z7,hh7⟩:∃ h,h=hiX (kb:Int) K (dimsL sb).length ((L).map (nwE sa sb)):=⟨_,rfl⟩
 rw[← hh7]
 have HH7:=Lib.hid hh7
 have r7:=g7.rowC.1
 obtain⟨y7,hy7⟩:∃ y,y=x7.alloc (.cells #[.slice P7 NG2 c7,.int .i64 (z7:Nat)] 34):=⟨_,rfl⟩
 have hb7:Below x7.heap.size x7 y7:=by rw[hy7];exact (Below.refl _ _).alloc (Nat.le_refl _) _
 have o7:Own 34 y7 x7.heap.size [.slice P7 NG2 c7,.int .i64 (z7:Nat)]:=by rw[hy7];exact heap_alloc_new x7 _
 have hc7:=b7.trans (hb7.mono b7.size)
 have O7:=Lib.hid o7
 have R7:=Lib.hid (r7.keep (Keeps.of_below hb7))
 have B7:=Lib.hid (B5.out.trans (hc7.mono B5.out.size))
 have C7:=Lib.hid hc7
 have Y7:=Lib.hid hy7
 have D7:=Lib.hid ((D5.out).trans (hc7.mono (D5.out).size))
 clear g7 b7 l7 hh7 r7 hy7 hb7 o7 hc7 n7
 go_wp2_with fail
 rw[← Y7.out]
 have hfa:=HFA.out sb y7 (D7.out) b1sb b2sb
 rw[← HG2.out] at hfa
 refine hfa.mono ?_
 clear hfa
 rintro e x8 ⟨v8,u8,rfl,g8,b8⟩
 obtain⟨P8,c8,f8,-⟩:=g8.form
 have l8:u8.length=NG2:=by rw[g8.len,HNG2.out]
 rw[l8] at f8
 subst f8
 have R8:=Lib.hid g8.rowC.1
 have C8:=Lib.hid b8
 have B8:=Lib.hid (B7.out.trans (b8.mono B7.out.size))
 have D8:=Lib.hid ((D7.out).trans (b8.mono (D7.out).size))
 clear g8 b8 l8
 have hF:Fit (dimsL sb).length 0 (L.map (nwE sa sb)):=fit_of fun x hx=>⟨(okL_nw sa sb HLo.out x hx).1,(okL_nw sa sb HLo.out x hx).2.1⟩
 have hgl:(grpR (L.map (nwE sa sb))).length=NG2:=by rw[HNWG2.out,← HG2.out,HNG2.out]
 have q1:z7≤K:=by rw[HH7.out];exact hiX_le (by omega) hF
 have q2:NG2≤K→z7=NG2:=fun h=>by rw[HH7.out,hiX_few (by omega) hF (by omega) (by omega),hgl]
 have q3:0<z7 ↔ 0<NG2:=by rw[HH7.out,hiX_pos (by omega) hF,hgl]
 clear hF hgl
 have e70:=(O7.out.below C8.out O7.out.lt).cell (i:=0) rfl
 have e71:=(O7.out.below C8.out O7.out.lt).cell (i:=1) rfl
 try dsimp only at e70 e71
 have d1:decide ((z7:Int)≤(K:Int))=true:=decide_eq_true (by omega)
 have HEnd:=Lib.hid B8.out
 by_cases hk:K<NG2
 ·have d2:decide ((K:Int)<(NG2:Int))=true:=decide_eq_true (by omega)
  have d3:decide ((0:Int)<(z7:Int))=true:=decide_eq_true (by omega)
  have d4:decide ((0:Int)<(NG2:Int))=true:=decide_eq_true (by omega)
  go_wp2
  go_ret
  exact⟨by first | rfl | simp,HEnd.out⟩
 ·have d2:decide ((K:Int)<(NG2:Int))=false:=decide_eq_false (by omega)
  have hz:=q2 (by omega)
  subst hz
  have d5:((z7:Int) == (z7:Int))=true:=by simp
  by_cases hp:0<z7
  ·have d3:decide ((0:Int)<(z7:Int))=true:=decide_eq_true (by omega)
   go_wp2
   go_ret
   exact⟨by first | rfl | simp,HEnd.out⟩
  ·have d3:decide ((0:Int)<(z7:Int))=false:=decide_eq_false (by omega)
   go_wp2
   go_ret
   exact⟨by first | rfl | simp,HEnd.out⟩
end Go.Proofs.YtnjlkhhcfiedbaaGreatDoor

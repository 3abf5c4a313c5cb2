/- The law ExecGroups. -/
import Derived.IntWalk
import Derived.Test.YtnjlkhhcfiedbaaGreatDoorSl
import Derived.Test.YtnjlkhhcfiedbaaGreatDoorExL
import Derived.Test.YtnjlkhhcfiedbaaGreatDoorGood5
import Derived.Test.YtnjlkhhcfiedbaaGreatDoorFactsLaw2
import Derived.Test.YtnjlkhhcfiedbaaGreatDoorWith12
import Derived.Test.YtnjlkhhcfiedbaaGreatDoorMake
import Derived.Test.YtnjlkhhcfiedbaaGreatDoorIsRow
import Derived.Test.YtnjlkhhcfiedbaaGreatDoorRfacts
namespace Go.Proofs.YtnjlkhhcfiedbaaGreatDoor
open Go.RowKit
attribute [local go_sem] Oper.semAt_some
set_option maxRecDepth 100000 in
set_option maxHeartbeats 8000000 in
theorem execGroups_walk (a0:Int) (a1:Option Addr) (len1 cap1:Nat) (z1:List Int) (a2:Int) (a3:Option Addr) (len3 cap3:Nat) (z3:List Int) (a4:Int) (a5 a6 a7:Int) (w:World) (h0:inK .i64 a0) (w1:IsRow .i64 w a1 len1 cap1 z1) (h2:inK .i64 a2) (w3:IsRow .i64 w a3 len3 cap3 z3) (h4:inK .i64 a4) (h5:inK .i64 a5) (h6:inK .i64 a6) (h7:inK .i64 a7) (hT:Tab w) (hw1:1<w.heap.size) :
  Calls Tryz.prog 4 #[.int .i64 a0,.slice a1 len1 cap1,.int .i64 a2,.slice a3 len3 cap3,.int .i64 a4,.int .i64 a5,.int .i64 a6,.int .i64 a7] w fun e w'=>e=.returned (.bool true)∧Below w.heap.size w w':=by
 obtain⟨n1,lc1,cm1⟩:=w1.nums
 obtain⟨n3,lc3,cm3⟩:=w3.nums
 have HW:=Lib.hid (fun (x n:Int) (W:World) (h:inK .i64 x) (e1:1≤n) (e2:n≤1000000)=>lwithin12 x n W h e1 (by omega))
 have N1:=Lib.hid n1
 have N3:=Lib.hid n3
 have HKn:=Lib.hid (known12_any w hT hw1)
 clear w1 w3 n1 n3
 go_enter Tryz.func4,Tryz.ntmps4
 go_wp2_with fail
 refine HKn.out.mono ?_
 rintro e w1 ⟨rfl,hb1⟩
 have Hb1:=Lib.hid hb1
 clear hb1 HKn
 go_wp2_with fail
 refine (Facts_res a0 a2 a1 a3 len1 cap1 len3 cap3 _ _ w1 (N1.out.keep (Keeps.of_below Hb1.out)) (N3.out.keep (Keeps.of_below Hb1.out)) (by omega) (by omega) h0 h2).mono ?_
 rintro e w2 ⟨A,c,D,d,C,q,mm,m,cs,l,rfl,hF⟩
 have F:=Lib.hid hF
 obtain⟨k1,k2,k3,k4⟩:1≤q∧q≤4∧mm≤2∧m≤40:=⟨hF.q1,hF.q4,hF.m2,hF.m40⟩
 have hb2:Below w.heap.size w w2:=Hb1.out.trans (hF.below.mono Hb1.out.size)
 have hb3:Below w2.heap.size w2 (w2.alloc (.cells #[.slice A q c,.int .i64 mm] 25)):=(Below.refl _ _).alloc (Nat.le_refl _) _
 obtain⟨s1,s2,s3⟩:=set_bd a4 q k1 k2
 have Hb2:=Lib.hid hb2
 have Hb3:=Lib.hid hb3
 clear hF hb2 hb3 N1 N3
 go_wp2_with fail
 refine (set_any A q c mm a4 _ k1 k2 h4).mono ?_
 rintro e w4 ⟨rfl,rfl⟩
 obtain⟨sa,hsa⟩:∃ sa,sa=a4 % 2 ^ q:=⟨_,rfl⟩
 rw[← hsa] at s1 s2 s3 ⊢
 clear hsa
 have hb4:Below w2.heap.size w2 ((w2.alloc (.cells #[.slice A q c,.int .i64 mm] 25)).alloc (.cells #[.slice A q c,.int .i64 mm] 25)):=Hb3.out.alloc Hb3.out.size _
 have HB4:=Lib.hid hb4
 clear hb4
 generalize (w2.alloc (.cells #[.slice A q c,.int .i64 mm] 25)).alloc (.cells #[.slice A q c,.int .i64 mm] 25)=w4 at HB4 ⊢
 have hl4:∀ r ∈ l,r.key.length=q∧r.m.length=mm:=F.out.lens
 have HL4:=Lib.hid (fun r hr=>(show r.key.length≤4∧r.m.length=mm from ⟨by rw[(hl4 r hr).1];exact k2,(hl4 r hr).2⟩))
 have hmk:=fun W (hW:Below w2.heap.size w2 W)=>make_any D m d C sa l W (F.out.rows.below hW (Nat.le_refl _)) F.out.em k4 F.out.small (fun r hr=>by have:=hl4 r hr;omega) s1 s2
 obtain⟨L,hL⟩:∃ L,L=l.map (ofC sa):=⟨_,rfl⟩
 have hLm:L.length=m:=by rw[hL,List.length_map,F.out.em]
 obtain⟨dd,hdd⟩:∃ dd,dd=(dimsL sa).length:=⟨_,rfl⟩
 have hdd4:dd≤4:=by rw[hdd];exact dims_few s1 s2
 have hon:ones sa=(dd:Int):=by rw[hdd];exact ones_len sa s1 s2
 have hlq:∀ r ∈ l,r.key.length=q:=fun r hr=>(hl4 r hr).1
 have HLQ:=Lib.hid hlq
 have HON:=Lib.hid hon
 have hLo:OkL dd mm L:=by rw[hL,hdd];exact ok_dims (ok_cells sa F.out.right hl4 F.out.c16) hlq k2 s1 s3
 rw[← hL] at hmk
 have HMK:=Lib.hid hmk
 have HLo:=Lib.hid hLo
 have HLm:=Lib.hid hLm
 have HLL:=Lib.hid hL
 have HFA:=Lib.hid (fun (set:Int) (W:World) (hW:Below w2.heap.size w2 W) (e1:0≤set) (e2:set≤15)=>rFacts_any D m d C mm set l W (F.out.rows.below hW (Nat.le_refl _)) F.out.em k4 F.out.small HL4.out (by omega) e1 e2)
 have Hb24:=Lib.hid (Hb2.out.trans (HB4.out.mono Hb2.out.size))
 have HTT:=Lib.hid hT
 have HDD:=Lib.hid hdd
 clear hl4 hL hLm hdd hLo hmk hlq hon hT
 obtain⟨G1,hG1⟩:∃ G,G=grpR L:=⟨_,rfl⟩
 obtain⟨N1,hN1⟩:∃ N,N=G1.length:=⟨_,rfl⟩
 have hNm1:N1≤40:=by rw[hN1,hG1];have:=grp_le L;have:=HLm.out;omega
 have hok1:OkL dd mm G1:=by rw[hG1];exact grp_okL HLo.out
 have HG1:=Lib.hid hG1
 have HN1:=Lib.hid hN1
 have HO1:=Lib.hid hok1
 clear hG1 hN1 hok1
 have hw16:=HW.out a5 16 w4 h5 (by omega) (by omega)
 go_wp2_with fail
 refine hw16.mono ?_
 clear hw16
 rintro e w' ⟨rfl,hw'⟩
 subst hw'
 obtain⟨b1sb,b2sb,b3sb⟩:=and_sub sa (a5 % 16) s1 s2 (by omega) (by omega)
 obtain⟨sb,hsb⟩:∃ s,s=bits .and .i64 sa (a5 % 16):=⟨_,rfl⟩
 rw[← hsb] at b1sb b2sb b3sb
 have HSbsb:=hsb.symm
 clear hsb
 have hnwG2:L.map (nwE sa sb)=l.map (ofC sb):=by rw[HLL.out];exact nwE_of HLQ.out k2 s1 s2 s3 b1sb b2sb b3sb
 obtain⟨G2,hG2⟩:∃ G,G=grpR (l.map (ofC sb)):=⟨_,rfl⟩
 obtain⟨NG2,hNG2⟩:∃ N,N=G2.length:=⟨_,rfl⟩
 have hNmG2:NG2≤40:=by rw[hNG2,hG2];have:=grp_le (l.map (ofC sb));rw[List.length_map,F.out.em] at this;omega
 have hokG2:OkL (dimsL sb).length mm G2:=by rw[hG2,← hnwG2];exact grp_okL (okL_nw sa sb HLo.out)
 have HNWG2:=Lib.hid hnwG2
 have HG2:=Lib.hid hG2
 have HNG2:=Lib.hid hNG2
 have HOG2:=Lib.hid hokG2
 have HFG2:=Lib.hid (hokG2.few (by have:=dims_few b1sb b2sb;omega) (by omega))
 clear hG2 hNG2 hnwG2 hokG2
 have hone:=fun (P:Option Addr) (c b:Nat) (alg:Int) (W:World) (hK:RowC W P N1 G1) (hW:Below w.heap.size w W) (g1:3≤b) (g2:b≤9223372036854775807) (ha:alg=0∨alg=1)=>xOne_any P c N1 b dd mm sa sb alg G1 W hK HN1.out HO1.out (by omega) (by omega) HON.out s1 s2 b1sb b2sb b3sb g1 g2 ha (HTT.out.keep (Keeps.of_below hW)) (Nat.lt_of_lt_of_le hw1 hW.size)
 rw[show grpR ((G1).map (nwE sa sb))=G2 by rw[HG1.out,grpR_map (nwE_goes sa sb),HNWG2.out,HG2.out]] at hone
 have ONE:=Lib.hid hone
 clear hone
 have hone:=fun (P:Option Addr) (c b:Nat) (alg:Int) (W:World) (hK:RowC W P m L) (hW:Below w.heap.size w W) (g1:3≤b) (g2:b≤9223372036854775807) (ha:alg=0∨alg=1)=>xOne_any P c m b dd mm sa sb alg L W hK HLm.out.symm HLo.out (by omega) (by omega) HON.out s1 s2 b1sb b2sb b3sb g1 g2 ha (HTT.out.keep (Keeps.of_below hW)) (Nat.lt_of_lt_of_le hw1 hW.size)
 rw[show grpR ((L).map (nwE sa sb))=G2 by rw[HNWG2.out,HG2.out]] at hone
 have ONEb:=Lib.hid hone
 clear hone
 go_wp2_with fail
 have hfa:=HFA.out sa w4 (HB4.out) s1 s2
 rw[← show G1=grpR (l.map (ofC sa)) from by rw[HG1.out,HLL.out]] at hfa
 refine hfa.mono ?_
 clear hfa
 rintro e x5 ⟨v5,u5,rfl,g5,b5⟩
 obtain⟨P5,c5,f5,-⟩:=g5.form
 have l5:u5.length=N1:=by rw[g5.len,HN1.out]
 rw[l5] at f5
 subst f5
 have R5:=Lib.hid g5.rowC.1
 have C5:=Lib.hid b5
 have B5:=Lib.hid (Hb24.out.trans (b5.mono Hb24.out.size))
 have D5:=Lib.hid ((HB4.out).trans (b5.mono (HB4.out).size))
 clear g5 b5 l5
 obtain⟨ka,hka⟩:∃ ka:Nat,(ka:Int)=a6 % 20:=⟨(a6 % 20).toNat,by omega⟩
 have hkan:ka<20:=by omega
 have Hka:=Lib.hid hka
 clear hka
 go_wp2_with fail
 refine (HW.out a6 20 x5 h6 (by omega) (by omega)).mono ?_
 rintro e w' ⟨rfl,hw'⟩
 subst hw'
 rw[← Hka.out]
 obtain⟨K,hK⟩:∃ K,K=ka+3:=⟨_,rfl⟩
 have hw1:IntKind.i64.wrap (3+(ka:Int))=(K:Int):=by rw[IntWalk.i64_in _ (by omega),hK];push_cast;omega
 have hKb:3≤K∧K≤22:=by omega
 clear hK hkan
 obtain⟨kb,hkb⟩:∃ kb:Nat,(kb:Int)=a7 % 2:=⟨(a7 % 2).toNat,by omega⟩
 have hkbn:kb<2:=by omega
 have Hkb:=Lib.hid hkb
 clear hkb
 go_wp2_with fail
 refine (HW.out a7 2 x5 h7 (by omega) (by omega)).mono ?_
 rintro e w' ⟨rfl,hw'⟩
 subst hw'
 rw[← Hkb.out]
 obtain⟨al,hal⟩:∃ a:Int,a=1 - (kb:Int):=⟨_,rfl⟩
 have hwa:IntKind.i64.wrap (1 - (kb:Int))=al:=by rw[IntWalk.i64_in _ (by omega),hal]
 have halg:al=0∨al=1:=by omega
 clear hal
 have hqb:-9223372036854775808≤a6.tdiv 20∧a6.tdiv 20≤9223372036854775807:=by
  have g1:-9223372036854775808≤a6:=h6.1
  have g2:a6≤9223372036854775807:=h6.2
  rcases Int.le_total 0 a6 with h | h
  ·rw[Int.tdiv_eq_ediv_of_nonneg h]
   omega
  ·have e:a6.tdiv 20=-((-a6).tdiv 20):=by rw[Int.neg_tdiv,Int.neg_neg]
   rw[e,Int.tdiv_eq_ediv_of_nonneg (by omega)]
   omega
 obtain⟨aq,haq⟩:∃ z,z=a6.tdiv 20:=⟨_,rfl⟩
 rw[← haq] at hqb
 have hwq:IntKind.i64.wrap (a6.tdiv 20)=aq:=by
  rw[← haq]
  exact IntWalk.i64_in _ hqb
 have hq6:inK .i64 aq:=hqb
 clear hqb
 clear haq
 go_wp2_with fail
 refine (ONE.out P5 c5 K (kb:Int) x5 R5.out B5.out (by omega) (by omega) (by omega)).mono ?_
 rintro e x7 ⟨v7,u7,rfl,g7,b7⟩
 obtain⟨P7,c7,f7,n7,-⟩:=g7.form
 have l7:u7.length=NG2:=by rw[g7.len,HNG2.out]
 rw[l7] at f7
 subst f7
 obtain⟨z7,hh7⟩:∃ h,h=hiX (kb:Int) K (dimsL sb).length ((G1).map (nwE sa sb)):=⟨_,rfl⟩
 rw[← hh7]
 have HH7:=Lib.hid hh7
 have r7:=g7.rowC.1
 obtain⟨y7,hy7⟩:∃ y,y=x7.alloc (.cells #[.slice P7 NG2 c7,.int .i64 (z7:Nat)] 34):=⟨_,rfl⟩
 have hb7:Below x7.heap.size x7 y7:=by rw[hy7];exact (Below.refl _ _).alloc (Nat.le_refl _) _
 have o7:Own 34 y7 x7.heap.size [.slice P7 NG2 c7,.int .i64 (z7:Nat)]:=by rw[hy7];exact heap_alloc_new x7 _
 have hc7:=b7.trans (hb7.mono b7.size)
 have O7:=Lib.hid o7
 have R7:=Lib.hid (r7.keep (Keeps.of_below hb7))
 have B7:=Lib.hid (B5.out.trans (hc7.mono B5.out.size))
 have C7:=Lib.hid hc7
 have Y7:=Lib.hid hy7
 have D7:=Lib.hid ((D5.out).trans (hc7.mono (D5.out).size))
 clear g7 b7 l7 hh7 r7 hy7 hb7 o7 hc7 n7
 go_wp2_with fail
 rw[← Y7.out]
 refine (HMK.out y7 D7.out).mono ?_
 rintro e x8 ⟨v8,u8,rfl,g8,b8⟩
 obtain⟨P8,c8,f8,-,-,-,p8⟩:=g8.form
 have l8:=g8.len
 rw[HLm.out] at l8
 rw[l8] at f8
 subst f8
 have R8:=Lib.hid g8.rowC.1
 have C8:=Lib.hid b8
 have B8:=Lib.hid (B7.out.trans (b8.mono B7.out.size))
 have D8:=Lib.hid ((D7.out).trans (b8.mono (D7.out).size))
 clear g8 b8 l8 p8
 obtain⟨kc,hkc⟩:∃ kc:Nat,(kc:Int)=aq % 20:=⟨(aq % 20).toNat,by omega⟩
 have hkcn:kc<20:=by omega
 have Hkc:=Lib.hid hkc
 clear hkc
 go_wp2_with fail
 refine (HW.out aq 20 x8 hq6 (by omega) (by omega)).mono ?_
 rintro e w' ⟨rfl,hw'⟩
 subst hw'
 rw[← Hkc.out]
 obtain⟨K2,hK2⟩:∃ K2,K2=kc+3:=⟨_,rfl⟩
 have hw2:IntKind.i64.wrap (3+(kc:Int))=(K2:Int):=by rw[IntWalk.i64_in _ (by omega),hK2];push_cast;omega
 have hK2b:3≤K2∧K2≤22:=by omega
 clear hK2 hkcn
 have hw2:=HW.out a7 2 x8 h7 (by omega) (by omega)
 go_wp2_with fail
 refine hw2.mono ?_
 clear hw2
 rintro e w' ⟨rfl,hw'⟩
 subst hw'
 rw[← Hkb.out]
 go_wp2_with fail
 refine (ONEb.out P8 c8 K2 al x8 R8.out B8.out (by omega) (by omega) halg).mono ?_
 rintro e x10 ⟨v10,u10,rfl,g10,b10⟩
 obtain⟨P10,c10,f10,n10,-⟩:=g10.form
 have l10:u10.length=NG2:=by rw[g10.len,HNG2.out]
 rw[l10] at f10
 subst f10
 obtain⟨z10,hh10⟩:∃ h,h=hiX al K2 (dimsL sb).length ((L).map (nwE sa sb)):=⟨_,rfl⟩
 rw[← hh10]
 have HH10:=Lib.hid hh10
 have r10:=g10.rowC.1
 obtain⟨y10,hy10⟩:∃ y,y=x10.alloc (.cells #[.slice P10 NG2 c10,.int .i64 (z10:Nat)] 34):=⟨_,rfl⟩
 have hb10:Below x10.heap.size x10 y10:=by rw[hy10];exact (Below.refl _ _).alloc (Nat.le_refl _) _
 have o10:Own 34 y10 x10.heap.size [.slice P10 NG2 c10,.int .i64 (z10:Nat)]:=by rw[hy10];exact heap_alloc_new x10 _
 have hc10:=b10.trans (hb10.mono b10.size)
 have O10:=Lib.hid o10
 have R10:=Lib.hid (r10.keep (Keeps.of_below hb10))
 have B10:=Lib.hid (B8.out.trans (hc10.mono B8.out.size))
 have C10:=Lib.hid hc10
 have Y10:=Lib.hid hy10
 have D10:=Lib.hid ((D8.out).trans (hc10.mono (D8.out).size))
 clear g10 b10 l10 hh10 r10 hy10 hb10 o10 hc10 n10
 have hc10:=C8.out.trans (C10.out.mono C8.out.size)
 have HR7:=Lib.hid (R7.out.keep (Keeps.of_below hc10))
 have e70:=(O7.out.below hc10 O7.out.lt).cell (i:=0) rfl
 have e100:=O10.out.cell (i:=0) rfl
 try dsimp only at e70 e100
 obtain⟨b7,hb7⟩:∃ b,b=x7.heap.size:=⟨_,rfl⟩
 obtain⟨b10,hb10⟩:∃ b,b=x10.heap.size:=⟨_,rfl⟩
 rw[← hb7] at e70
 rw[← hb10] at e100
 have hfa:=HFA.out sb y10.drew (D10.out.drew) b1sb b2sb
 rw[← HG2.out] at hfa
 have HFX:=Lib.hid hfa
 clear hc10 hfa
 go_upto_region 8 with (fail)
 rw[← Y10.out,← hb7,← hb10]
 clear hb7 hb10
 refine wp_region_held_drew (S:=fun W=>W.cell? ⟨b7,0,none⟩=some (.slice P7 NG2 c7)∧W.cell? ⟨b10,0,none⟩=some (.slice P10 NG2 c10)) (by kernel_rfl) ⟨e70,e100⟩ (fun hHeld=>?_)
 clear e70 e100
 refine WTH (i:=0) (v:=?vga0) ?yga0 hHeld ?rga0
 case yga0=>(intro W hW;obtain⟨g0,g1⟩:=hW;go_simp;first | done | with_reducible rfl)
 try simp only[SL,Act.put]
 refine WTH (i:=1) (v:=?vga1) ?yga1 hHeld ?rga1
 case yga1=>(intro W hW;obtain⟨g0,g1⟩:=hW;go_simp;first | done | with_reducible rfl)
 try simp only[SL,Act.put]
 refine WTH (i:=2) (v:=?vga2) ?yga2 hHeld ?rga2
 case yga2=>(intro W hW;obtain⟨g0,g1⟩:=hW;go_simp;first | done | with_reducible rfl)
 try simp only[SL,Act.put]
 refine WTH (i:=3) (v:=?vga3) ?yga3 hHeld ?rga3
 case yga3=>(intro W hW;obtain⟨g0,g1⟩:=hW;go_simp;first | done | with_reducible rfl)
 try simp only[SL,Act.put]
 refine WTH (i:=4) (v:=?vga4) ?yga4 hHeld ?rga4
 case yga4=>(intro W hW;obtain⟨g0,g1⟩:=hW;go_simp;first | done | with_reducible rfl)
 try simp only[SL,Act.put]
 refine WTH (i:=5) (v:=?vga5) ?yga5 hHeld ?rga5
 case yga5=>(intro W hW;obtain⟨g0,g1⟩:=hW;go_simp;first | done | with_reducible rfl)
 try simp only[SL,Act.put]
 refine WTH (i:=6) (v:=?vga6) ?yga6 hHeld ?rga6
 case yga6=>(intro W hW;obtain⟨g0,g1⟩:=hW;go_simp;first | done | with_reducible rfl)
 try simp only[SL,Act.put]
 refine WTH (i:=7) (v:=?vga7) ?yga7 hHeld ?rga7
 case yga7=>(intro W hW;obtain⟨g0,g1⟩:=hW;go_simp;first | done | with_reducible rfl)
 try simp only[SL,Act.put]
 refine WTH (i:=8) (v:=?vga8) ?yga8 hHeld ?rga8
 case yga8=>(intro W hW;obtain⟨g0,g1⟩:=hW;go_simp;first | done | with_reducible rfl)
 try simp only[SL,Act.put]
 refine WTH (i:=9) (v:=?vga9) ?yga9 hHeld ?rga9
 case yga9=>(intro W hW;obtain⟨g0,g1⟩:=hW;go_simp;first | done | with_reducible rfl)
 try simp only[SL,Act.put]
 refine WTH (i:=10) (v:=?vga10) ?yga10 hHeld ?rga10
 case yga10=>(intro W hW;obtain⟨g0,g1⟩:=hW;go_simp;first | done | with_reducible rfl)
 try simp only[SL,Act.put]
 refine wpAnyH_ready (rs:=[11]) (by kernel_rfl) (by simp) ?_
 refine AllReadyH.cons rfl (fun K hK=>?_) (AllReadyH.nil)
 go_simp
 refine HFX.out.mono ?_
 rintro e11 x11 ⟨v11,u11,rfl,g11,b11⟩
 obtain⟨P11,c11,f11,-⟩:=g11.form
 have l11:u11.length=NG2:=by rw[g11.len,HNG2.out]
 rw[l11] at f11
 subst f11
 have R11:=Lib.hid g11.rowC.1
 have b11':Below y10.heap.size y10 x11:=(Below.refl y10.heap.size y10).drew.trans b11
 have C11:=Lib.hid b11'
 have kp:=Keeps.of_below b11
 clear g11 b11 l11 b11'
 refine hK.out _ _ ((⟨kp _ _ hHeld.1,kp _ _ hHeld.2⟩)) (fun hHeld=>?_)
 clear hK K
 try simp only[SL,Act.put]
 clear kp
 refine wpAnyH_ready (rs:=[12]) (by kernel_rfl) (by simp) ?_
 refine AllReadyH.cons rfl (fun K hK=>?_) (AllReadyH.nil)
 go_simp
 refine (same_yes P7 P11 NG2 c7 c11 G2 x11 (HR7.out.keep (Keeps.of_below C11.out)) R11.out HNG2.out HFG2.out (by omega)).mono ?_
 rintro e12 x12 ⟨rfl,b12⟩
 have C12:=Lib.hid (C11.out.trans (b12.mono C11.out.size))
 have kp:=Keeps.of_below b12
 clear b12
 refine hK.out _ _ ((⟨kp _ _ hHeld.1,kp _ _ hHeld.2⟩)) (fun hHeld=>?_)
 clear hK K
 try simp only[SL,Act.put]
 clear kp
 refine WTH (i:=13) (v:=?vga13) ?yga13 hHeld ?rga13
 case yga13=>(intro W hW;obtain⟨g0,g1⟩:=hW;go_simp;first | done | with_reducible rfl)
 try simp only[SL,Act.put]
 refine WTH (i:=14) (v:=?vga14) ?yga14 hHeld ?rga14
 case yga14=>(intro W hW;obtain⟨g0,g1⟩:=hW;go_simp;first | done | with_reducible rfl)
 try simp only[SL,Act.put]
 refine WTH (i:=15) (v:=?vga15) ?yga15 hHeld ?rga15
 case yga15=>(intro W hW;obtain⟨g0,g1⟩:=hW;go_simp;first | done | with_reducible rfl)
 try simp only[SL,Act.put]
 refine WTH (i:=16) (v:=?vga16) ?yga16 hHeld ?rga16
 case yga16=>(intro W hW;obtain⟨g0,g1⟩:=hW;go_simp;first | done | with_reducible rfl)
 try simp only[SL,Act.put]
 refine WTH (i:=17) (v:=?vga17) ?yga17 hHeld ?rga17
 case yga17=>(intro W hW;obtain⟨g0,g1⟩:=hW;go_simp;first | done | with_reducible rfl)
 try simp only[SL,Act.put]
 refine WTH (i:=18) (v:=?vga18) ?yga18 hHeld ?rga18
 case yga18=>(intro W hW;obtain⟨g0,g1⟩:=hW;go_simp;first | done | with_reducible rfl)
 try simp only[SL,Act.put]
 refine wpAnyH_ready (rs:=[19]) (by kernel_rfl) (by simp) ?_
 refine AllReadyH.cons rfl (fun K hK=>?_) (AllReadyH.nil)
 go_simp
 refine (same_yes P10 P7 NG2 c10 c7 G2 x12 (R10.out.keep (Keeps.of_below C12.out)) (HR7.out.keep (Keeps.of_below C12.out)) HNG2.out HFG2.out (by omega)).mono ?_
 rintro e13 x13 ⟨rfl,b13⟩
 have C13:=Lib.hid (C12.out.trans (b13.mono C12.out.size))
 have kp:=Keeps.of_below b13
 clear b13
 refine hK.out _ _ ((⟨kp _ _ hHeld.1,kp _ _ hHeld.2⟩)) (fun hHeld=>?_)
 clear hK K
 try simp only[SL,Act.put]
 clear kp
 refine WTH (i:=20) (v:=?vga20) ?yga20 hHeld ?rga20
 case yga20=>(intro W hW;obtain⟨g0,g1⟩:=hW;go_simp;first | done | with_reducible rfl)
 try simp only[SL,Act.put]
 refine WTH (i:=21) (v:=?vga21) ?yga21 hHeld ?rga21
 case yga21=>(intro W hW;obtain⟨g0,g1⟩:=hW;go_simp;first | done | with_reducible rfl)
 try simp only[SL,Act.put]
 refine wpAnyH_done (by kernel_rfl) ?_ _
 clear hHeld
 have HEnd:=Lib.hid (B10.out.trans (C13.out.mono B10.out.size))
 go_wp2
 go_ret
 exact⟨by first | rfl | simp,HEnd.out⟩
end Go.Proofs.YtnjlkhhcfiedbaaGreatDoor

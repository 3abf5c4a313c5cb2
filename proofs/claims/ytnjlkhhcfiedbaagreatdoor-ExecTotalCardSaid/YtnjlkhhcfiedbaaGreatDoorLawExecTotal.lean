/- The law ExecTotal. -/
import Derived.IntWalk
import Derived.Test.YtnjlkhhcfiedbaaGreatDoorExL
import Derived.Test.YtnjlkhhcfiedbaaGreatDoorGood5
import Derived.Test.YtnjlkhhcfiedbaaGreatDoorFactsLaw2
import Derived.Test.YtnjlkhhcfiedbaaGreatDoorWith12
import Derived.Test.YtnjlkhhcfiedbaaGreatDoorMake
import Derived.Test.YtnjlkhhcfiedbaaGreatDoorIsRow
import Derived.Test.YtnjlkhhcfiedbaaGreatDoorRfacts
namespace Go.Proofs.YtnjlkhhcfiedbaaGreatDoor
open Go.RowKit
attribute [local go_sem] Oper.semAt_some
theorem tot0 {d mm:Nat} {l:List Cel} (hd:d=0) (ho:OkL d mm l) (h1:∀ x ∈ l,x.cnt=1) (hn:l ≠ []) (hl:l.length≤60):∃ x,grpR l=[x]∧x.key=[]∧x.cnt=(l.length:Int):=by
 subst hd
 have hF:Fit 0 0 l:=fit_of fun x hx=>⟨(ho x hx).1,(ho x hx).2.1⟩
 have h2:=fit_end hF
 have h3:=grp_pos hn
 obtain⟨x,hx⟩:=List.length_eq_one_iff.1 (show (grpR l).length=1 by omega)
 have hk:=(grp_okL ho x (by rw[hx];simp)).1
 have hc:=(grp_cnts l [] (fun y hy=>by cases hy) (fun y hy=>by rw[h1 y hy];decide) (by rw[cnts_one h1];simp[cnts];omega)).2
 rw[show l.foldl putC []=grpR l from rfl,hx,cnts_one h1] at hc
 exact⟨x,hx,List.length_eq_zero_iff.1 hk,by simpa [cnts] using hc⟩
theorem dims0:(dimsL 0).length=0:=by decide
theorem not0:∀ a:Fin 16,bits .andNot .i64 0 (a.val:Int)=0:=by decide +kernel
set_option maxRecDepth 100000 in
set_option maxHeartbeats 8000000 in
theorem execTotal_walk (a0:Int) (a1:Option Addr) (len1 cap1:Nat) (z1:List Int) (a2:Int) (a3:Option Addr) (len3 cap3:Nat) (z3:List Int) (a4:Int) (a5 a6:Int) (w:World) (h0:inK .i64 a0) (w1:IsRow .i64 w a1 len1 cap1 z1) (h2:inK .i64 a2) (w3:IsRow .i64 w a3 len3 cap3 z3) (h4:inK .i64 a4) (h5:inK .i64 a5) (h6:inK .i64 a6) (hT:Tab w) (hw1:1<w.heap.size) :
  Calls Tryz.prog 11 #[.int .i64 a0,.slice a1 len1 cap1,.int .i64 a2,.slice a3 len3 cap3,.int .i64 a4,.int .i64 a5,.int .i64 a6] w fun e w'=>e=.returned (.bool true)∧Below w.heap.size w w':=by
 obtain⟨n1,lc1,cm1⟩:=w1.nums
 obtain⟨n3,lc3,cm3⟩:=w3.nums
 have HW:=Lib.hid (fun (x n:Int) (W:World) (h:inK .i64 x) (e1:1≤n) (e2:n≤1000000)=>lwithin12 x n W h e1 (by omega))
 have N1:=Lib.hid n1
 have N3:=Lib.hid n3
 have HKn:=Lib.hid (known12_any w hT hw1)
 clear w1 w3 n1 n3
 go_enter Tryz.func11,Tryz.ntmps11
 go_wp2_with fail
 refine HKn.out.mono ?_
 rintro e w1 ⟨rfl,hb1⟩
 have Hb1:=Lib.hid hb1
 clear hb1 HKn
 go_wp2_with fail
 refine (Facts_res a0 a2 a1 a3 len1 cap1 len3 cap3 _ _ w1 (N1.out.keep (Keeps.of_below Hb1.out)) (N3.out.keep (Keeps.of_below Hb1.out)) (by omega) (by omega) h0 h2).mono ?_
 rintro e w2 ⟨A,c,D,d,C,q,mm,m,cs,l,rfl,hF⟩
 have F:=Lib.hid hF
 obtain⟨k1,k2,k3,k4⟩:1≤q∧q≤4∧mm≤2∧m≤40:=⟨hF.q1,hF.q4,hF.m2,hF.m40⟩
 have hb2:Below w.heap.size w w2:=Hb1.out.trans (hF.below.mono Hb1.out.size)
 have hb3:Below w2.heap.size w2 (w2.alloc (.cells #[.slice A q c,.int .i64 mm] 25)):=(Below.refl _ _).alloc (Nat.le_refl _) _
 obtain⟨s1,s2,s3⟩:=set_bd a4 q k1 k2
 have Hb2:=Lib.hid hb2
 have Hb3:=Lib.hid hb3
 clear hF hb2 hb3 N1 N3
 go_wp2_with fail
 refine (set_any A q c mm a4 _ k1 k2 h4).mono ?_
 rintro e w4 ⟨rfl,rfl⟩
 obtain⟨sa,hsa⟩:∃ sa,sa=a4 % 2 ^ q:=⟨_,rfl⟩
 rw[← hsa] at s1 s2 s3 ⊢
 clear hsa
 have hb4:Below w2.heap.size w2 ((w2.alloc (.cells #[.slice A q c,.int .i64 mm] 25)).alloc (.cells #[.slice A q c,.int .i64 mm] 25)):=Hb3.out.alloc Hb3.out.size _
 have HB4:=Lib.hid hb4
 clear hb4
 generalize (w2.alloc (.cells #[.slice A q c,.int .i64 mm] 25)).alloc (.cells #[.slice A q c,.int .i64 mm] 25)=w4 at HB4 ⊢
 have hl4:∀ r ∈ l,r.key.length=q∧r.m.length=mm:=F.out.lens
 have HL4:=Lib.hid (fun r hr=>(show r.key.length≤4∧r.m.length=mm from ⟨by rw[(hl4 r hr).1];exact k2,(hl4 r hr).2⟩))
 have hmk:=fun W (hW:Below w2.heap.size w2 W)=>make_any D m d C sa l W (F.out.rows.below hW (Nat.le_refl _)) F.out.em k4 F.out.small (fun r hr=>by have:=hl4 r hr;omega) s1 s2
 obtain⟨L,hL⟩:∃ L,L=l.map (ofC sa):=⟨_,rfl⟩
 have hLm:L.length=m:=by rw[hL,List.length_map,F.out.em]
 obtain⟨dd,hdd⟩:∃ dd,dd=(dimsL sa).length:=⟨_,rfl⟩
 have hdd4:dd≤4:=by rw[hdd];exact dims_few s1 s2
 have hon:ones sa=(dd:Int):=by rw[hdd];exact ones_len sa s1 s2
 have hlq:∀ r ∈ l,r.key.length=q:=fun r hr=>(hl4 r hr).1
 have HLQ:=Lib.hid hlq
 have HON:=Lib.hid hon
 have hLo:OkL dd mm L:=by rw[hL,hdd];exact ok_dims (ok_cells sa F.out.right hl4 F.out.c16) hlq k2 s1 s3
 rw[← hL] at hmk
 have HMK:=Lib.hid hmk
 have HLo:=Lib.hid hLo
 have HLm:=Lib.hid hLm
 have HLL:=Lib.hid hL
 have HFA:=Lib.hid (fun (set:Int) (W:World) (hW:Below w2.heap.size w2 W) (e1:0≤set) (e2:set≤15)=>rFacts_any D m d C mm set l W (F.out.rows.below hW (Nat.le_refl _)) F.out.em k4 F.out.small HL4.out (by omega) e1 e2)
 have Hb24:=Lib.hid (Hb2.out.trans (HB4.out.mono Hb2.out.size))
 have HTT:=Lib.hid hT
 have HDD:=Lib.hid hdd
 clear hl4 hL hLm hdd hLo hmk hlq hon hT
 have b10:(0:Int)≤0:=by omega
 have b20:(0:Int)≤15:=by omega
 have b30:bits .andNot .i64 0 sa=0:=by
  obtain⟨fa,hfa⟩:=fin_of s1 s2
  rw[hfa]
  exact not0 fa
 obtain⟨G1,hG1⟩:∃ G,G=grpR L:=⟨_,rfl⟩
 obtain⟨N1,hN1⟩:∃ N,N=G1.length:=⟨_,rfl⟩
 have hNm1:N1≤40:=by rw[hN1,hG1];have:=grp_le L;have:=HLm.out;omega
 have hok1:OkL dd mm G1:=by rw[hG1];exact grp_okL HLo.out
 have HG1:=Lib.hid hG1
 have HN1:=Lib.hid hN1
 have HO1:=Lib.hid hok1
 clear hG1 hN1 hok1
 have hnwG2:L.map (nwE sa 0)=l.map (ofC 0):=by rw[HLL.out];exact nwE_of HLQ.out k2 s1 s2 s3 b10 b20 b30
 obtain⟨G2,hG2⟩:∃ G,G=grpR (l.map (ofC 0)):=⟨_,rfl⟩
 obtain⟨NG2,hNG2⟩:∃ N,N=G2.length:=⟨_,rfl⟩
 have hNmG2:NG2≤40:=by rw[hNG2,hG2];have:=grp_le (l.map (ofC 0));rw[List.length_map,F.out.em] at this;omega
 have hokG2:OkL (dimsL 0).length mm G2:=by rw[hG2,← hnwG2];exact grp_okL (okL_nw sa 0 HLo.out)
 have HNWG2:=Lib.hid hnwG2
 have HG2:=Lib.hid hG2
 have HNG2:=Lib.hid hNG2
 have HOG2:=Lib.hid hokG2
 have HFG2:=Lib.hid (hokG2.few (by have:=dims_few b10 b20;omega) (by omega))
 clear hG2 hNG2 hnwG2 hokG2
 have hone:=fun (P:Option Addr) (c b:Nat) (alg:Int) (W:World) (hK:RowC W P N1 G1) (hW:Below w.heap.size w W) (g1:3≤b) (g2:b≤9223372036854775807) (ha:alg=0∨alg=1)=>xOne_any P c N1 b dd mm sa 0 alg G1 W hK HN1.out HO1.out (by omega) (by omega) HON.out s1 s2 b10 b20 b30 g1 g2 ha (HTT.out.keep (Keeps.of_below hW)) (Nat.lt_of_lt_of_le hw1 hW.size)
 rw[show grpR ((G1).map (nwE sa 0))=G2 by rw[HG1.out,grpR_map (nwE_goes sa 0),HNWG2.out,HG2.out]] at hone
 have ONE:=Lib.hid hone
 clear hone
 go_wp2_with fail
 have hfa:=HFA.out sa w4 (HB4.out) s1 s2
 rw[← show G1=grpR (l.map (ofC sa)) from by rw[HG1.out,HLL.out]] at hfa
 refine hfa.mono ?_
 clear hfa
 rintro e x5 ⟨v5,u5,rfl,g5,b5⟩
 obtain⟨P5,c5,f5,-⟩:=g5.form
 have l5:u5.length=N1:=by rw[g5.len,HN1.out]
 rw[l5] at f5
 subst f5
 have R5:=Lib.hid g5.rowC.1
 have C5:=Lib.hid b5
 have B5:=Lib.hid (Hb24.out.trans (b5.mono Hb24.out.size))
 have D5:=Lib.hid ((HB4.out).trans (b5.mono (HB4.out).size))
 clear g5 b5 l5
 obtain⟨ka,hka⟩:∃ ka:Nat,(ka:Int)=a5 % 9:=⟨(a5 % 9).toNat,by omega⟩
 have hkan:ka<9:=by omega
 have Hka:=Lib.hid hka
 clear hka
 go_wp2_with fail
 refine (HW.out a5 9 x5 h5 (by omega) (by omega)).mono ?_
 rintro e w' ⟨rfl,hw'⟩
 subst hw'
 rw[← Hka.out]
 obtain⟨K,hK⟩:∃ K,K=ka+3:=⟨_,rfl⟩
 have hw1:IntKind.i64.wrap (3+(ka:Int))=(K:Int):=by rw[IntWalk.i64_in _ (by omega),hK];push_cast;omega
 have hKb:3≤K∧K≤11:=by omega
 clear hK hkan
 obtain⟨kb,hkb⟩:∃ kb:Nat,(kb:Int)=a6 % 2:=⟨(a6 % 2).toNat,by omega⟩
 have hkbn:kb<2:=by omega
 have Hkb:=Lib.hid hkb
 clear hkb
 go_wp2_with fail
 refine (HW.out a6 2 x5 h6 (by omega) (by omega)).mono ?_
 rintro e w' ⟨rfl,hw'⟩
 subst hw'
 rw[← Hkb.out]
 go_wp2_with fail
 refine (ONE.out P5 c5 K (kb:Int) x5 R5.out B5.out (by omega) (by omega) (by omega)).mono ?_
 rintro e x7 ⟨v7,u7,rfl,g7,b7⟩
 obtain⟨P7,c7,f7,n7,-⟩:=g7.form
 have l7:u7.length=NG2:=by rw[g7.len,HNG2.out]
 rw[l7] at f7
 subst f7
 obtain⟨z7,hh7⟩:∃ h,h=hiX (kb:Int) K (dimsL 0).length ((G1).map (nwE sa 0)):=⟨_,rfl⟩
 rw[← hh7]
 have HH7:=Lib.hid hh7
 have r7:=g7.rowC.1
 obtain⟨y7,hy7⟩:∃ y,y=x7.alloc (.cells #[.slice P7 NG2 c7,.int .i64 (z7:Nat)] 34):=⟨_,rfl⟩
 have hb7:Below x7.heap.size x7 y7:=by rw[hy7];exact (Below.refl _ _).alloc (Nat.le_refl _) _
 have o7:Own 34 y7 x7.heap.size [.slice P7 NG2 c7,.int .i64 (z7:Nat)]:=by rw[hy7];exact heap_alloc_new x7 _
 have hc7:=b7.trans (hb7.mono b7.size)
 have O7:=Lib.hid o7
 have R7:=Lib.hid (r7.keep (Keeps.of_below hb7))
 have B7:=Lib.hid (B5.out.trans (hc7.mono B5.out.size))
 have C7:=Lib.hid hc7
 have Y7:=Lib.hid hy7
 clear g7 b7 l7 hh7 r7 hy7 hb7 o7 hc7 n7
 have hF:Fit (dimsL 0).length 0 (G1.map (nwE sa 0)):=fit_of fun x hx=>⟨(okL_nw sa 0 HO1.out x hx).1,(okL_nw sa 0 HO1.out x hx).2.1⟩
 have hgl:(grpR (G1.map (nwE sa 0))).length=NG2:=by rw[HG1.out,grpR_map (nwE_goes sa 0),HNWG2.out,← HG2.out,HNG2.out]
 have q2:NG2≤K→z7=NG2:=fun h=>by rw[HH7.out,hiX_few (by omega) hF (by omega) (by omega),hgl]
 have e70:=O7.out.cell (i:=0) rfl
 have e71:=O7.out.cell (i:=1) rfl
 try dsimp only at e70 e71
 have HEnd:=Lib.hid B7.out
 go_upto_region 6 with (fail)
 rw[← Y7.out]
 by_cases hm0:m=0
 ·have hl0:l=[]:=List.length_eq_zero_iff.1 (by rw[F.out.em];exact hm0)
  have hn0:NG2=0:=by rw[HNG2.out,HG2.out,hl0];rfl
  have hz:=q2 (by omega)
  rw[hn0] at hz e70
  rw[hz] at e71
  have d1:((m:Int) == 0)=true:=by rw[hm0];rfl
  clear hF hgl q2
  go_wp2
  go_ret
  exact⟨by first | rfl | simp,HEnd.out⟩
 ·have hne:l.map (ofC 0) ≠ []:=fun e=>hm0 (by rw[← F.out.em];simpa using e)
  obtain⟨x,hx,hxk,hxc⟩:=tot0 dims0 (show OkL (dimsL 0).length mm (l.map (ofC 0)) by rw[← HNWG2.out];exact okL_nw sa 0 HLo.out) (ofC_one 0 l) hne (by rw[List.length_map,F.out.em];omega)
  rw[List.length_map,F.out.em] at hxc
  have hg:G2=[x]:=by rw[HG2.out,hx]
  have hn1:NG2=1:=by rw[HNG2.out,hg];rfl
  have hz:=q2 (by omega)
  rw[hn1] at hz e70
  rw[hz] at e71
  obtain⟨ad,rfl,hr⟩:=R7.out (by omega)
  obtain⟨k,s,n,mx,w0,w1',-,-,-,hcr,-⟩:=hr 0 x (by rw[hg];rfl)
  rw[show ad.add (0*5)=ad from by simp[Addr.add]] at w0 w1'
  obtain⟨Pk,ck,rfl,-⟩:=hcr.key
  rw[hxk,List.length_nil] at w0
  rw[hxc] at w1'
  have d1:((m:Int) == 0)=false:=by rw[beq_eq_false_iff_ne];omega
  have d2:((m:Int) == (m:Int))=true:=by simp
  clear hF hgl q2 hcr hr hxk hxc hx hne
  go_wp2
  go_ret
  exact⟨by first | rfl | simp,HEnd.out⟩
end Go.Proofs.YtnjlkhhcfiedbaaGreatDoor

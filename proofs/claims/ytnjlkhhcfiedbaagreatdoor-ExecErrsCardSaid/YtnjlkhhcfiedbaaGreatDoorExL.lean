import Derived.Laws.EntriesVeiled
import Derived.IntWalk
import Derived.Test.YtnjlkhhcfiedbaaGreatDoorExE
import Derived.Test.YtnjlkhhcfiedbaaGreatDoorHshn
import Derived.Test.YtnjlkhhcfiedbaaGreatDoorWaysP
import Derived.Test.YtnjlkhhcfiedbaaGreatDoorGood5
import Derived.Test.YtnjlkhhcfiedbaaGreatDoorExA
import Derived.Test.YtnjlkhhcfiedbaaGreatDoorMake
import Derived.Test.YtnjlkhhcfiedbaaGreatDoorIsRow
import Derived.Test.YtnjlkhhcfiedbaaGreatDoorWith12
namespace Go.Proofs.YtnjlkhhcfiedbaaGreatDoor
open Go.RowKit Go.Shelf
attribute [local go_sem] Oper.semAt_some
set_option maxHeartbeats 2000000 in
theorem xparts_it (bp bs d s:Nat) (P:Option Addr) (c N blk:Nat) (G:List Cel) (w:World) (hp:Own 76 w bp (partV P N c 0)) (hs:Own 3 w bs [.int .i64 (s:Nat)]) (hN:N=G.length) (hP:0<N→P=some ⟨blk,0,none⟩) (hG:CellsR w ⟨blk,0,none⟩ G) (hNc:N≤c) (hN1:N≤1000) (hF:Fit d 0 G) (hR:RiseC G) (hd:d≤1000) (hs1:1≤s) :
  ItX 74 #[.pointer (some ⟨bp,0,none⟩),.pointer (some ⟨bs,0,none⟩)] w (mxN (lensJ (tellP s d 0 G))):=by
 intro l bm B0 J W hbm hB0 hwB hJr hst hY h0
 have hk:=Keeps.of_below (hJr _ _ h0)
 have c0:=hk _ _ (hp.cell (i:=0) rfl)
 have c1:=hk _ _ (hp.cell (i:=1) rfl)
 have c2:=hk _ _ (hp.cell (i:=2) rfl)
 have c3:=hk _ _ (hs.cell (i:=0) rfl)
 try dsimp only [partV] at c0 c1 c2 c3
 have HT:=Lib.hid (xtell_any d l 0 d s blk 0 P c N G w W (fun k=>k=bm) B0 J [] hN hP hG hNc hN1 hF hR (by omega) hd hs1 hB0 (fun k hk=>by omega) hJr hst hY h0)
 clear hp hs hN hP hG hNc hN1 hF hR hd hs1 hJr hst hY h0 hk
 go_enter Tryz.func74,Tryz.ntmps74
 go_wp2_with fail
 refine HT.out.mono ?_
 rintro e w1 ⟨rfl,xs,hx,hJ,-⟩
 have HX:=Lib.hid (show trL xs=mxN (lensJ (tellP s d 0 G)) by unfold trL;rw[hx])
 have HJ:=Lib.hid hJ
 clear hx hJ HT
 go_wp2
 go_end0
 exact⟨⟨_,rfl⟩,xs,HX.out,HJ.out⟩
set_option maxHeartbeats 2000000 in
theorem xparts_fn (P:Option Addr) (N c:Nat) (s:Nat) (w:World):Calls Tryz.prog 47 #[.agg #[.slice P N c,.func (.func 73) #[] #[],.int .i64 0],.int .i64 (s:Nat)] w fun e w'=>e=.returned (.func (.func 74) #[] #[.pointer (some ⟨w.heap.size,0,none⟩),.pointer (some ⟨w.heap.size+1,0,none⟩)])∧w'=(w.alloc (.cells #[.slice P N c,.func (.func 73) #[] #[],.int .i64 0] 76)).alloc (.cells #[.int .i64 (s:Nat)] 3):=by
 go_enter Tryz.func47,Tryz.ntmps47
 go_wp2
 go_ret
 exact⟨rfl,rfl⟩
set_option maxHeartbeats 2000000 in
theorem xwhole_any (P:Option Addr) (N c:Nat) (w:World):Calls Tryz.prog 46 #[.slice P N c] w fun e w'=>e=.returned (.agg #[.slice P N c,.func (.func 73) #[] #[],.int .i64 0])∧Below w.heap.size w w':=by
 go_enter Tryz.func46,Tryz.ntmps46
 go_wp2
 have o:=heap_alloc_new w (.cells #[.slice P N c,.func (.func 73) #[] #[],.int .i64 0] 76)
 have hb:Below w.heap.size w (w.alloc (.cells #[.slice P N c,.func (.func 73) #[] #[],.int .i64 0] 76)):=(Below.refl _ _).alloc (Nat.le_refl _) _
 generalize w.alloc (.cells #[.slice P N c,.func (.func 73) #[] #[],.int .i64 0] 76)=w1 at o hb ⊢
 have o1:Own 76 w1 w.heap.size [.slice P N c,.func (.func 73) #[] #[],.int .i64 0]:=o
 have c0:=o1.cell (i:=0) rfl
 have c1:=o1.cell (i:=1) rfl
 have c2:=o1.cell (i:=2) rfl
 exact bodyPost_ret (v:=.agg #[.slice P N c,.func (.func 73) #[] #[],.int .i64 0]) (by simp[results,Tryz.results46,go_sem,c0,c1,c2]) rfl ⟨rfl,hb⟩
theorem xhigh_any (lo k fan:Nat) (w:World) (hk:k≤1000000):Calls Tryz.prog 42 #[.int .i64 (lo:Nat),.int .i64 (k:Nat),.int .i64 (fan:Nat)] w fun e w'=>e=.returned (.int .i64 (hiR lo k fan:Nat))∧w=w':=by
 by_cases h:k<2
 ·have d1:decide ((k:Int)<2)=true:=decide_eq_true (by omega)
  have he:hiR lo k fan=lo:=by unfold hiR;rw[if_pos h]
  rw[he]
  go_enter Tryz.func42,Tryz.ntmps42
  go_wp2
  go_ret
  exact⟨rfl,rfl⟩
 ·have d1:decide ((k:Int)<2)=false:=decide_eq_false (by omega)
  obtain⟨k1,hk1⟩:∃ z,z=min fan k+1:=⟨_,rfl⟩
  have hw:IntKind.i64.wrap (min (fan:Int) (k:Int)+1)=(k1:Int):=by rw[IntWalk.i64_in _ (by omega)];omega
  have he:max (lo:Int) (k1:Int)=((hiR lo k fan:Nat):Int):=by unfold hiR;rw[if_neg h];omega
  have HE:=Lib.hid he
  clear he h hk1
  go_enter Tryz.func42,Tryz.ntmps42
  go_wp2
  go_ret
  exact⟨by rw[HE.out];rfl,rfl⟩
theorem rowC_cnt {w:World} {P:Option Addr} {N:Nat} {L:List Cel} (h:RowC w P N L) (hN:N=L.length):∀ x ∈ L,inK .i64 x.cnt:=fun x hx=>by
 obtain⟨i,hi⟩:=List.getElem?_of_mem hx
 obtain⟨ad,-,hc⟩:=h (by rw[hN];exact List.length_pos_of_mem hx)
 obtain⟨k,s,n,m,-,-,-,-,-,-,hk⟩:=hc i x hi
 exact hk
theorem made_end {w w1 w6:World} (o:Own 34 w6 w.heap.size [.slice none 0 0,.int .i64 0]) (v r:Value) {us:List V5} {J:List Cel} (hg:GRs w1.heap.size w6 v us J) (hb1:Below w.heap.size w w1) (hb6:Below w.heap.size w w6) (hz:w1.heap.size=w.heap.size+1) :
  ((w6.setCell ⟨w.heap.size,0,none⟩ v).setCell ⟨w.heap.size,1,none⟩ r).cell? ⟨w.heap.size,0,none⟩=some v∧((w6.setCell ⟨w.heap.size,0,none⟩ v).setCell ⟨w.heap.size,1,none⟩ r).cell? ⟨w.heap.size,1,none⟩=some r∧True ∧
   GRs w.heap.size ((w6.setCell ⟨w.heap.size,0,none⟩ v).setCell ⟨w.heap.size,1,none⟩ r) v us J∧Below w.heap.size w ((w6.setCell ⟨w.heap.size,0,none⟩ v).setCell ⟨w.heap.size,1,none⟩ r):=by
 have o7:=(o.set_ 0 v).set_ 1 r
 have hT:Tch (fun k=>k=w.heap.size) w6 ((w6.setCell ⟨w.heap.size,0,none⟩ v).setCell ⟨w.heap.size,1,none⟩ r):=(Tch.of_only (M:=fun k=>k=w.heap.size) (only_setCell w.heap.size w6 0 v) rfl).same (Tch.of_only (M:=fun k=>k=w.heap.size) (only_setCell w.heap.size _ 1 r) rfl)
 exact⟨o7.cell (i:=0) rfl,o7.cell (i:=1) rfl,trivial,(hg.tchF hT fun k hk=>by omega).mono hb1.size,hb6.trans (hT.below (fun k hk=>Nat.le_of_eq hk.symm) hb6.size)⟩
set_option maxRecDepth 100000 in
set_option maxHeartbeats 4000000 in
theorem xhash_any (P:Option Addr) (c N s d mm:Nat) (L:List Cel) (w:World) (hl:RowC w P N L) (hN:N=L.length) (hP:P=none→c=0) (hd:OkL d mm L) (hdd:d≤1000) (hmm:mm≤1000000) (hn:N≤60) (hs1:1≤s) (hs2:s≤10000) :
  Calls Tryz.prog 29 #[.slice P N c,.int .i64 (s:Nat)] w fun e w'=>∃ v us,e=.returned (.agg #[v,.int .i64 (hiH s d L:Nat)])∧GRs w.heap.size w' v us (grpR L)∧Below w.heap.size w w':=by
 obtain⟨w1,hw1⟩:∃ w1,w1=w.alloc (.cells #[.slice none 0 0,.int .i64 0] 34):=⟨_,rfl⟩
 have o1:Own 34 w1 w.heap.size [.slice none 0 0,.int .i64 0]:=by rw[hw1];exact heap_alloc_new w _
 have hb1:Below w.heap.size w w1:=by rw[hw1];exact (Below.refl _ w).alloc (Nat.le_refl _) _
 have HG:=Lib.hid (hGroup_any P c N s d mm L w1 (hl.keep (Keeps.of_below hb1)) hN hP hd hdd hmm hn hs1 hs2)
 have hfit:Fit d 0 L:=fit_of fun x hx=>⟨(hd x hx).1,(hd x hx).2.1⟩
 have HFT:=Lib.hid hfit
 have HNL:=Lib.hid hN
 have HW1:=Lib.hid hw1
 have HZ1:=Lib.hid (show w1.heap.size=w.heap.size+1 by rw[hw1];simp)
 have HB1:=Lib.hid hb1
 have HO1:=Lib.hid o1
 have HS:=Lib.hid (And.intro hs1 (And.intro hn hdd))
 clear hl hN hP hd hdd hmm hn hs1 hs2 hfit hw1 hb1 o1
 go_enter Tryz.func29,Tryz.ntmps29
 go_wp2_with fail
 rw[← HW1.out]
 refine HG.out.mono ?_
 rintro e w2 ⟨v,us,rfl,hg,hb2⟩
 obtain⟨Pg,cg,fg,hgc,-,hrow,-⟩:=hg.form
 obtain⟨n,hn⟩:∃ n,n=us.length:=⟨_,rfl⟩
 rw[← hn] at fg hgc hrow
 subst fg
 have hnl:n=(grpR L).length:=by rw[hn];exact hg.len
 have HG2:=Lib.hid hg
 have HB2:=Lib.hid (HB1.out.trans (hb2.mono HB1.out.size))
 have HO2:=Lib.hid (HO1.out.below hb2 HO1.out.lt)
 have HROW:=Lib.hid hrow
 have HGC:=Lib.hid hgc
 have HN:=Lib.hid hnl
 have HWH:=Lib.hid (xwhole_any Pg n cg w2)
 clear hg hb2 hrow hgc hnl hn HG
 go_wp2_with fail
 refine HWH.out.mono ?_
 rintro e w3 ⟨rfl,hb3⟩
 have HB3:=Lib.hid hb3
 have HPF:=Lib.hid (xparts_fn Pg n cg s w3)
 clear hb3 HWH
 go_wp2_with fail
 refine HPF.out.mono ?_
 rintro e w5 ⟨rfl,hw5⟩
 obtain⟨w4,hw4⟩:∃ z,z=w3.alloc (.cells #[.slice Pg n cg,.func (.func 73) #[] #[],.int .i64 0] 76):=⟨_,rfl⟩
 rw[← hw4] at hw5
 have z4:w4.heap.size=w3.heap.size+1:=by rw[hw4];simp
 have hb4:Below w3.heap.size w3 w4:=by rw[hw4];exact (Below.refl _ _).alloc (Nat.le_refl _) _
 have hb5:Below w4.heap.size w4 w5:=by rw[hw5];exact (Below.refl _ _).alloc (Nat.le_refl _) _
 have op:Own 76 w4 w3.heap.size (partV Pg n cg 0):=by rw[hw4];exact heap_alloc_new w3 _
 have os:Own 3 w5 (w3.heap.size+1) [.int .i64 (s:Nat)]:=by rw[hw5,← z4];exact heap_alloc_new w4 _
 have hb25:Below w2.heap.size w2 w5:=HB3.out.trans ((hb4.trans (hb5.mono hb4.size)).mono HB3.out.size)
 have hgl:n≤60:=by have:=grp_le L;have:=HN.out;have:=HNL.out;have:=HS.out;omega
 have hit:∃ blk,(0<n→Pg=some ⟨blk,0,none⟩)∧CellsR w5 ⟨blk,0,none⟩ (grpR L):=by
  rcases Nat.eq_zero_or_pos n with h0 | h0
  ·have e0:grpR L=[]:=List.length_eq_zero_iff.1 (by rw[← HN.out];exact h0)
   exact⟨0,fun h=>by omega,fun j x hx=>by rw[e0] at hx;simp at hx⟩
  ·obtain⟨g,e,-,-,hc,-⟩:=HROW.out h0
   exact⟨g,fun _=>e,hc.keep (Keeps.of_below hb25)⟩
 obtain⟨blk,hP,hC⟩:=hit
 have HLG:=Lib.hid (xlongest_any 74 #[.pointer (some ⟨w3.heap.size,0,none⟩),.pointer (some ⟨w3.heap.size+1,0,none⟩)] _ w5 (enters_of Tryz.func74 (by kernel_rfl) rfl) (xparts_it w3.heap.size (w3.heap.size+1) d s Pg cg n blk (grpR L) w5 (op.below hb5 op.lt) os HN.out hP hC HGC.out (by omega) HFT.out.grp (grpR_rise L) (by have:=HS.out;omega) HS.out.1))
 rw[tell_grp HS.out.1 HFT.out] at HLG
 have HB5:=Lib.hid hb25
 clear hw4 hw5 z4 hb4 hb5 op os hb25 hgl hP hC HPF
 go_wp2_with fail
 refine HLG.out.mono ?_
 rintro e w6 ⟨rfl,hb6⟩
 have hb26:Below w2.heap.size w2 w6:=HB5.out.trans (hb6.mono HB5.out.size)
 have o6:=HO2.out.below hb26 HO2.out.lt
 have e0:=o6.cell (i:=0) rfl
 have e1:=o6.cell (i:=1) rfl
 have f0:=o6.frozen 0
 have f1:=o6.frozen 1
 try dsimp only at e0 e1 f0 f1
 have HO6:=Lib.hid o6
 have HB6:=Lib.hid hb26
 have HHI:=Lib.hid (show mxN (lensJ (partsP s d 0 L))=hiH s d L from rfl)
 obtain⟨r,hr⟩:∃ r,r=mxN (lensJ (partsP s d 0 L)):=⟨_,rfl⟩
 rw[← hr] at HHI ⊢
 clear hb6 hb26 o6 hr HLG
 go_wp2
 obtain⟨q1,q2,q3,q4,q5⟩:=made_end HO6.out (.slice Pg n cg) (.int .i64 (r:Nat)) (HG2.out.below HB6.out) HB1.out (HB2.out.trans (HB6.out.mono HB2.out.size)) HZ1.out
 exact bodyPost_ret (v:=.agg #[.slice Pg n cg,.int .i64 (r:Nat)]) (by simp[results,Tryz.results29,go_sem,q1,q2]) rfl ⟨_,us,by rw[HHI.out],q4,q5⟩
set_option maxRecDepth 100000 in
set_option maxHeartbeats 4000000 in
theorem xsort_any (P:Option Addr) (c N b d mm:Nat) (L:List Cel) (w:World) (hl:RowC w P N L) (hN:N=L.length) (hd:OkL d mm L) (hdd:d≤1000) (hmm:mm≤2) (hn:N≤60) (hb3:3≤b) (hb9:b≤9223372036854775807) :
  Calls Tryz.prog 28 #[.slice P N c,.int .i64 (b:Nat)] w fun e w'=>∃ v us,e=.returned (.agg #[v,.int .i64 (hiS b L:Nat)])∧GRs w.heap.size w' v us (grpR L)∧Below w.heap.size w w':=by
 obtain⟨w1,hw1⟩:∃ w1,w1=w.alloc (.cells #[.slice none 0 0,.int .i64 0] 34):=⟨_,rfl⟩
 have o1:Own 34 w1 w.heap.size [.slice none 0 0,.int .i64 0]:=by rw[hw1];exact heap_alloc_new w _
 have hb1:Below w.heap.size w w1:=by rw[hw1];exact (Below.refl _ w).alloc (Nat.le_refl _) _
 obtain⟨Js,hJs⟩:∃ Js,Js=runsP b [] L:=⟨_,rfl⟩
 obtain⟨R,hR⟩:∃ R,R=Js.length:=⟨_,rfl⟩
 obtain⟨f,hf⟩:∃ f,f=b - 1:=⟨_,rfl⟩
 have hwf:IntKind.i64.wrap ((b:Int) - 1)=(f:Int):=by rw[IntWalk.i64_in _ (by omega)];omega
 have hru:=runs_any P c N b mm L w1 (hl.keep (Keeps.of_below hb1)) hN hn (okL_good hd hdd (rowC_cnt hl hN)) hmm (by omega) hb9
 rw[← hJs] at hru
 have hRn:R≤60:=by rw[hR,hJs];have:=runs_num (m:=b) (by omega) L;omega
 have hMP:MPk mm Js:=by rw[hJs];exact mpk_runs (by omega) hd (by omega) (by omega)
 have hMG:=fun (P:Option Addr) (c:Nat) (W:World) (hC:RCc W P R Js) (hc:R≤c)=>mMerge_any P c R mm f Js W hR (by omega) hc (by omega) (by omega) hC hMP (by omega)
 rw[show grpR Js.flatten=grpR L by rw[hJs];exact runs_grp b L] at hMG
 have HHI:=Lib.hid (show hiS b L=hiR (mxN (lensJ Js)) R f by unfold hiS;rw[hR,hJs,hf])
 have HRU:=Lib.hid hru
 have HMG:=Lib.hid hMG
 have HR:=Lib.hid hR
 have HRN:=Lib.hid hRn
 have HW1:=Lib.hid hw1
 have HZ1:=Lib.hid (show w1.heap.size=w.heap.size+1 by rw[hw1];simp)
 have HB1:=Lib.hid hb1
 have HO1:=Lib.hid o1
 clear hl hN hd hdd hmm hn hb3 hb9 hw1 hb1 o1 hJs hR hf hru hRn hMP hMG
 go_enter Tryz.func28,Tryz.ntmps28
 go_wp2_with fail
 rw[← HW1.out]
 refine HRU.out.mono ?_
 rintro e w2 ⟨v,gs,rfl,hG,hb2⟩
 obtain⟨P',c',fv,h1,-,hRC,-⟩:=hG.form
 rw[← HR.out] at fv h1 hRC
 try dsimp only at fv
 subst fv
 have HRC:=Lib.hid hRC
 have HB2:=Lib.hid (HB1.out.trans (hb2.mono HB1.out.size))
 have HO2:=Lib.hid (HO1.out.below hb2 HO1.out.lt)
 have HM:=Lib.hid (HMG.out P' c' w2 hRC.rcc h1)
 have HS2:=Lib.hid (show w1.heap.size≤w2.heap.size from hb2.size)
 clear hG h1 hRC hb2 HRU HMG
 go_wp2_with fail
 refine HM.out.mono ?_
 rintro e w3 ⟨⟨v,us,rfl,hg⟩,hb3⟩
 obtain⟨Pg,cg,fg,-⟩:=hg.form
 obtain⟨n,hn⟩:∃ n,n=us.length:=⟨_,rfl⟩
 rw[← hn] at fg
 subst fg
 obtain⟨pn,hpn⟩:∃ p,p=passN f R:=⟨_,rfl⟩
 rw[← hpn]
 have HG3:=Lib.hid (hg.mono HS2.out)
 have HB3:=Lib.hid (HB2.out.trans (hb3.mono HB2.out.size))
 have HO3:=Lib.hid (HO2.out.below hb3 HO2.out.lt)
 have HRC3:=Lib.hid (HRC.out.keep (Keeps.of_below hb3))
 have HV:=Lib.hid (xvalues_any P' R c' w3)
 clear hg hb3 hn hpn HM HRC
 go_wp2_with fail
 refine HV.out.mono ?_
 rintro e w4 ⟨rfl,hw4⟩
 have hb4:Below w3.heap.size w3 w4:=by rw[hw4];exact (Below.refl _ _).alloc (Nat.le_refl _) _
 have hc4:w4.cell? ⟨w3.heap.size,0,none⟩=some (.slice P' R c'):=by
  have o:Own 64 w4 w3.heap.size [.slice P' R c']:=by rw[hw4];exact heap_alloc_new w3 _
  exact o.cell (i:=0) rfl
 have HLG:=Lib.hid (xlongest_any 68 #[.pointer (some ⟨w3.heap.size,0,none⟩)] _ w4 (enters_of Tryz.func68 (by kernel_rfl) rfl) (xvals_it w3.heap.size R c' P' Js w4 hc4 (HRC3.out.keep (Keeps.of_below hb4)) HR.out (by have:=HRN.out;omega)))
 obtain⟨lo,hlo⟩:∃ lo,lo=mxN (lensJ Js):=⟨_,rfl⟩
 rw[← hlo] at HLG HHI
 have HB4:=Lib.hid hb4
 clear hw4 hb4 hc4 hlo HV
 go_wp2_with fail
 refine HLG.out.mono ?_
 rintro e w5 ⟨rfl,hb5⟩
 have HB5:=Lib.hid (HB4.out.trans (hb5.mono HB4.out.size))
 have HHG:=Lib.hid (xhigh_any lo R f w5 (by have:=HRN.out;omega))
 rw[← HHI.out] at HHG
 clear hb5 HLG
 go_wp2_with fail
 refine HHG.out.mono ?_
 rintro e w6 ⟨rfl,rfl⟩
 have o6:=HO3.out.below HB5.out HO3.out.lt
 have e0:=o6.cell (i:=0) rfl
 have e1:=o6.cell (i:=1) rfl
 have f0:=o6.frozen 0
 have f1:=o6.frozen 1
 try dsimp only at e0 e1 f0 f1
 have HO6:=Lib.hid o6
 obtain⟨r,hr⟩:∃ r,r=hiS b L:=⟨_,rfl⟩
 rw[← hr]
 have HRE:=Lib.hid hr
 clear o6 hr HHG
 go_wp2
 obtain⟨q1,q2,q3,q4,q5⟩:=made_end HO6.out (.slice Pg n cg) (.int .i64 (r:Nat)) (HG3.out.below HB5.out) HB1.out (HB3.out.trans (HB5.out.mono HB3.out.size)) HZ1.out
 exact bodyPost_ret (v:=.agg #[.slice Pg n cg,.int .i64 (r:Nat)]) (by simp[results,Tryz.results28,go_sem,q1,q2]) rfl ⟨_,us,by rw[HRE.out],q4,q5⟩
end Go.Proofs.YtnjlkhhcfiedbaaGreatDoor
namespace Go.Proofs.YtnjlkhhcfiedbaaGreatDoor
open Go.RowKit Go.Shelf
attribute [local go_sem] Oper.semAt_some
theorem okL_nw {d mm:Nat} {L:List Cel} (sa sb:Int) (h:OkL d mm L):OkL (dimsL sb).length mm (L.map (nwE sa sb)):=fun x hx=>by
 obtain⟨y,hy,rfl⟩:=List.mem_map.1 hx
 obtain⟨h1,h2,h3⟩:=h y hy
 refine⟨by simp[nwE],?_,h3⟩
 unfold okK at h2 ⊢
 rw[List.all_eq_true] at h2 ⊢
 intro v hv
 obtain⟨q,-,rfl⟩:=List.mem_map.1 hv
 unfold pick
 cases hq:y.key[(plc sa q).toNat]? with
 | none=>rfl
 | some z=>exact h2 z (List.mem_of_getElem? hq)
theorem dims_few {a:Int} (h1:0≤a) (h2:a≤15):(dimsL a).length≤4:=by
 have h:=ones_len a h1 h2
 unfold ones at h
 omega
set_option maxRecDepth 100000 in
set_option maxHeartbeats 4000000 in
theorem xOne_any (P:Option Addr) (c N b d mm:Nat) (sa sb alg:Int) (L:List Cel) (w:World) (hl:RowC w P N L) (hN:N=L.length) (hd:OkL d mm L) (hmm:mm≤2) (hn:N≤60) (hones:ones sa=(d:Int)) (s1:0≤sa) (s2:sa≤15) (t1:0≤sb) (t2:sb≤15) (hsub:bits .andNot .i64 sb sa=0) (hb3:3≤b) (hb9:b≤9223372036854775807) (halg:alg=0∨alg=1) (hT:Tab w) (hw1:1<w.heap.size) :
  Calls Tryz.prog 17 #[.slice P N c,.int .i64 sa,.int .i64 sb,.int .i64 (b:Nat),.int .i64 alg] w fun e w'=>∃ v us,e=.returned (.tuple #[.agg #[v,.int .i64 (hiX alg b (dimsL sb).length (L.map (nwE sa sb)):Nat)],.int .i64 0])∧GRs w.heap.size w' v us (grpR (L.map (nwE sa sb)))∧Below w.heap.size w w':=by
 have hd4:d≤4:=by unfold ones at hones;omega
 obtain⟨w1,hw1e⟩:∃ w1,w1=w.alloc (.cells #[.slice none 0 0,.int .i64 0] 34):=⟨_,rfl⟩
 have o1:Own 34 w1 w.heap.size [.slice none 0 0,.int .i64 0]:=by rw[hw1e];exact heap_alloc_new w _
 have hb1:Below w.heap.size w w1:=by rw[hw1e];exact (Below.refl _ w).alloc (Nat.le_refl _) _
 have hk1:=Keeps.of_below hb1
 have HAS:=Lib.hid (fun (W:World)=>xareSets_any sa sb W s1 s2 hsub)
 have HFI:=Lib.hid (xfit_any P c N L sa d mm w1 (hl.keep hk1) hN hd (by omega) s1 s2 hones (by omega))
 have HNW:=Lib.hid (fun (W:World) (hb:Below w.heap.size w W)=>xnarrowed_any P c N sa sb d mm L W (hl.keep (Keeps.of_below hb)) hN (by omega) (fun x hx=>⟨(hd x hx).1,(hd x hx).2.2⟩) (by omega) hones s1 s2 t1 t2 hsub (hT.keep (Keeps.of_below hb)) (Nat.lt_of_lt_of_le hw1 hb.size))
 obtain⟨L2,hL2⟩:∃ L2,L2=L.map (nwE sa sb):=⟨_,rfl⟩
 obtain⟨d2,hd2⟩:∃ d2,d2=(dimsL sb).length:=⟨_,rfl⟩
 have hok:OkL d2 mm L2:=by rw[hL2,hd2];exact okL_nw sa sb hd
 have hd24:d2≤4:=by rw[hd2];exact dims_few t1 t2
 have hN2:N=L2.length:=by rw[hL2,List.length_map,hN]
 rw[← hL2,← hd2]
 rw[← hL2] at HNW
 have HOK:=Lib.hid (And.intro hok (And.intro hN2 (And.intro hd24 (And.intro hmm (And.intro hn (And.intro hb3 hb9))))))
 have HW1:=Lib.hid hw1e
 have HZ1:=Lib.hid (show w1.heap.size=w.heap.size+1 by rw[hw1e];simp)
 have HB1:=Lib.hid hb1
 have HO1:=Lib.hid o1
 have d3:decide ((b:Int)<3)=false:=decide_eq_false (by omega)
 obtain⟨m,hm⟩:∃ m,m=min b 10000:=⟨_,rfl⟩
 have hmi:min (b:Int) 10000=(m:Int):=by omega
 have HM:=Lib.hid hm
 clear hl hN hd hmm hn hones s1 s2 t1 t2 hsub hb3 hb9 hT hw1 hw1e o1 hb1 hk1 hL2 hd2 hok hd24 hN2 hd4 hm
 rcases halg with rfl | rfl
 ·go_enter Tryz.func17,Tryz.ntmps17
  go_wp2_with fail
  rw[← HW1.out]
  refine (HAS.out w1).mono ?_
  rintro e w2 ⟨rfl,rfl⟩
  go_wp2_with fail
  refine HFI.out.mono ?_
  rintro e w3 ⟨rfl,hb3⟩
  have HK3:=Lib.hid hb3
  have HB3:=Lib.hid (HB1.out.trans (hb3.mono HB1.out.size))
  clear hb3
  go_wp2_with fail
  refine (HNW.out w3 HB3.out).mono ?_
  rintro e w4 ⟨v,us,rfl,hg,hb4⟩
  obtain⟨Pl,cl,fl,-,-,-,hcl⟩:=hg.form
  have hul:=hg.len
  rw[← HOK.out.2.1] at hul
  rw[hul] at fl
  subst fl
  have HK4:=Lib.hid (HK3.out.trans (hb4.mono HK3.out.size))
  obtain⟨ho1,ho2,ho3,ho4,ho5,ho6,ho7⟩:=HOK.out
  have HX:=Lib.hid (xsort_any Pl cl N b d2 mm L2 w4 hg.rowC.1 ho2 ho1 (by omega) ho4 ho5 ho6 ho7)
  clear hg hb4 hul ho1 ho2 ho3 ho4 ho5 ho6 ho7 hcl HNW HFI HAS
  go_wp2_with fail
  refine HX.out.mono ?_
  rintro e w5 ⟨v5,us5,rfl,hg5,hb5⟩
  obtain⟨Pr,cr,fr,-⟩:=hg5.form
  obtain⟨n,hn⟩:∃ n,n=us5.length:=⟨_,rfl⟩
  rw[← hn] at fr
  subst fr
  have HK5:=Lib.hid (HK4.out.trans (hb5.mono HK4.out.size))
  have o5:=HO1.out.below HK5.out HO1.out.lt
  have e0:=o5.cell (i:=0) rfl
  have e1:=o5.cell (i:=1) rfl
  have f0:=o5.frozen 0
  have f1:=o5.frozen 1
  try dsimp only at e0 e1 f0 f1
  have HO5:=Lib.hid o5
  have HG5:=Lib.hid (hg5.mono HK4.out.size)
  obtain⟨r,hr⟩:∃ r,r=hiS b L2:=⟨_,rfl⟩
  rw[← hr]
  have HRE:=Lib.hid hr
  clear o5 hr hg5 hb5 hn HX
  go_wp2
  obtain⟨q1,q2,q3,q4,q5⟩:=made_end HO5.out (.slice Pr n cr) (.int .i64 (r:Nat)) HG5.out HB1.out (HB1.out.trans (HK5.out.mono HB1.out.size)) HZ1.out
  exact bodyPost_ret (v:=.tuple #[.agg #[.slice Pr n cr,.int .i64 (r:Nat)],.int .i64 0]) (by simp[results,Tryz.results17,go_sem,q1,q2]) rfl ⟨_,us5,by rw[HRE.out];rfl,q4,q5⟩
 ·go_enter Tryz.func17,Tryz.ntmps17
  go_wp2_with fail
  rw[← HW1.out]
  refine (HAS.out w1).mono ?_
  rintro e w2 ⟨rfl,rfl⟩
  go_wp2_with fail
  refine HFI.out.mono ?_
  rintro e w3 ⟨rfl,hb3⟩
  have HK3:=Lib.hid hb3
  have HB3:=Lib.hid (HB1.out.trans (hb3.mono HB1.out.size))
  clear hb3
  go_wp2_with fail
  refine (HNW.out w3 HB3.out).mono ?_
  rintro e w4 ⟨v,us,rfl,hg,hb4⟩
  obtain⟨Pl,cl,fl,-,-,-,hcl⟩:=hg.form
  have hul:=hg.len
  rw[← HOK.out.2.1] at hul
  rw[hul] at fl
  subst fl
  have HK4:=Lib.hid (HK3.out.trans (hb4.mono HK3.out.size))
  obtain⟨ho1,ho2,ho3,ho4,ho5,ho6,ho7⟩:=HOK.out
  have HX:=Lib.hid (xhash_any Pl cl N m d2 mm L2 w4 hg.rowC.1 ho2 hcl ho1 (by omega) (by omega) ho5 (by have:=HM.out;omega) (by have:=HM.out;omega))
  clear hg hb4 hul ho1 ho2 ho3 ho4 ho5 ho6 ho7 hcl HNW HFI HAS
  go_wp2_with fail
  refine HX.out.mono ?_
  rintro e w5 ⟨v5,us5,rfl,hg5,hb5⟩
  obtain⟨Pr,cr,fr,-⟩:=hg5.form
  obtain⟨n,hn⟩:∃ n,n=us5.length:=⟨_,rfl⟩
  rw[← hn] at fr
  subst fr
  have HK5:=Lib.hid (HK4.out.trans (hb5.mono HK4.out.size))
  have o5:=HO1.out.below HK5.out HO1.out.lt
  have e0:=o5.cell (i:=0) rfl
  have e1:=o5.cell (i:=1) rfl
  have f0:=o5.frozen 0
  have f1:=o5.frozen 1
  try dsimp only at e0 e1 f0 f1
  have HO5:=Lib.hid o5
  have HG5:=Lib.hid (hg5.mono HK4.out.size)
  obtain⟨r,hr⟩:∃ r,r=hiH m d2 L2:=⟨_,rfl⟩
  rw[← hr]
  have HRE:=Lib.hid hr
  clear o5 hr hg5 hb5 hn HX
  go_wp2
  obtain⟨q1,q2,q3,q4,q5⟩:=made_end HO5.out (.slice Pr n cr) (.int .i64 (r:Nat)) HG5.out HB1.out (HB1.out.trans (HK5.out.mono HB1.out.size)) HZ1.out
  exact bodyPost_ret (v:=.tuple #[.agg #[.slice Pr n cr,.int .i64 (r:Nat)],.int .i64 0]) (by simp[results,Tryz.results17,go_sem,q1,q2]) rfl ⟨_,us5,by rw[HRE.out,HM.out];rfl,q4,q5⟩
set_option maxHeartbeats 2000000 in
theorem xOne_bad (P:Option Addr) (c N:Nat) (sa sb b alg:Int) (w:World) (h0:alg ≠ 0) (h1:alg ≠ 1) :
  Calls Tryz.prog 17 #[.slice P N c,.int .i64 sa,.int .i64 sb,.int .i64 b,.int .i64 alg] w fun e w'=>e=.returned (.tuple #[.agg #[.slice none 0 0,.int .i64 0],.int .i64 10])∧Below w.heap.size w w':=by
 have e0:(alg != 0)=true:=by simpa using h0
 have e1:(alg != 1)=true:=by simpa using h1
 go_enter Tryz.func17,Tryz.ntmps17
 go_wp2
 have o:=heap_alloc_new w (.cells #[.slice none 0 0,.int .i64 0] 34)
 have hb:Below w.heap.size w (w.alloc (.cells #[.slice none 0 0,.int .i64 0] 34)):=(Below.refl _ _).alloc (Nat.le_refl _) _
 generalize w.alloc (.cells #[.slice none 0 0,.int .i64 0] 34)=w1 at o hb ⊢
 have o1:Own 34 w1 w.heap.size [.slice none 0 0,.int .i64 0]:=o
 have c0:=o1.cell (i:=0) rfl
 have c1:=o1.cell (i:=1) rfl
 exact bodyPost_ret (v:=.tuple #[.agg #[.slice none 0 0,.int .i64 0],.int .i64 10]) (by simp[results,Tryz.results17,go_sem,c0,c1]) rfl ⟨rfl,hb⟩
set_option maxHeartbeats 2000000 in
theorem xOne_small (P:Option Addr) (c N:Nat) (sa sb b alg:Int) (w:World) (h0:alg=0∨alg=1) (h1:b<3) :
  Calls Tryz.prog 17 #[.slice P N c,.int .i64 sa,.int .i64 sb,.int .i64 b,.int .i64 alg] w fun e w'=>e=.returned (.tuple #[.agg #[.slice none 0 0,.int .i64 0],.int .i64 3])∧Below w.heap.size w w':=by
 have d1:decide (b<3)=true:=decide_eq_true h1
 rcases h0 with rfl | rfl
 all_goals
  go_enter Tryz.func17,Tryz.ntmps17
  go_wp2
  have o:=heap_alloc_new w (.cells #[.slice none 0 0,.int .i64 0] 34)
  have hb:Below w.heap.size w (w.alloc (.cells #[.slice none 0 0,.int .i64 0] 34)):=(Below.refl _ _).alloc (Nat.le_refl _) _
  generalize w.alloc (.cells #[.slice none 0 0,.int .i64 0] 34)=w1 at o hb ⊢
  have o1:Own 34 w1 w.heap.size [.slice none 0 0,.int .i64 0]:=o
  have c0:=o1.cell (i:=0) rfl
  have c1:=o1.cell (i:=1) rfl
  exact bodyPost_ret (v:=.tuple #[.agg #[.slice none 0 0,.int .i64 0],.int .i64 3]) (by simp[results,Tryz.results17,go_sem,c0,c1]) rfl ⟨rfl,hb⟩
end Go.Proofs.YtnjlkhhcfiedbaaGreatDoor
namespace Go.Proofs.YtnjlkhhcfiedbaaGreatDoor
open Go.RowKit Go.Shelf
attribute [local go_sem] Oper.semAt_some
def k12:Cel:=⟨[4],2,[],[],[]⟩
def n12:Cel:=⟨[],2,[],[],[]⟩
theorem one_nil (w:World) (hT:Tab w) (hw1:1<w.heap.size):Calls Tryz.prog 17 #[.slice none 0 0,.int .i64 1,.int .i64 0,.int .i64 3,.int .i64 0] w fun e w'=>∃ P c,e=.returned (.tuple #[.agg #[.slice P 0 c,.int .i64 0],.int .i64 0])∧Below w.heap.size w w' :=
 (xOne_any none 0 0 3 1 0 1 0 0 [] w (fun h=>absurd h (by omega)) rfl (fun x hx=>by cases hx) (by omega) (by omega) (by decide) (by omega) (by omega) (by omega) (by omega) (by decide) (by omega) (by omega) (.inl rfl) hT hw1).mono fun e w' h=>by
  obtain⟨v,us,rfl,hg,hb⟩:=h
  obtain⟨P,c,rfl,-⟩:=hg.form
  have hl:=hg.len
  rw[show grpR (List.map (nwE 1 0) [])=[] from rfl,List.length_nil] at hl
  rw[hl]
  exact⟨P,c,by rw[show hiX 0 3 (dimsL 0).length (List.map (nwE 1 0) [])=0 from by simp[hiX,hiS_none]];rfl,hb⟩
theorem one_four (w:World) (A:Addr) (hT:Tab w) (hw1:1<w.heap.size) (hc:CellsR w A [k12]):Calls Tryz.prog 17 #[.slice (some A) 1 1,.int .i64 1,.int .i64 0,.int .i64 3,.int .i64 1] w fun e w'=>∃ P c,e=.returned (.tuple #[.agg #[.slice (some P) 1 c,.int .i64 1],.int .i64 0])∧CellsR w' P [n12]∧Below w.heap.size w w' :=
 (xOne_any (some A) 1 1 3 1 0 1 0 1 [k12] w (fun _=>⟨A,rfl,hc⟩) rfl (fun x hx=>by rw[List.mem_singleton] at hx;subst hx;exact⟨rfl,by decide,rfl,rfl,rfl⟩) (by omega) (by omega) (by decide) (by omega) (by omega) (by omega) (by omega) (by decide) (by omega) (by omega) (.inr rfl) hT hw1).mono fun e w' h=>by
  obtain⟨v,us,rfl,hg,hb⟩:=h
  obtain⟨P,c,rfl,-⟩:=hg.form
  have he:List.map (nwE 1 0) [k12]=[n12]:=by rw[List.map_singleton];congr 1
  have hl:=hg.len
  rw[he] at hg hl ⊢
  rw[show grpR [n12]=[n12] from rfl] at hg hl
  rw[List.length_singleton] at hl
  rw[hl] at hg ⊢
  obtain⟨ad,rfl,hr⟩:=hg.rowC.1 (by omega)
  have hF:Fit (dimsL 0).length 0 [n12]:=⟨fun c hc=>by rw[List.mem_singleton] at hc;subst hc;rfl,fun c hc v hv=>by rw[List.mem_singleton] at hc;subst hc;simp[n12] at hv,fun c hc c' hc'=>rfl⟩
  exact⟨ad,c,by rw[hiX_few (b:=3) (by omega) hF (by decide) (by decide)];rfl,hr,hb⟩
set_option maxRecDepth 100000 in
set_option maxHeartbeats 4000000 in
theorem known12_any (w:World) (hT:Tab w) (hw1:1<w.heap.size) :
  Calls Tryz.prog 12 #[] w fun e w'=>e=.returned (.bool true)∧Below w.heap.size w w':=by
 have HT:=Lib.hid hT
 have H1:=Lib.hid (one_nil w hT hw1)
 clear hT
 go_enter Tryz.func12,Tryz.ntmps12
 go_wp2_with fail
 refine H1.out.mono ?_
 rintro e w1 ⟨P1,c1,rfl,hb1⟩
 obtain⟨Wa,hWa⟩:∃ z,z=w1.alloc (.cells #[.slice P1 0 c1,.int .i64 0] 34):=⟨_,rfl⟩
 have o1:Own 34 Wa w1.heap.size [.slice P1 0 c1,.int .i64 0]:=by rw[hWa];exact heap_alloc_new w1 _
 have hba:Below w1.heap.size w1 Wa:=by rw[hWa];exact (Below.refl _ _).alloc (Nat.le_refl _) _
 have hza:Wa.heap.size=w1.heap.size+1:=by rw[hWa];simp
 obtain⟨Wb,hWb⟩:∃ z,z=Wa.alloc (.cells #[.int .i64 4] 3):=⟨_,rfl⟩
 have hbb:Below Wa.heap.size Wa Wb:=by rw[hWb];exact (Below.refl _ _).alloc (Nat.le_refl _) _
 have hzb:Wb.heap.size=w1.heap.size+2:=by rw[hWb];simp[hza]
 obtain⟨Wc,hWc⟩:∃ z,z=Wb.alloc (.cells #[.slice (some ⟨w1.heap.size+1,0,none⟩) 1 1,.int .i64 2,.slice none 0 0,.slice none 0 0,.slice none 0 0] 46):=⟨_,rfl⟩
 have hbc:Below Wb.heap.size Wb Wc:=by rw[hWc];exact (Below.refl _ _).alloc (Nat.le_refl _) _
 have hzc:Wc.heap.size=w1.heap.size+3:=by rw[hWc];simp[hzb]
 have ob:Own 3 Wb (w1.heap.size+1) [.int .i64 4]:=by rw[hWb,← hza];exact heap_alloc_new Wa _
 have oc:Own 46 Wc (w1.heap.size+1+1) [.slice (some ⟨w1.heap.size+1,0,none⟩) 1 1,.int .i64 2,.slice none 0 0,.slice none 0 0,.slice none 0 0]:=by rw[hWc,← hzb];exact heap_alloc_new Wb _
 have rk:RI Wc (.slice (some ⟨w1.heap.size+1,0,none⟩) 1 1) [4]:=row_ri _ (w1.heap.size+1) [4] 3 (by simp[inK]) (ob.below hbc ob.lt) (by decide)
 have hcr:CellsR Wc ⟨w1.heap.size+1+1,0,none⟩ [k12]:=fun j x hx=>by
  rcases j with _ | j
  ·simp only[List.getElem?_cons_zero,Option.some.injEq] at hx
   subst hx
   obtain⟨h0,h1,h2,h3,h4⟩:=oc.bx
   rw[show (⟨w1.heap.size+1+1,0,none⟩:Addr).add (0*5)=⟨w1.heap.size+1+1,0,none⟩ from by simp[Addr.add]]
   exact⟨_,_,_,_,h0,h1,h2,h3,h4,⟨rk,nil_ri _,nil_ri _,nil_ri _⟩,by simp[inK,k12]⟩
  ·simp at hx
 have hb1c:Below w1.heap.size w1 Wc:=hba.trans ((hbb.trans (hbc.mono hbb.size)).mono hba.size)
 have hbwc:Below w.heap.size w Wc:=hb1.trans (hb1c.mono hb1.size)
 have H2:=Lib.hid (one_four Wc ⟨w1.heap.size+1+1,0,none⟩ (HT.out.keep (Keeps.of_below hbwc)) (Nat.lt_of_lt_of_le hw1 hbwc.size) hcr)
 have O1:=Lib.hid (o1.below (hbb.trans (hbc.mono hbb.size)) o1.lt)
 have HBC:=Lib.hid hbwc
 have HWc:=Lib.hid (hWc.trans (by rw[hWb,hWa]))
 clear hcr rk oc ob hbc hzc hbb hzb hba hza o1 hb1c hbwc hb1 hWa hWb hWc H1
 go_wp2_with fail
 rw[← HWc.out]
 refine H2.out.mono ?_
 rintro e w3 ⟨P3,c3,rfl,hr3,hb3⟩
 have h3:=hr3 0 n12 rfl
 rw[show P3.add (0*5)=P3 from by simp[Addr.add]] at h3
 obtain⟨k,s,n,m,-,q3,-⟩:=h3
 obtain⟨Wd,hWd⟩:∃ z,z=w3.alloc (.cells #[.slice (some P3) 1 c3,.int .i64 1] 34):=⟨_,rfl⟩
 have o3:Own 34 Wd w3.heap.size [.slice (some P3) 1 c3,.int .i64 1]:=by rw[hWd];exact heap_alloc_new w3 _
 have hbd:Below w3.heap.size w3 Wd:=by rw[hWd];exact (Below.refl _ _).alloc (Nat.le_refl _) _
 have HO1:=Lib.hid (O1.out.below (hb3.trans (hbd.mono hb3.size)) O1.out.lt)
 have HO3:=Lib.hid o3
 have HBD:=Lib.hid (HBC.out.trans ((hb3.trans (hbd.mono hb3.size)).mono HBC.out.size))
 have HQ3:=Lib.hid (Keeps.of_below hbd _ _ q3)
 have HWd:=Lib.hid hWd
 have H3:=Lib.hid (xOne_small none 0 0 1 0 2 0 Wd (.inl rfl) (by omega))
 clear hr3 hb3 q3 hWd o3 hbd O1 H2
 go_wp2_with fail
 rw[← HWd.out]
 refine H3.out.mono ?_
 rintro e w5 ⟨rfl,hb5⟩
 obtain⟨We,hWe⟩:∃ z,z=w5.alloc (.cells #[.slice none 0 0,.int .i64 0] 34):=⟨_,rfl⟩
 have hbe:Below w5.heap.size w5 We:=by rw[hWe];exact (Below.refl _ _).alloc (Nat.le_refl _) _
 have hbde:=hb5.trans (hbe.mono hb5.size)
 have o1:=HO1.out.below hbde HO1.out.lt
 have o3:=HO3.out.below hbde HO3.out.lt
 have e0:=o1.cell (i:=0) rfl
 have e1:=o1.cell (i:=1) rfl
 have e2:=o3.cell (i:=0) rfl
 have e3:=o3.cell (i:=1) rfl
 have q3:=Keeps.of_below hbde _ _ HQ3.out
 try dsimp only [n12] at e0 e1 e2 e3 q3
 have HWe:=Lib.hid hWe
 have HBE:=Lib.hid (HBD.out.trans (hbde.mono HBD.out.size))
 clear hWe hbe hbde o1 o3 hb5 H3
 go_upto_region 4 with (fail)
 rw[← HWe.out]
 go_wp2
 go_ret
 exact⟨rfl,HBE.out⟩
end Go.Proofs.YtnjlkhhcfiedbaaGreatDoor
namespace Go.Proofs.YtnjlkhhcfiedbaaGreatDoor
open Go.RowKit Go.Shelf
theorem ofC_keyE {sa:Int} {r:Fact} {q:Nat} (hl:r.key.length=q) (q4:q≤4) (a1:0≤sa) (a3:sa≤fullB q):(ofC sa r).key=(dimsL sa).map (valF r.key) :=
 pk_val r.key sa a1 (by rw[hl];exact a3) (by omega)
theorem nwE_of {sa sb:Int} {q:Nat} {l:List Fact} (hl:∀ r ∈ l,r.key.length=q) (q4:q≤4) (a1:0≤sa) (a2:sa≤15) (a3:sa≤fullB q) (b1:0≤sb) (b2:sb≤15) (h:bits .andNot .i64 sb sa=0):(l.map (ofC sa)).map (nwE sa sb)=l.map (ofC sb):=by
 rw[List.map_map]
 refine List.map_congr_left fun r hr=>?_
 have hk:=hl r hr
 have hsb:=sub_le sa sb a1 a2 b1 b2 h
 show nwE sa sb (ofC sa r)=ofC sb r
 unfold nwE
 rw[ofC_keyE hk q4 a1 a3,narrow_key sa sb a1 a2 b1 b2 h]
 unfold ofC
 rw[pk_val r.key sb b1 (by rw[hk];omega) (by omega)]
theorem nwE_goes (sa sb:Int):Goes (nwE sa sb):=goes_narrow fun k=>(dimsL sb).map (pick k sa)
theorem ok_dims {d q mm:Nat} {sa:Int} {l:List Fact} (h:OkL d mm (l.map (ofC sa))) (hl:∀ r ∈ l,r.key.length=q) (q4:q≤4) (a1:0≤sa) (a3:sa≤fullB q):OkL (dimsL sa).length mm (l.map (ofC sa)):=fun x hx=>by
 obtain⟨-,h2,h3⟩:=h x hx
 obtain⟨r,hr,rfl⟩:=List.mem_map.1 hx
 exact⟨by rw[ofC_keyE (hl r hr) q4 a1 a3,List.length_map],h2,h3⟩
end Go.Proofs.YtnjlkhhcfiedbaaGreatDoor

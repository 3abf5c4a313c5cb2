/- The law ExecOwn. -/
import Derived.IntWalk
import Derived.Test.YtnjlkhhcfiedbaaGreatDoorSl
import Derived.Test.YtnjlkhhcfiedbaaGreatDoorExL
import Derived.Test.YtnjlkhhcfiedbaaGreatDoorGood5
import Derived.Test.YtnjlkhhcfiedbaaGreatDoorFactsLaw2
import Derived.Test.YtnjlkhhcfiedbaaGreatDoorWith12
import Derived.Test.YtnjlkhhcfiedbaaGreatDoorMake
import Derived.Test.YtnjlkhhcfiedbaaGreatDoorIsRow
namespace Go.Proofs.YtnjlkhhcfiedbaaGreatDoor
open Go.RowKit
attribute [local go_sem] Oper.semAt_some
theorem GRs.cellG {B g c n:Nat} {X:World} {us:List V5} {J:List Cel} (h:GRs B X (.slice (some ⟨g,0,none⟩) n c) us J) {j:Nat} {u:Value} (hu:(flatV us)[j]? = some u):X.cell? ⟨g,j,none⟩=some u:=by
 obtain⟨P,c',e,-,-,h2,-⟩:=h.form
 have hw:0<us.length:=by
  rcases Nat.eq_zero_or_pos us.length with z | z
  ·rw[List.length_eq_zero_iff] at z;subst z;simp[flatV] at hu
  ·exact z
 obtain⟨g',rfl,-,-,-,h3⟩:=h2 hw
 injection e with e1 _ _
 injection e1 with e1
 injection e1 with e1
 rw[e1]
 exact h3 j u hu
theorem GRs.five {B g c n k:Nat} {X:World} {us:List V5} {J:List Cel} {p:V5} (h:GRs B X (.slice (some ⟨g,0,none⟩) n c) us J) (hp:us[k]? = some p):X.cell? ⟨g,k*5,none⟩=some p.a∧X.cell? ⟨g,k*5+1,none⟩=some p.b∧X.cell? ⟨g,k*5+2,none⟩=some p.c∧X.cell? ⟨g,k*5+3,none⟩=some p.d∧X.cell? ⟨g,k*5+4,none⟩=some p.e:=by
 obtain⟨c0,c1,c2,c3,c4⟩:=flatV_five hp
 exact⟨h.cellG c0,h.cellG c1,h.cellG c2,h.cellG c3,h.cellG c4⟩
theorem GRs.froz {B g c n:Nat} {X:World} {us:List V5} {J:List Cel} (h:GRs B X (.slice (some ⟨g,0,none⟩) n c) us J) (j:Nat):X.frozen? ⟨g,j,none⟩=false:=by
 obtain⟨P,c',e,-⟩:=h.form
 injection e with e1 e2 e3
 subst e1 e2 e3
 exact World.ownsRow.frozenAt h.1 j
structure Shp (B:Nat) (w8 X:World):Prop where
 ex:∀ p,(∃ v,w8.cell? p=some v)→∃ v,X.cell? p=some v
 same:∀ p v,w8.cell? p=some v→(∀ n,v ≠ .int .i64 n)→X.cell? p=some v
 fz:∀ p,w8.frozen? p=false→X.frozen? p=false
 bel:Below B w8 X
theorem Shp.refl (B:Nat) (w:World):Shp B w w:=⟨fun _ h=>h,fun _ _ h _=>h,fun _ h=>h,Below.refl _ _⟩
theorem Shp.write {B b j:Nat} {w8 X:World} (h:Shp B w8 X) (hp:∃ n,w8.cell? ⟨b,j,none⟩=some (.int .i64 n)) (hb:B≤b) (y:Int):Shp B w8 (X.setCell ⟨b,j,none⟩ (.int .i64 y)) where
 ex:=fun p hv=>by
  obtain⟨v,hv⟩:=h.ex p hv
  exact cell?_setCell_some hv
 same:=fun p v hv hn=>by
  have hne:(⟨b,j,none⟩:Addr) ≠ p:=fun e=>by
   obtain⟨n,hn'⟩:=hp
   rw[e,hv] at hn'
   injection hn' with hn'
   exact hn n hn'
  rw[World.cell?_setCell_other (h:=hne)]
  exact h.same p v hv hn
 fz:=fun p hp'=>by
  rw[World.frozen?_setCell]
  exact h.fz p hp'
 bel:=h.bel.setCell (p:=⟨b,j,none⟩) hb _
theorem Shp.drew {B:Nat} {w8 X:World} (h:Shp B w8 X):Shp B w8 X.drew:=⟨h.ex,h.same,h.fz,h.bel.drew⟩
theorem slice_nint {P:Option Addr} {n c:Nat}:∀ k,(Value.slice P n c) ≠ .int .i64 k:=fun _ e=>by cases e
def NumB (B:Nat) (X:World) (P:Option Addr) (d:Nat):Prop:=0<d→∃ g,P=some ⟨g,0,none⟩∧B≤g∧(∀ j,X.frozen? ⟨g,j,none⟩=false)∧∀ j,j<d→∃ n,X.cell? ⟨g,j,none⟩=some (.int .i64 n)
theorem GRs.accs3 {B:Nat} {X:World} {v:Value} {us:List V5} {J:List Cel} {me d:Nat} (h:GRs B X v us J) (hn:1≤J.length) (he:OkL d me J) :
  ∃ g c,v=.slice (some ⟨g,0,none⟩) J.length c∧B≤g∧(∀ j,X.frozen? ⟨g,j,none⟩=false)∧∀ k,k<J.length →
   (∃ n,X.cell? ⟨g,k*5+1,none⟩=some (.int .i64 n)) ∧
   ∃ Pk ck Pn cn Px cx,X.cell? ⟨g,k*5,none⟩=some (.slice Pk d ck)∧X.cell? ⟨g,k*5+3,none⟩=some (.slice Pn me cn)∧X.cell? ⟨g,k*5+4,none⟩=some (.slice Px me cx)∧NumB B X Pk d∧NumB B X Pn me∧NumB B X Px me:=by
 have hul:=h.len
 obtain⟨P,c,hv,-,-,h2,-⟩:=h.form
 obtain⟨g,rfl,hB,-,-,-⟩:=h2 (by omega)
 rw[hul] at hv
 subst hv
 refine⟨g,c,rfl,hB,fun j=>h.froz j,fun k hk=>?_⟩
 obtain⟨u,hu⟩:∃ u,us[k]? = some u:=⟨_,List.getElem?_eq_getElem (by omega)⟩
 obtain⟨x,hx⟩:∃ x,J[k]? = some x:=⟨_,List.getElem?_eq_getElem hk⟩
 obtain⟨hb,ho,-⟩:=h.2.2 k u x hu hx
 obtain⟨c0,c1,-,c3,c4⟩:=h.five hu
 obtain⟨ed,-,-,e2,e3⟩:=he x (List.mem_of_getElem? hx)
 obtain⟨Pk,ck,fk,-⟩:=ho.key.form
 obtain⟨Pn,cn,fn,-⟩:=ho.mn.form
 obtain⟨Px,cx,fx,-⟩:=ho.mx.form
 rw[ed] at fk
 rw[e2] at fn
 rw[e3] at fx
 have key:∀ {t:Value} {xs:List Int} {Q:Option Addr} {d m:Nat},OI B X t xs→xs.length=m→t=.slice Q m d→NumB B X Q m:=by
  intro t xs Q d m o hl ht hm
  obtain⟨g,c',e,hc⟩:=o.block 0 (by omega)
  rw[ht] at e
  injection e with e4 e5 e6
  subst e4 e6
  rw[ht] at o
  exact⟨g,rfl,o.ge.1,fun j=>o.frozen j,fun j hj=>by
   obtain⟨z,hz⟩:∃ z,xs[j]? = some z:=⟨_,List.getElem?_eq_getElem (by omega)⟩
   exact⟨z,hc j z hz⟩⟩
 exact⟨⟨_,by rw[← hb];exact c1⟩,Pk,ck,Pn,cn,Px,cx,by rw[c0,fk],by rw[c3,fn],by rw[c4,fx],key ho.key ed fk,key ho.mn e2 fn,key ho.mx e3 fx⟩
theorem not_self:∀ a:Fin 16,bits .andNot .i64 (a.val:Int) (a.val:Int)=0:=by decide +kernel
set_option maxRecDepth 100000 in
set_option maxHeartbeats 8000000 in
theorem execOwn_walk (a0:Int) (a1:Option Addr) (len1 cap1:Nat) (z1:List Int) (a2:Int) (a3:Option Addr) (len3 cap3:Nat) (z3:List Int) (a4:Int) (a5 a6:Int) (w:World) (h0:inK .i64 a0) (w1:IsRow .i64 w a1 len1 cap1 z1) (h2:inK .i64 a2) (w3:IsRow .i64 w a3 len3 cap3 z3) (h4:inK .i64 a4) (h5:inK .i64 a5) (_h6:inK .i64 a6) (hT:Tab w) (hw1:1<w.heap.size) :
  Calls Tryz.prog 8 #[.int .i64 a0,.slice a1 len1 cap1,.int .i64 a2,.slice a3 len3 cap3,.int .i64 a4,.int .i64 a5,.int .i64 a6] w fun e w'=>e=.returned (.bool true)∧Below w.heap.size w w':=by
 obtain⟨n1,lc1,cm1⟩:=w1.nums
 obtain⟨n3,lc3,cm3⟩:=w3.nums
 have HW:=Lib.hid (fun (x n:Int) (W:World) (h:inK .i64 x) (e1:1≤n) (e2:n≤1000000)=>lwithin12 x n W h e1 (by omega))
 have N1:=Lib.hid n1
 have N3:=Lib.hid n3
 have HKn:=Lib.hid (known12_any w hT hw1)
 clear w1 w3 n1 n3
 go_enter Tryz.func8,Tryz.ntmps8
 go_wp2_with fail
 refine HKn.out.mono ?_
 rintro e w1 ⟨rfl,hb1⟩
 have Hb1:=Lib.hid hb1
 clear hb1 HKn
 go_wp2_with fail
 refine (Facts_res a0 a2 a1 a3 len1 cap1 len3 cap3 _ _ w1 (N1.out.keep (Keeps.of_below Hb1.out)) (N3.out.keep (Keeps.of_below Hb1.out)) (by omega) (by omega) h0 h2).mono ?_
 rintro e w2 ⟨A,c,D,d,C,q,mm,m,cs,l,rfl,hF⟩
 have F:=Lib.hid hF
 obtain⟨k1,k2,k3,k4⟩:1≤q∧q≤4∧mm≤2∧m≤40:=⟨hF.q1,hF.q4,hF.m2,hF.m40⟩
 have hb2:Below w.heap.size w w2:=Hb1.out.trans (hF.below.mono Hb1.out.size)
 have hb3:Below w2.heap.size w2 (w2.alloc (.cells #[.slice A q c,.int .i64 mm] 25)):=(Below.refl _ _).alloc (Nat.le_refl _) _
 obtain⟨s1,s2,s3⟩:=set_bd a4 q k1 k2
 have Hb2:=Lib.hid hb2
 have Hb3:=Lib.hid hb3
 clear hF hb2 hb3 N1 N3
 go_wp2_with fail
 refine (set_any A q c mm a4 _ k1 k2 h4).mono ?_
 rintro e w4 ⟨rfl,rfl⟩
 obtain⟨sa,hsa⟩:∃ sa,sa=a4 % 2 ^ q:=⟨_,rfl⟩
 rw[← hsa] at s1 s2 s3 ⊢
 clear hsa
 have hb4:Below w2.heap.size w2 ((w2.alloc (.cells #[.slice A q c,.int .i64 mm] 25)).alloc (.cells #[.slice A q c,.int .i64 mm] 25)):=Hb3.out.alloc Hb3.out.size _
 have HB4:=Lib.hid hb4
 clear hb4
 generalize (w2.alloc (.cells #[.slice A q c,.int .i64 mm] 25)).alloc (.cells #[.slice A q c,.int .i64 mm] 25)=w4 at HB4 ⊢
 have hl4:∀ r ∈ l,r.key.length=q∧r.m.length=mm:=F.out.lens
 have HL4:=Lib.hid (fun r hr=>(show r.key.length≤4∧r.m.length=mm from ⟨by rw[(hl4 r hr).1];exact k2,(hl4 r hr).2⟩))
 have hmk:=fun W (hW:Below w2.heap.size w2 W)=>make_any D m d C sa l W (F.out.rows.below hW (Nat.le_refl _)) F.out.em k4 F.out.small (fun r hr=>by have:=hl4 r hr;omega) s1 s2
 obtain⟨L,hL⟩:∃ L,L=l.map (ofC sa):=⟨_,rfl⟩
 have hLm:L.length=m:=by rw[hL,List.length_map,F.out.em]
 obtain⟨dd,hdd⟩:∃ dd,dd=(dimsL sa).length:=⟨_,rfl⟩
 have hdd4:dd≤4:=by rw[hdd];exact dims_few s1 s2
 have hon:ones sa=(dd:Int):=by rw[hdd];exact ones_len sa s1 s2
 have hlq:∀ r ∈ l,r.key.length=q:=fun r hr=>(hl4 r hr).1
 have HLQ:=Lib.hid hlq
 have HON:=Lib.hid hon
 have hLo:OkL dd mm L:=by rw[hL,hdd];exact ok_dims (ok_cells sa F.out.right hl4 F.out.c16) hlq k2 s1 s3
 rw[← hL] at hmk
 have HMK:=Lib.hid hmk
 have HLo:=Lib.hid hLo
 have HLm:=Lib.hid hLm
 have HLL:=Lib.hid hL
 have Hb24:=Lib.hid (Hb2.out.trans (HB4.out.mono Hb2.out.size))
 have HTT:=Lib.hid hT
 have HDD:=Lib.hid hdd
 clear hl4 hL hLm hdd hLo hmk hlq hon hT
 have b1sa:=s1
 have b2sa:=s2
 have b3sa:bits .andNot .i64 sa sa=0:=by
  obtain⟨fa,hfa⟩:=fin_of s1 s2
  rw[hfa]
  exact not_self fa
 have hnwG2:L.map (nwE sa sa)=l.map (ofC sa):=by rw[HLL.out];exact nwE_of HLQ.out k2 s1 s2 s3 s1 s2 b3sa
 obtain⟨G2,hG2⟩:∃ G,G=grpR (l.map (ofC sa)):=⟨_,rfl⟩
 obtain⟨NG2,hNG2⟩:∃ N,N=G2.length:=⟨_,rfl⟩
 have hNmG2:NG2≤40:=by rw[hNG2,hG2];have:=grp_le (l.map (ofC sa));rw[List.length_map,F.out.em] at this;omega
 have hokG2:OkL (dimsL sa).length mm G2:=by rw[hG2,← hnwG2];exact grp_okL (okL_nw sa sa HLo.out)
 have HNWG2:=Lib.hid hnwG2
 have HG2:=Lib.hid hG2
 have HNG2:=Lib.hid hNG2
 have HOG2:=Lib.hid hokG2
 have HFG2:=Lib.hid (hokG2.few (by have:=dims_few b1sa b2sa;omega) (by omega))
 clear hG2 hNG2 hnwG2 hokG2
 have hone:=fun (P:Option Addr) (c b:Nat) (alg:Int) (W:World) (hK:RowC W P m L) (hW:Below w.heap.size w W) (g1:3≤b) (g2:b≤9223372036854775807) (ha:alg=0∨alg=1)=>xOne_any P c m b dd mm sa sa alg L W hK HLm.out.symm HLo.out (by omega) (by omega) HON.out s1 s2 b1sa b2sa b3sa g1 g2 ha (HTT.out.keep (Keeps.of_below hW)) (Nat.lt_of_lt_of_le hw1 hW.size)
 rw[show grpR ((L).map (nwE sa sa))=G2 by rw[HNWG2.out,HG2.out]] at hone
 have ONE:=Lib.hid hone
 clear hone
 go_wp2_with fail
 refine (HMK.out w4 HB4.out).mono ?_
 rintro e x5 ⟨v5,u5,rfl,g5,b5⟩
 obtain⟨P5,c5,f5,-,-,-,p5⟩:=g5.form
 have l5:=g5.len
 rw[HLm.out] at l5
 rw[l5] at f5
 subst f5
 have R5:=Lib.hid g5.rowC.1
 have C5:=Lib.hid b5
 have B5:=Lib.hid (Hb24.out.trans (b5.mono Hb24.out.size))
 have D5:=Lib.hid ((HB4.out).trans (b5.mono (HB4.out).size))
 clear g5 b5 l5 p5
 go_wp2_with fail
 refine (HMK.out x5 D5.out).mono ?_
 rintro e x6 ⟨v6,u6,rfl,g6,b6⟩
 obtain⟨P6,c6,f6,-,-,-,p6⟩:=g6.form
 have l6:=g6.len
 rw[HLm.out] at l6
 rw[l6] at f6
 subst f6
 have R6:=Lib.hid g6.rowC.1
 have C6:=Lib.hid b6
 have B6:=Lib.hid (B5.out.trans (b6.mono B5.out.size))
 have D6:=Lib.hid ((D5.out).trans (b6.mono (D5.out).size))
 clear g6 b6 l6 p6
 obtain⟨kb,hkb⟩:∃ kb:Nat,(kb:Int)=a5 % 2:=⟨(a5 % 2).toNat,by omega⟩
 have hkbn:kb<2:=by omega
 have Hkb:=Lib.hid hkb
 clear hkb
 go_wp2_with fail
 refine (HW.out a5 2 x6 h5 (by omega) (by omega)).mono ?_
 rintro e w' ⟨rfl,hw'⟩
 subst hw'
 rw[← Hkb.out]
 have HOD:Hid (OkL dd mm G2):=Lib.hid (by rw[HDD.out];exact HOG2.out)
 go_wp2_with fail
 refine (ONE.out P5 c5 4 (kb:Int) x6 (R5.out.keep (Keeps.of_below C6.out)) B6.out (by omega) (by omega) (by omega)).mono ?_
 rintro e x7 ⟨v7,u7,rfl,g7,b7⟩
 obtain⟨P7,c7,f7,-⟩:=g7.form
 have l7:u7.length=NG2:=by rw[g7.len,HNG2.out]
 rw[l7] at f7
 subst f7
 obtain⟨z7,hh7⟩:∃ h,h=hiX (kb:Int) 4 (dimsL sa).length (L.map (nwE sa sa)):=⟨_,rfl⟩
 rw[← hh7]
 obtain⟨y7,hy7⟩:∃ y,y=x7.alloc (.cells #[.slice P7 NG2 c7,.int .i64 (z7:Nat)] 34):=⟨_,rfl⟩
 have hb7:Below x7.heap.size x7 y7:=by rw[hy7];exact (Below.refl _ _).alloc (Nat.le_refl _) _
 have o7:Own 34 y7 x7.heap.size [.slice P7 NG2 c7,.int .i64 (z7:Nat)]:=by rw[hy7];exact heap_alloc_new x7 _
 have g7':=g7.below hb7
 have hACC:1≤NG2→∃ g c,P7=some ⟨g,0,none⟩∧x6.heap.size≤g∧(∀ j,y7.frozen? ⟨g,j,none⟩=false)∧∀ k,k<NG2→(∃ n,y7.cell? ⟨g,k*5+1,none⟩=some (.int .i64 n))∧∃ Pk ck Pn cn Px cx,y7.cell? ⟨g,k*5,none⟩=some (.slice Pk dd ck)∧y7.cell? ⟨g,k*5+3,none⟩=some (.slice Pn mm cn)∧y7.cell? ⟨g,k*5+4,none⟩=some (.slice Px mm cx)∧NumB x6.heap.size y7 Pk dd∧NumB x6.heap.size y7 Pn mm∧NumB x6.heap.size y7 Px mm:=fun hn=>by
  obtain⟨g,c,e,h1,h2,h3⟩:=g7'.accs3 (me:=mm) (d:=dd) (by rw[← HNG2.out];exact hn) HOD.out
  injection e with e1 _ _
  rw[← HNG2.out] at h3
  exact⟨g,c,e1,h1,h2,h3⟩
 have HACC:=Lib.hid hACC
 have C7:=Lib.hid (b7.trans (hb7.mono b7.size))
 have e70:=o7.cell (i:=0) rfl
 try dsimp only at e70
 obtain⟨bq,hbq⟩:∃ b,b=x7.heap.size:=⟨_,rfl⟩
 rw[← hbq] at e70
 have HBX:=Lib.hid (fun (W:World) (hW:Shp x6.heap.size y7 W)=>hW.same _ _ e70 slice_nint)
 have Y7:=Lib.hid hy7
 have HBQ:=Lib.hid hbq
 clear g7 g7' b7 l7 hh7 hy7 hb7 o7 hACC e70 hbq ONE
 go_upto_block 0 with (fail)
 rw[← Y7.out,← HBQ.out]
 go_cut [] (fun wx=>Shp x6.heap.size y7 wx)
 case first =>
  go_wp2_with fail
  go_loopw [22] (fun s22 wr=>∃ (i:Nat),s22=.int .i64 i∧i≤NG2∧Shp x6.heap.size y7 wr) (fun s22 _=>NG2 - (intOf s22).toNat)
  case atStart=>exact⟨0,rfl,Nat.zero_le _,Shp.refl _ _⟩
  case round =>
   obtain⟨k,rfl,hk,hs⟩:=hrel
   rename World=>wr
   have HS:=Lib.hid hs
   have a20:=HBX.out wr hs
   clear hs
   by_cases hlt:k<NG2
   ·have d1:decide ((k:Int)<(NG2:Int))=true:=decide_eq_true (by omega)
    obtain⟨g,c,rfl,hgB,hfz,hcell⟩:=HACC.out (by omega)
    obtain⟨hcn,Pk,ck,Pn,cn,Px,cx,hk0,hk3,hk4,hNk,hNn,hNx⟩:=hcell k hlt
    have hfc:=HS.out.fz _ (hfz (k*5+1))
    obtain⟨vc,hvc⟩:=HS.out.ex _ ⟨_,hcn.choose_spec⟩
    have hw:=HS.out.write hcn hgB a6
    obtain⟨wk,hwk⟩:∃ wk,wk=wr.setCell ⟨g,k*5+1,none⟩ (.int .i64 a6):=⟨_,rfl⟩
    rw[← hwk] at hw
    have HWK:=Lib.hid hwk
    have HSK:=Lib.hid hw
    have HK0:=Lib.hid (fun (W:World) (hW:Shp x6.heap.size y7 W)=>hW.same _ _ hk0 slice_nint)
    have HK3:=Lib.hid (fun (W:World) (hW:Shp x6.heap.size y7 W)=>hW.same _ _ hk3 slice_nint)
    have HK4:=Lib.hid (fun (W:World) (hW:Shp x6.heap.size y7 W)=>hW.same _ _ hk4 slice_nint)
    have HNk:=Lib.hid hNk
    have HNn:=Lib.hid hNn
    have HNx:=Lib.hid hNx
    have j0:(0:Int)≤(k:Int):=by omega
    have j1:(k:Int)<(NG2:Int):=by omega
    clear hcn hfz hcell hk0 hk3 hk4 hNk hNn hNx hw hwk
    go_wp2_with fail
    rw[← HWK.out]
    clear hvc hfc a20
    go_loopw [23] (fun s23 wz=>∃ (j:Nat),s23=.int .i64 j∧j≤mm∧Shp x6.heap.size y7 wz) (fun s23 _=>mm - (intOf s23).toNat)
    case atStart=>exact⟨0,rfl,Nat.zero_le _,HSK.out⟩
    case round =>
     obtain⟨j,rfl,hj,hs3⟩:=hrel
     rename World=>wz
     have HS3:=Lib.hid hs3
     have a20:=HBX.out wz hs3
     have a3':=HK3.out wz hs3
     have a4':=HK4.out wz hs3
     clear hs3
     by_cases hlj:j<mm
     ·have d3:decide ((j:Int)<(mm:Int))=true:=decide_eq_true (by omega)
      obtain⟨gn,rfl,hbn1,hzn1,hcn⟩:=HNn.out (by omega)
      obtain⟨gx,rfl,hb1,hz1,hcc⟩:=HNx.out (by omega)
      have h1:=hcn j hlj
      have h2:=hcc j hlj
      have hsd:=HS3.out
      obtain⟨v1,hv1⟩:=hsd.ex _ ⟨_,h1.choose_spec⟩
      have f1:=hsd.fz _ (hzn1 j)
      have hm1:=(hsd.write h1 hbn1 a6).drew
      obtain⟨wm,hwm⟩:∃ W,W=(wz.setCell ⟨gn,j,none⟩ (.int .i64 a6)).drew:=⟨_,rfl⟩
      rw[← hwm] at hm1
      obtain⟨v2,hv2⟩:=hm1.ex _ ⟨_,h2.choose_spec⟩
      have f2:=hm1.fz _ (hz1 j)
      have FIN:=Lib.hid (hm1.write h2 hb1 a6)
      have HPO:=Lib.hid (And.intro (HBX.out wm hm1) (And.intro (HK3.out wm hm1) (HK4.out wm hm1)))
      have HWM:=Lib.hid hwm
      have l0:(0:Int)≤(j:Int):=by omega
      have l1:(j:Int)<(mm:Int):=by omega
      clear hcn hcc h1 h2 hzn1 hz1 hm1 hsd hwm
      go_wp2_with fail
      refine region_P (S:=fun W=>W.cell? ⟨bq,0,none⟩=some (.slice (some ⟨g,0,none⟩) NG2 c7)∧W.cell? ⟨g,k*5+3,none⟩=some (.slice (some ⟨gn,0,none⟩) mm cn)∧W.cell? ⟨g,k*5+4,none⟩=some (.slice (some ⟨gx,0,none⟩) mm cx)) (kill:=[19]) (by kernel_rfl) ⟨a20,a3',a4'⟩ (fun hHeld=>?_)
      clear a20 a3' a4'
      refine WTP (i:=0) (v:=?voa0) ?yoa0 hHeld ?roa0
      case yoa0=>(intro W hW;obtain⟨g0,g1,g2⟩:=hW;go_simp;first | done | with_reducible rfl)
      try simp only[SL,Act.put]
      refine WTP (i:=1) (v:=?voa1) ?yoa1 hHeld ?roa1
      case yoa1=>(intro W hW;obtain⟨g0,g1,g2⟩:=hW;go_simp;first | done | with_reducible rfl)
      try simp only[SL,Act.put]
      refine WTP (i:=2) (v:=?voa2) ?yoa2 hHeld ?roa2
      case yoa2=>(intro W hW;obtain⟨g0,g1,g2⟩:=hW;go_simp;first | done | with_reducible rfl)
      try simp only[SL,Act.put]
      refine WTP (i:=3) (v:=?voa3) ?yoa3 hHeld ?roa3
      case yoa3=>(intro W hW;obtain⟨g0,g1,g2⟩:=hW;go_simp;first | done | with_reducible rfl)
      try simp only[SL,Act.put]
      refine WTP (i:=4) (v:=?voa4) ?yoa4 hHeld ?roa4
      case yoa4=>(intro W hW;obtain⟨g0,g1,g2⟩:=hW;go_simp;first | done | with_reducible rfl)
      try simp only[SL,Act.put]
      refine WTP (i:=5) (v:=?voa5) ?yoa5 hHeld ?roa5
      case yoa5=>(intro W hW;obtain⟨g0,g1,g2⟩:=hW;go_simp;first | done | with_reducible rfl)
      try simp only[SL,Act.put]
      refine WTP (i:=6) (v:=?voa6) ?yoa6 hHeld ?roa6
      case yoa6=>(intro W hW;obtain⟨g0,g1,g2⟩:=hW;go_simp;first | done | with_reducible rfl)
      try simp only[SL,Act.put]
      refine WTP (i:=7) (v:=?voa7) ?yoa7 hHeld ?roa7
      case yoa7=>(intro W hW;obtain⟨g0,g1,g2⟩:=hW;go_simp;first | done | with_reducible rfl)
      try simp only[SL,Act.put]
      refine WTP (i:=8) (v:=?voa8) ?yoa8 hHeld ?roa8
      case yoa8=>(intro W hW;obtain⟨g0,g1,g2⟩:=hW;go_simp;first | done | with_reducible rfl)
      try simp only[SL,Act.put]
      refine WTP (i:=9) (v:=?voa9) ?yoa9 hHeld ?roa9
      case yoa9=>(intro W hW;obtain⟨g0,g1,g2⟩:=hW;go_simp;first | done | with_reducible rfl)
      try simp only[SL,Act.put]
      refine WTP (i:=10) (v:=?voa10) ?yoa10 hHeld ?roa10
      case yoa10=>(intro W hW;obtain⟨g0,g1,g2⟩:=hW;go_simp;first | done | with_reducible rfl)
      try simp only[SL,Act.put]
      refine WTP (i:=11) (v:=?voa11) ?yoa11 hHeld ?roa11
      case yoa11=>(intro W hW;obtain⟨g0,g1,g2⟩:=hW;go_simp;first | done | with_reducible rfl)
      try simp only[SL,Act.put]
      refine WTP (i:=12) (v:=?voa12) ?yoa12 hHeld ?roa12
      case yoa12=>(intro W hW;obtain⟨g0,g1,g2⟩:=hW;go_simp;first | done | with_reducible rfl)
      try simp only[SL,Act.put]
      refine WTP (i:=13) (v:=?voa13) ?yoa13 hHeld ?roa13
      case yoa13=>(intro W hW;obtain⟨g0,g1,g2⟩:=hW;go_simp;first | done | with_reducible rfl)
      try simp only[SL,Act.put]
      refine WTP (i:=14) (v:=?voa14) ?yoa14 hHeld ?roa14
      case yoa14=>(intro W hW;obtain⟨g0,g1,g2⟩:=hW;go_simp;first | done | with_reducible rfl)
      try simp only[SL,Act.put]
      refine WTP (i:=15) (v:=?voa15) ?yoa15 hHeld ?roa15
      case yoa15=>(intro W hW;obtain⟨g0,g1,g2⟩:=hW;go_simp;first | done | with_reducible rfl)
      try simp only[SL,Act.put]
      refine WTP (i:=16) (v:=?voa16) ?yoa16 hHeld ?roa16
      case yoa16=>(intro W hW;obtain⟨g0,g1,g2⟩:=hW;go_simp;first | done | with_reducible rfl)
      try simp only[SL,Act.put]
      refine anyP_ready (rs:=[17]) (by kernel_rfl) (by simp) ?_
      refine AllP.cons rfl (fun K hK=>?_) (AllP.nil)
      go_simp
      rw[← HWM.out]
      refine hK.out _ _ (fun _ _=>HPO.out) ?_
      clear hK K
      try simp only[SL,Act.put]
      clear hHeld hv1 f1
      have hHeld:=HPO.out
      refine WTP (i:=18) (v:=?voa18) ?yoa18 hHeld ?roa18
      case yoa18=>(intro W hW;obtain⟨g0,g1,g2⟩:=hW;go_simp;first | done | with_reducible rfl)
      try simp only[SL,Act.put]
      refine anyP_ready (rs:=[19]) (by kernel_rfl) (by simp) ?_
      refine AllP.cons rfl (fun K hK=>?_) (AllP.nil)
      go_simp
      refine hK.out _ _ (fun h=>absurd (by decide) h) ?_
      clear hK K
      try simp only[SL,Act.put]
      refine anyP_done (by kernel_rfl) ?_ _
      clear hHeld hv2 f2
      go_wp2
      go_roundw
      case rel=>exact⟨j+1,by go_num,by omega,FIN.out⟩
      case measure=>simp[intOf];omega
     ·obtain rfl:j=mm:=by omega
      have d3:decide ((j:Int)<(j:Int))=false:=by simp
      go_wp2_with fail
      clear a20 a3' a4'
      go_loopw [24] (fun s24 wy=>∃ (z:Nat),s24=.int .i64 z∧z≤dd∧Shp x6.heap.size y7 wy) (fun s24 _=>dd - (intOf s24).toNat)
      case atStart=>exact⟨0,rfl,Nat.zero_le _,HS3.out⟩
      case round =>
       obtain⟨z,rfl,hz,hs5⟩:=hrel
       rename World=>wy
       have HS5:=Lib.hid hs5
       have a20:=HBX.out wy hs5
       have a0':=HK0.out wy hs5
       clear hs5
       by_cases hlz:z<dd
       ·have d5:decide ((z:Int)<(dd:Int))=true:=decide_eq_true (by omega)
        obtain⟨gk,rfl,hb1,hz1,hcc⟩:=HNk.out (by omega)
        have h1:=hcc z hlz
        obtain⟨v1,hv1⟩:=HS5.out.ex _ ⟨_,h1.choose_spec⟩
        have f1:=HS5.out.fz _ (hz1 z)
        have hm1:=HS5.out.write h1 hb1 a6
        have FIN:=Lib.hid hm1
        have l0:(0:Int)≤(z:Int):=by omega
        have l1:(z:Int)<(dd:Int):=by omega
        clear hcc h1 hz1 hm1
        go_wp2
        go_roundw
        case rel=>exact⟨z+1,by go_num,by omega,FIN.out⟩
        case measure=>simp[intOf];omega
       ·obtain rfl:z=dd:=by omega
        have d5:decide ((z:Int)<(z:Int))=false:=by simp
        go_wp2
        go_roundw
        case rel=>exact⟨k+1,by go_num,by omega,HS5.out⟩
        case measure=>simp[intOf];omega
   ·obtain rfl:k=NG2:=by omega
    have d1:decide ((k:Int)<(k:Int))=false:=by simp
    go_wp2
    go_meet
    exact HS.out
 case rest =>
  have hb9:=C7.out.trans hcut.bel
  rename World=>w9
  have B9:=Lib.hid (B6.out.trans (hb9.mono B6.out.size))
  have hfl:FewC L:=HLo.out.few (by omega) (by omega)
  have HSM:=Lib.hid (same_yes P5 P6 m c5 c6 L w9 ((R5.out.keep (Keeps.of_below C6.out)).keep (Keeps.of_below hb9)) (R6.out.keep (Keeps.of_below hb9)) HLm.out.symm hfl (by omega))
  clear hcut hb9 hfl
  go_wp2_with fail
  refine HSM.out.mono ?_
  rintro e x9 ⟨rfl,b9⟩
  have BE:=Lib.hid (B9.out.trans (b9.mono B9.out.size))
  clear b9
  have HEnd:=Lib.hid BE.out
  go_wp2
  go_ret
  exact⟨by first | rfl | simp,HEnd.out⟩
end Go.Proofs.YtnjlkhhcfiedbaaGreatDoor

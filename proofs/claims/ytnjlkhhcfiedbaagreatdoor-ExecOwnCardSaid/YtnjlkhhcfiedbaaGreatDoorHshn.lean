import Derived.IntWalk
import Derived.Shelf.SlSortCmp.NoneTotal
import Derived.Deep.Onto
import Derived.Test.YtnjlkhhcfiedbaaGreatDoorSl
import Derived.Test.YtnjlkhhcfiedbaaGreatDoorHsh5
import Derived.Test.YtnjlkhhcfiedbaaGreatDoorHshj
import Derived.Test.YtnjlkhhcfiedbaaGreatDoorMake
namespace Go.Proofs.YtnjlkhhcfiedbaaGreatDoor
open Go.RowKit
attribute [local go_sem] Oper.semAt_some
set_option maxRecDepth 100000 in
set_option maxHeartbeats 4000000 in
theorem hfit_anyH (P:Option Addr) (c N:Nat) (L:List Cel) (d mm:Nat) (w:World) (hl:RowC w P N L) (hN:N=L.length) (hd:∀ x ∈ L,x.key.length=d∧okK x.key=true∧EvenC mm x) (hdd:d≤1000) (hn:N≤1000000) :
  Calls Tryz.prog 70 #[.slice P N c] w fun e w'=>e=.returned (.bool true)∧Below w.heap.size w w':=by
 have HN:=Lib.hid hN
 have HL:=Lib.hid hl
 have HD:=Lib.hid hd
 clear hN hl hd
 go_enter Tryz.func70,Tryz.ntmps70
 go_wp2_with fail
 go_loopw [7] (fun i wr=>∃ k:Nat,k≤N∧i=.int .i64 k∧Below w.heap.size w wr) (fun i _=>N - (intOf i).toNat)
 case atStart=>exact⟨0,by omega,rfl,Below.refl _ _⟩
 case round =>
  obtain⟨k,hk,rfl,hb⟩:=hrel
  rename World=>wr
  have Hb:=Lib.hid hb
  clear hb
  by_cases hlt:k<N
  ·obtain⟨ad,rfl,hcr⟩:=HL.out (by omega)
   obtain⟨x,hx⟩:∃ x,L[k]? = some x:=⟨_,List.getElem?_eq_getElem (by have:=HN.out;omega)⟩
   obtain⟨y,hy⟩:∃ y,L[0]? = some y:=⟨_,List.getElem?_eq_getElem (by have:=HN.out;omega)⟩
   obtain⟨kx,okx,ex1,ex2,ex3⟩:=HD.out x (List.mem_of_getElem? hx)
   obtain⟨ky,oky,ey1,ey2,ey3⟩:=HD.out y (List.mem_of_getElem? hy)
   have kp:=Keeps.of_below Hb.out
   obtain⟨vk,vs,vn,vm,p0,p1,p2,p3,p4,⟨⟨Pk,ck,rfl,nk,-⟩,⟨Ps,cs,rfl,_⟩,⟨Pn,cn,rfl,_⟩,⟨Pm,cm,rfl,_⟩⟩,_⟩:=(hcr k x hx).keep kp
   have hy0:=(hcr 0 y hy).keep kp
   rw[show ad.add (0*5)=ad from by simp[Addr.add]] at hy0
   obtain⟨uk,us,un,um,c0,c1,c2,c3,c4,⟨⟨Qk,dk,rfl,_⟩,⟨Qs,ds,rfl,_⟩,⟨Qn,dn,rfl,_⟩,⟨Qm,dm,rfl,_⟩⟩,_⟩:=hy0
   rw[kx] at p0 nk
   rw[ex1] at p2
   rw[ex2] at p3
   rw[ex3] at p4
   rw[ky] at c0
   rw[ey1] at c2
   rw[ey2] at c3
   rw[ey3] at c4
   have hpr:=fun (W:World) (hW:Below wr.heap.size wr W)=>hproper_any Pk Ps Pn Pm d ck mm cs cn cm x.cnt x.key W (nk.keep (Keeps.of_below hW)) (by omega)
   rw[okx] at hpr
   obtain⟨xc,exc⟩:∃ z,z=x.cnt:=⟨_,rfl⟩
   obtain⟨yc,eyc⟩:∃ z,z=y.cnt:=⟨_,rfl⟩
   rw[← exc] at p1 hpr
   rw[← eyc] at c1
   obtain⟨w5,hw5⟩:∃ w5,w5=wr.alloc (.cells #[.slice Pk d ck,.int .i64 xc,.slice Ps mm cs,.slice Pn mm cn,.slice Pm mm cm] 46):=⟨_,rfl⟩
   have o5:Own 46 w5 wr.heap.size [.slice Pk d ck,.int .i64 xc,.slice Ps mm cs,.slice Pn mm cn,.slice Pm mm cm]:=by rw[hw5];exact heap_alloc_new wr _
   have hb5:Below wr.heap.size wr w5:=by rw[hw5];exact (Below.refl _ _).alloc (Nat.le_refl _) _
   have k5:=Keeps.of_below hb5
   have bx5:=o5.bx
   have c0':=k5 _ _ c0
   have c1':=k5 _ _ c1
   have c2':=k5 _ _ c2
   have c3':=k5 _ _ c3
   have c4':=k5 _ _ c4
   have HPR:=Lib.hid (hpr w5.drew hb5.drew)
   have HSX:=Lib.hid (fun W=>hshape_any Pk Ps Pn Pm d ck mm cs mm cn mm cm xc W)
   have HSY:=Lib.hid (fun W=>hshape_any Qk Qs Qn Qm d dk mm ds mm dn mm dm yc W)
   have Hb5:=Lib.hid (Hb.out.trans (hb5.mono Hb.out.size))
   have HW5:=Lib.hid hw5
   have i0:(0:Int)≤(k:Int):=by omega
   have i1:(k:Int)<(N:Int):=by omega
   have d1:decide ((k:Int)<(N:Int))=true:=decide_eq_true i1
   have q0:0<N:=by omega
   have q1:(0:Int)<(N:Int):=by omega
   clear hx hy kx okx ex1 ex2 ex3 ky oky ey1 ey2 ey3 nk hpr exc eyc hw5 o5 hb5 k5 kp c0 c1 c2 c3 c4 hcr
   go_upto_region 4 with (fail)
   rw[← HW5.out]
   clear p0 p1 p2 p3 p4
   refine wp_region_held_drew (S:=fun W=>Bx W wr.heap.size (.slice Pk d ck) (.int .i64 xc) (.slice Ps mm cs) (.slice Pn mm cn) (.slice Pm mm cm)∧W.cell? ad=some (.slice Qk d dk)∧W.cell? ⟨ad.block,ad.off+1,none⟩=some (.int .i64 yc)∧W.cell? ⟨ad.block,ad.off+2,none⟩=some (.slice Qs mm ds)∧W.cell? ⟨ad.block,ad.off+3,none⟩=some (.slice Qn mm dn)∧W.cell? ⟨ad.block,ad.off+4,none⟩=some (.slice Qm mm dm)) (by kernel_rfl) ⟨bx5,c0',c1',c2',c3',c4'⟩ (fun hHeld=>?_)
   refine WTH (i:=0) (v:=?vpa0) ?ypa0 hHeld ?rpa0
   case ypa0=>(intro W hW;obtain⟨⟨h0,h1,h2,h3,h4⟩,g0,g1,g2,g3,g4⟩:=hW;go_simp;first | done | with_reducible rfl)
   try simp only[SL,Act.put]
   refine wpAnyH_ready (rs:=[1]) (by kernel_rfl) (by simp) ?_
   refine AllReadyH.cons rfl (fun K hK=>?_) (AllReadyH.nil)
   go_simp
   refine HPR.out.mono ?_
   rintro e6 w6 ⟨rfl,hb6⟩
   have kp6:=Keeps.of_below hb6
   have Hb6:=Lib.hid (Hb5.out.drew.trans (hb6.mono Hb5.out.size))
   clear hb6
   refine hK.out _ _ (⟨hHeld.1.keep kp6,kp6 _ _ hHeld.2.1,kp6 _ _ hHeld.2.2.1,kp6 _ _ hHeld.2.2.2.1,kp6 _ _ hHeld.2.2.2.2.1,kp6 _ _ hHeld.2.2.2.2.2⟩) (fun hHeld=>?_)
   clear hK K
   try simp only[SL,Act.put]
   refine WTH (i:=2) (v:=?vpa2) ?ypa2 hHeld ?rpa2
   case ypa2=>(intro W hW;obtain⟨⟨h0,h1,h2,h3,h4⟩,g0,g1,g2,g3,g4⟩:=hW;go_simp;first | done | with_reducible rfl)
   try simp only[SL,Act.put]
   refine WTH (i:=3) (v:=?vpa3) ?ypa3 hHeld ?rpa3
   case ypa3=>(intro W hW;obtain⟨⟨h0,h1,h2,h3,h4⟩,g0,g1,g2,g3,g4⟩:=hW;go_simp;first | done | with_reducible rfl)
   try simp only[SL,Act.put]
   refine WTH (i:=4) (v:=?vpa4) ?ypa4 hHeld ?rpa4
   case ypa4=>(intro W hW;obtain⟨⟨h0,h1,h2,h3,h4⟩,g0,g1,g2,g3,g4⟩:=hW;go_simp;first | done | with_reducible rfl)
   try simp only[SL,Act.put]
   refine WTH (i:=6) (v:=?vpa6) ?ypa6 hHeld ?rpa6
   case ypa6=>(intro W hW;obtain⟨⟨h0,h1,h2,h3,h4⟩,g0,g1,g2,g3,g4⟩:=hW;go_simp;first | done | with_reducible rfl)
   try simp only[SL,Act.put]
   refine WTH (i:=7) (v:=?vpa7) ?ypa7 hHeld ?rpa7
   case ypa7=>(intro W hW;obtain⟨⟨h0,h1,h2,h3,h4⟩,g0,g1,g2,g3,g4⟩:=hW;go_simp;first | done | with_reducible rfl)
   try simp only[SL,Act.put]
   refine WTH (i:=8) (v:=?vpa8) ?ypa8 hHeld ?rpa8
   case ypa8=>(intro W hW;obtain⟨⟨h0,h1,h2,h3,h4⟩,g0,g1,g2,g3,g4⟩:=hW;go_simp;first | done | with_reducible rfl)
   try simp only[SL,Act.put]
   refine wpAnyH_ready (rs:=[5]) (by kernel_rfl) (by simp) ?_
   refine AllReadyH.cons rfl (fun K hK=>?_) (AllReadyH.nil)
   go_simp
   refine (HSX.out w6).mono ?_
   rintro e7 w7 ⟨rfl,hb7⟩
   have kp7:=Keeps.of_below hb7
   have Hb7:=Lib.hid (Hb6.out.trans (hb7.mono Hb6.out.size))
   clear hb7
   refine hK.out _ _ (⟨hHeld.1.keep kp7,kp7 _ _ hHeld.2.1,kp7 _ _ hHeld.2.2.1,kp7 _ _ hHeld.2.2.2.1,kp7 _ _ hHeld.2.2.2.2.1,kp7 _ _ hHeld.2.2.2.2.2⟩) (fun hHeld=>?_)
   clear hK K
   try simp only[SL,Act.put]
   refine wpAnyH_ready (rs:=[9]) (by kernel_rfl) (by simp) ?_
   refine AllReadyH.cons rfl (fun K hK=>?_) (AllReadyH.nil)
   go_simp
   refine (HSY.out w7).mono ?_
   rintro e8 w8 ⟨rfl,hb8⟩
   have kp8:=Keeps.of_below hb8
   have Hb8:=Lib.hid (Hb7.out.trans (hb8.mono Hb7.out.size))
   clear hb8
   refine hK.out _ _ (⟨hHeld.1.keep kp8,kp8 _ _ hHeld.2.1,kp8 _ _ hHeld.2.2.1,kp8 _ _ hHeld.2.2.2.1,kp8 _ _ hHeld.2.2.2.2.1,kp8 _ _ hHeld.2.2.2.2.2⟩) (fun hHeld=>?_)
   clear hK K
   try simp only[SL,Act.put]
   refine WTH (i:=10) (v:=?vpa10) ?ypa10 hHeld ?rpa10
   case ypa10=>(intro W hW;obtain⟨⟨h0,h1,h2,h3,h4⟩,g0,g1,g2,g3,g4⟩:=hW;go_simp;first | done | with_reducible rfl)
   try simp only[SL,Act.put]
   refine WTH (i:=11) (v:=?vpa11) ?ypa11 hHeld ?rpa11
   case ypa11=>(intro W hW;obtain⟨⟨h0,h1,h2,h3,h4⟩,g0,g1,g2,g3,g4⟩:=hW;go_simp;first | done | with_reducible rfl)
   try simp only[SL,Act.put]
   refine wpAnyH_done (by kernel_rfl) ?_ _
   clear hHeld bx5 c0' c1' c2' c3' c4' kp6 kp7 kp8
   go_wp2
   go_roundw
   case rel=>exact⟨k+1,by omega,by go_num,Hb8.out⟩
   case measure=>simp[intOf];omega
  ·obtain rfl:k=N:=by omega
   have d1:decide ((k:Int)<(k:Int))=false:=by simp
   have d2:decide (k<k)=false:=by simp
   go_wp2
   go_ret
   exact⟨rfl,Hb.out⟩
end Go.Proofs.YtnjlkhhcfiedbaaGreatDoor
namespace Go.Proofs.YtnjlkhhcfiedbaaGreatDoor
open Go.RowKit
attribute [local go_sem] Oper.semAt_some
set_option maxRecDepth 100000 in
theorem hclone_any (P:Option Addr) (c:Nat) (vs:List V5) (l:List Cel) (w:World) (hr:ReadsL w vs l) (hc:0<vs.length→∃ ad,P=some ad∧∀ j u,(flatV vs)[j]? = some u→w.cell? (ad.add j)=some u) (hP:P=none→c=0) (hn:vs.length≤1000000) :
  Calls Tryz.prog 105 #[.slice P vs.length c] w fun e w'=>∃ v',e=.returned v'∧w'.ownsRow w.heap.size 46 5 v' vs.length (flatV vs)∧Below w.heap.size w w':=by
 cases P with
 | some ad =>
  refine cclone_any ad c vs l w hr (fun j u hu=>?_) hn
  have:0<vs.length:=by
   rcases Nat.eq_zero_or_pos vs.length with h | h
   ·rw[List.eq_nil_of_length_eq_zero h] at hu
    simp[flatV] at hu
   ·exact h
  obtain⟨ad',e,h⟩:=hc this
  injection e with e
  subst e
  exact h j u hu
 | none =>
  have h0:vs=[]:=by
   rcases Nat.eq_zero_or_pos vs.length with h | h
   ·exact List.eq_nil_of_length_eq_zero h
   ·obtain⟨ad',e,_⟩:=hc h
    cases e
  subst h0
  rw[hP rfl]
  clear hr hc hP
  have hq:(binOp .eql 31 (.slice none 0 0) (.slice none 0 0)).run Tryz.prog w=.ok (.bool true) w:=Go.Lib.run_eql_slice_nil w _ _ none _ _ 0 0 Tryz.underlying31
  show Calls Tryz.prog _ #[.slice none 0 0] w _
  go_enter Tryz.func105,Tryz.ntmps105
  go_wp2
  go_ret
  exact⟨_,rfl,World.ownsRow_nil _ _ _ _,Below.refl _ _⟩
set_option maxRecDepth 100000 in
set_option maxHeartbeats 2000000 in
theorem hwhole_any (P:Option Addr) (c N:Nat) (vs:List V5) (l:List Cel) (w:World) (hr:ReadsL w vs l) (hN:vs.length=N) (hc:0<vs.length→∃ ad,P=some ad∧∀ j u,(flatV vs)[j]? = some u→w.cell? (ad.add j)=some u) (hP:P=none→c=0) (hn:vs.length≤1000000) :
  Calls Tryz.prog 72 #[.slice P N c] w fun e w'=>∃ v',e=.returned (.agg #[v',.int .i64 0])∧w'.ownsRow w.heap.size 46 5 v' N (flatV vs)∧Below w.heap.size w w':=by
 have HCL:=Lib.hid (fun (W:World) (hb:Below w.heap.size w W)=>hclone_any P c vs l W (hr.keep (Keeps.of_below hb)) (fun h=>by obtain⟨ad,e,h2⟩:=hc h;exact⟨ad,e,fun j u hu=>Keeps.of_below hb _ _ (h2 j u hu)⟩) hP hn)
 rw[hN] at HCL
 obtain⟨w1,hw1⟩:∃ w1,w1=w.alloc (.cells #[.slice none 0 0,.int .i64 0] 104):=⟨_,rfl⟩
 have o1:Own 104 w1 w.heap.size [.slice none 0 0,.int .i64 0]:=by rw[hw1];exact heap_alloc_new w _
 have hb1:Below w.heap.size w w1:=by rw[hw1];exact (Below.refl _ w).alloc (Nat.le_refl _) _
 have HC1:=Lib.hid (HCL.out w1 hb1)
 have O1:=Lib.hid o1
 have HB1:=Lib.hid hb1
 clear hr hc hP HCL o1 hb1 hN hn
 go_enter Tryz.func72,Tryz.ntmps72
 go_upto_region 1 with (fail)
 rw[← hw1]
 clear hw1
 go_wp2_with fail
 refine HC1.out.mono ?_
 rintro e w2 ⟨v',rfl,ho2,hb2⟩
 clear HC1
 have o2:=O1.out.below hb2 O1.out.lt
 obtain⟨A,c',rfl,-,-,-⟩:=own_form ho2
 have z0:=o2.cell (i:=0) rfl
 have z1:=o2.cell (i:=1) rfl
 have zf:=o2.frozen
 obtain⟨W3,hW3⟩:∃ W3,W3=(w2.setCell ⟨w.heap.size,0,none⟩ (.slice A N c')).setCell ⟨w.heap.size,1,none⟩ (.int .i64 0):=⟨_,rfl⟩
 have o3:Own 104 W3 w.heap.size [.slice A N c',.int .i64 0]:=hW3 ▸ (o2.set_ 0 _).set_ 1 _
 have on3:Only w.heap.size w2 W3:=hW3 ▸ ((Only.refl w.heap.size w2).setCell _ _).setCell _ _
 have hb3:Below w.heap.size w W3:=(HB1.out.trans (hb2.mono HB1.out.size)).trans (on3.below (Nat.le_refl _) (Nat.le_trans HB1.out.size hb2.size))
 have ho3:W3.ownsRow w.heap.size 46 5 (.slice A N c') N (flatV vs):=own_mono (own_stay ho2 fun k hk=>on3.block k (ho2.lt k hk).2 fun e=>own_ne ho2 o2 (by decide) (by rw[hk,e])) HB1.out.size
 have r0:=o3.cell (i:=0) rfl
 have r1:=o3.cell (i:=1) rfl
 have HW3:=Lib.hid hW3
 have Hb3:=Lib.hid hb3
 have Ho3:=Lib.hid ho3
 clear hW3 o3 on3 hb3 ho3 o2 hb2 ho2
 go_wp2
 rw[← HW3.out]
 exact bodyPost_ret (v:=.agg #[.slice A N c',.int .i64 0]) (by simp[results,Tryz.results72,go_sem,r0,r1]) rfl ⟨_,rfl,Ho3.out,Hb3.out⟩
set_option maxRecDepth 100000 in
set_option maxHeartbeats 2000000 in
theorem htell_none (B T g G parts:Nat) (slots d me:Int) (vs:List (Option V5)) (ts:List (Option Cel)) (outv:Value) (us:List V5) (J:List Cel) (w:World) (hB:Tb B w T g d me vs ts) (hN2:ts.length≤10000) (hne:cellsT ts=[]) (hG:Gs B w G slots outv us J parts) (hp:parts≤1000000) :
  Calls Tryz.prog 103 #[.pointer (some ⟨G,0,none⟩),.pointer (some ⟨T,0,none⟩)] w fun e w'=>(∃ v,e=.returned v)∧Gs B w' G slots outv us J (parts+1)∧TchG G outv w w':=by
 have HE:=Lib.hid (hentries_any B T g d me vs ts w hB hN2)
 rw[hne] at HE
 have HG:=Lib.hid hG
 clear hB hG hN2 hne
 go_enter Tryz.func103,Tryz.ntmps103
 go_wp2_with fail
 refine HE.out.mono ?_
 rintro e w2 ⟨lv,ue,rfl,ho2,hL2,hb2⟩
 have hel:ue.length=0:=hL2.1
 rw[hel] at ho2
 obtain⟨A,c,rfl,-,-,-⟩:=own_form ho2
 have HSO:=Lib.hid (AnyF.slices_SortFunc_none sortKd A c (.func (.func 128) #[] #[]) w2)
 have HG2:=Lib.hid (HG.out.below hb2)
 have Hb2:=Lib.hid hb2
 clear ho2 hL2 hb2 hel HE
 go_wp2_with fail
 refine HSO.out.mono ?_
 rintro e w3 ⟨rfl,rfl⟩
 rename World=>w2
 clear HSO
 have d0:decide ((0:Int)<0)=false:=rfl
 go_wp2_with fail
 go_loopw [15] (fun i wr=>i=.int .i64 0∧wr=w2) (fun _ _=>0)
 case atStart=>exact⟨rfl,rfl⟩
 case round =>
  obtain⟨rfl,rfl⟩:=hrel
  rename World=>wr
  have hG':=HG2.out
  have y2:=hG'.bx.cell (i:=2) rfl
  have yf:=hG'.bx.frozen 2
  have hwr:IntKind.i64.wrap ((parts:Int)+1)=((parts+1:Nat):Int):=by rw[IntWalk.i64_in _ (by omega)];push_cast;rfl
  have hon:Only G wr (wr.setCell ⟨G,2,none⟩ (.int .i64 ((parts+1:Nat):Int))):=(Only.refl G wr).setCell _ _
  have hfin:Gs B (wr.setCell ⟨G,2,none⟩ (.int .i64 ((parts+1:Nat):Int))) G slots outv us J (parts+1):=⟨hG'.bx.set_ 2 _,hG'.out.onlyL hon hG'.bx (by decide) (by decide),hG'.hG⟩
  have htf:TchG G outv w (wr.setCell ⟨G,2,none⟩ (.int .i64 ((parts+1:Nat):Int))):=(Tch.of_below _ Hb2.out).same (Tch.of_only hon (.inl rfl))
  have Hfin:=Lib.hid hfin
  have Htf:=Lib.hid htf
  clear hfin htf hon hG'
  go_wp2
  go_end0
  have e:((parts+1:Nat):Int)=(parts:Int)+1:=by push_cast;rfl
  rw[← e]
  exact⟨⟨_,rfl⟩,Hfin.out,Htf.out⟩
set_option maxRecDepth 100000 in
set_option maxHeartbeats 4000000 in
theorem hadd_none (B G parts slots:Nat) (P:Option Addr) (c:Nat) (outv:Value) (us:List V5) (J:List Cel) (w:World) (hs1:1≤slots) (hs2:slots≤10000) (hG:Gs B w G slots outv us J parts) (hp:parts≤1000000) :
  Calls Tryz.prog 71 #[.pointer (some ⟨G,0,none⟩),.agg #[.slice P 0 c,.int .i64 0]] w fun e w'=>(∃ v,e=.returned v)∧Gs B w' G slots outv us J (parts+1)∧TchG G outv w w':=by
 obtain⟨w1,hw1⟩:∃ w1,w1=w.alloc (.cells #[.slice P 0 c,.int .i64 0] 104):=⟨_,rfl⟩
 have o1:Own 104 w1 w.heap.size [.slice P 0 c,.int .i64 0]:=by rw[hw1];exact heap_alloc_new w _
 have hb1:Below w.heap.size w w1:=by rw[hw1];exact (Below.refl _ w).alloc (Nat.le_refl _) _
 have hz1:w1.heap.size=w.heap.size+1:=by rw[hw1];simp
 have hGlt:=hG.bx.lt
 have hGB:=hG.hG
 have HNW:=Lib.hid (hnew_any slots w1 hs1 hs2)
 have g0:=(hG.below hb1).bx.cell (i:=0) rfl
 have HB1:=Lib.hid hb1
 have HG:=Lib.hid hG
 obtain⟨b,eb⟩:∃ b,b=w.heap.size:=⟨_,rfl⟩
 rw[← eb] at o1
 have O1:=Lib.hid o1
 have Eb:=Lib.hid eb
 clear hG o1 hb1
 go_enter Tryz.func71,Tryz.ntmps71
 go_upto_region 1 with (fail)
 rw[← hw1,← eb]
 clear hw1 eb
 refine wp_scope_jumps 0 (fun _ _=>False) (fun _ _=>0) rfl ?first ?pass
 case pass=>exact fun _ _ h=>h.elim
 case first =>
  go_wp2_with fail
  clear g0
  refine HNW.out.mono ?_
  rintro e w2 ⟨rfl,hsl2,htb2,hb2⟩
  have hTB:Tb w1.heap.size w2 (w1.heap.size+1) w1.heap.size 0 0 (List.replicate slots none) (List.replicate slots none):=by
   refine⟨?_,TabO.new hsl2,by omega,Nat.le_refl _⟩
   rw[cells_new,List.length_replicate]
   exact htb2
  have s0:=(O1.out.below hb2 O1.out.lt).cell (i:=0) rfl
  have hbw:Below w.heap.size w w2:=HB1.out.trans (hb2.mono HB1.out.size)
  have HTE:=Lib.hid (htell_none B (w1.heap.size+1) w1.heap.size G parts slots 0 0 _ _ outv us J w2 (hTB.mono (by omega)) (by simp;exact hs2) (cells_new slots) (HG.out.below hbw) hp)
  have Hbw:=Lib.hid hbw
  obtain⟨gt,egt⟩:∃ gt,gt=w1.heap.size:=⟨_,rfl⟩
  rw[← egt] at HTE ⊢
  clear hTB hb2 htb2 hsl2 HNW hbw hz1 egt
  have d0:decide ((0:Int)<0)=false:=rfl
  go_wp2
  clear s0
  go_loopw [17] (fun i wr=>i=.int .i64 0∧wr=w2) (fun _ _=>0)
  case atStart=>exact⟨rfl,rfl⟩
  case round =>
   obtain⟨rfl,rfl⟩:=hrel
   rename World=>wr
   go_wp2_with fail
   refine HTE.out.mono ?_
   rintro e w6 ⟨⟨v0,rfl⟩,hg6,ht6⟩
   have Hg6:=Lib.hid hg6
   have Ht6:Hid (TchG G outv w w6):=Lib.hid ((Tch.of_below _ Hbw.out).same ht6)
   clear hg6 ht6 HTE
   go_wp2
   simp only[Exit.jump]
   exact bodyPost_ret (results_none rfl _ _ _) rfl ⟨⟨_,rfl⟩,Hg6.out,Ht6.out⟩
end Go.Proofs.YtnjlkhhcfiedbaaGreatDoor
namespace Go.Proofs.YtnjlkhhcfiedbaaGreatDoor
open Go.RowKit
attribute [local go_sem] Oper.semAt_some
theorem mk_rd {w:World}:∀ {vs:List V5} {l:List Cel},ReadsL w vs l→∃ D:List (V5 × Cel),D.map (·.1)=vs∧D.map (·.2)=l∧∀ p ∈ D,Reads w p.1 p.2
 | [],[],_=>⟨[],rfl,rfl,fun p hp=>by cases hp⟩
 | [],_ :: _,h=>by have:=h.1;simp at this
 | _ :: _,[],h=>by have:=h.1;simp at this
 | v :: vs,x :: l,h=>by
  obtain⟨D,h1,h2,h3⟩:=mk_rd (vs:=vs) (l:=l) ⟨by have:=h.1;simpa using this,fun i u y hu hy=>h.2 (i+1) u y (by simpa using hu) (by simpa using hy)⟩
  refine⟨(v,x) :: D,by simp[h1],by simp[h2],fun p hp=>?_⟩
  rcases List.mem_cons.1 hp with rfl | hp
  ·exact h.2 0 v x rfl rfl
  ·exact h3 p hp
theorem RowC.vals {w:World} {P:Option Addr} {N:Nat} {L:List Cel} (h:RowC w P N L) (hN:N=L.length):∃ vs,ReadsL w vs L∧(0<vs.length→∃ ad,P=some ad∧∀ j u,(flatV vs)[j]? = some u→w.cell? (ad.add j)=some u):=by
 rcases Nat.eq_zero_or_pos N with h0 | h0
 ·have:L=[]:=List.eq_nil_of_length_eq_zero (by omega)
  subst this
  exact⟨[],⟨rfl,fun i v x hv _=>by simp at hv⟩,fun h=>absurd h (by simp)⟩
 ·obtain⟨ad,e,hc⟩:=h h0
  obtain⟨vs,h1,h2⟩:=hc.vals
  exact⟨vs,h1,fun _=>⟨ad,e,h2⟩⟩
theorem fit_of {d:Nat} {L:List Cel} (h:∀ x ∈ L,x.key.length=d∧okK x.key=true):Fit d 0 L:=⟨fun c hc=>(h c hc).1,fun c hc v hv=>by
 have:=(h c hc).2
 unfold okK at this
 rw[List.all_eq_true] at this
 exact of_decide_eq_true (this v hv),fun c _ c' _=>by simp⟩
set_option maxRecDepth 100000 in
set_option maxHeartbeats 4000000 in
theorem hGroup_any (P:Option Addr) (c N slots d mm:Nat) (L:List Cel) (w:World) (hl:RowC w P N L) (hN:N=L.length) (hP:P=none→c=0) (hd:∀ x ∈ L,x.key.length=d∧okK x.key=true∧EvenC mm x) (hdd:d≤1000) (hmm:mm≤1000000) (hn:N≤60) (hs1:1≤slots) (hs2:slots≤10000) :
  Calls Tryz.prog 45 #[.slice P N c,.int .i64 slots] w fun e w'=>∃ v us,e=.returned (.tuple #[v,.int .i64 ((partsP slots d 0 L).length:Nat)])∧GRs w.heap.size w' v us (grpR L)∧Below w.heap.size w w':=by
 have HFT:=Lib.hid (fun (W:World) (hb:Below w.heap.size w W)=>hfit_anyH P c N L d mm W (hl.keep (Keeps.of_below hb)) hN hd hdd (by omega))
 obtain⟨vs,hr,hcv⟩:=hl.vals hN
 have hvn:vs.length=N:=by rw[hr.1,hN]
 have HWH:=Lib.hid (fun (W:World) (hb:Below w.heap.size w W)=>hwhole_any P c N vs L W (hr.keep (Keeps.of_below hb)) hvn (fun h=>by obtain⟨ad,e,h2⟩:=hcv h;exact⟨ad,e,fun j u hu=>Keeps.of_below hb _ _ (h2 j u hu)⟩) hP (by omega))
 obtain⟨D,hD1,hD2,hD3⟩:=mk_rd hr
 have hDl:D.length=N:=by rw[← hvn,← hD1,List.length_map]
 have hPI:PIn w d mm D:=⟨fun p hp=>⟨hD3 p hp,(hd p.2 (by rw[← hD2];exact List.mem_map_of_mem hp)).1⟩,fun p hp=>(hd p.2 (by rw[← hD2];exact List.mem_map_of_mem hp)).2.2⟩
 have hFit:Fit d 0 L:=fit_of fun x hx=>⟨(hd x hx).1,(hd x hx).2.1⟩
 have hw:=hwi_any slots 1 10000 w
 rw[decide_eq_true (show (1:Int)≤(slots:Int)∧(slots:Int)≤10000 by omega)] at hw
 obtain⟨NP,hNP⟩:∃ NP,NP=(partsP slots d 0 L).length:=⟨_,rfl⟩
 rw[← hNP]
 have HNP:=Lib.hid hNP
 have HW:=Lib.hid hw
 have HPI:=Lib.hid hPI
 have HF:=Lib.hid hFit
 have HN:=Lib.hid hN
 have HD1:=Lib.hid hD1
 have HD2:=Lib.hid hD2
 have HDL:=Lib.hid hDl
 clear hNP hw hPI hFit hd hr hcv hP hl hN hD1 hD2 hD3 hDl hvn
 go_enter Tryz.func45,Tryz.ntmps45
 go_wp2_with fail
 refine HW.out.mono ?_
 rintro e w' ⟨rfl,rfl⟩
 rename World=>w
 have HF1:=Lib.hid (HFT.out w (Below.refl _ _))
 clear HFT HW
 go_wp2_with fail
 refine HF1.out.mono ?_
 rintro e w2 ⟨rfl,hb2⟩
 clear HF1
 have Hb2:=Lib.hid hb2
 clear hb2
 go_upto_region 4 with (fail)
 obtain⟨w3,hw3⟩:∃ w3,w3=w2.alloc (.cells #[.int .i64 (slots:Int),.slice none 0 0,.int .i64 0] 101):=⟨_,rfl⟩
 have o3:Own 101 w3 w2.heap.size [.int .i64 (slots:Int),.slice none 0 0,.int .i64 0]:=by rw[hw3];exact heap_alloc_new w2 _
 have hb3:Below w2.heap.size w2 w3:=by rw[hw3];exact (Below.refl _ w2).alloc (Nat.le_refl _) _
 rw[← hw3]
 clear hw3
 have hb03:Below w.heap.size w w3:=Hb2.out.trans (hb3.mono Hb2.out.size)
 have hwG:w.heap.size≤w2.heap.size:=Hb2.out.size
 obtain⟨G,eG⟩:∃ G,G=w2.heap.size:=⟨_,rfl⟩
 rw[← eG] at o3 hwG ⊢
 have hGs3:Gs w.heap.size w3 G slots (.slice none 0 0) [] [] 0:=⟨o3,GRs.nil _ _,hwG⟩
 have HGs3:=Lib.hid hGs3
 have Hb03:=Lib.hid hb03
 have HW3:=Lib.hid (HWH.out w3 hb03)
 clear o3 hb3 hb03 hGs3 HWH eG
 go_wp2_with fail
 refine HW3.out.mono ?_
 rintro e w4 ⟨v',rfl,ho4,hb4⟩
 clear HW3
 obtain⟨A,c',rfl,hc1,-,hfo⟩:=own_form ho4
 have hGs4:=HGs3.out.below hb4
 have hb04:Below w.heap.size w w4:=Hb03.out.trans (hb4.mono Hb03.out.size)
 have hadd:Calls Tryz.prog 71 #[.pointer (some ⟨G,0,none⟩),.agg #[.slice A N c',.int .i64 0]] w4 fun e w'=>(∃ v,e=.returned v)∧∃ outv us,Gs w.heap.size w' G slots outv us (grpR L) (partsP slots d 0 L).length∧Below w.heap.size w4 w':=by
  rcases Nat.eq_zero_or_pos N with h0 | h0
  ·have hL0:L=[]:=List.eq_nil_of_length_eq_zero (by rw[← HN.out];exact h0)
   have hn:=hadd_none w.heap.size G 0 slots A c' (.slice none 0 0) [] [] w4 hs1 hs2 hGs4 (by omega)
   rw[h0]
   refine hn.mono ?_
   rintro e w5 ⟨h1,h2,h3⟩
   refine⟨h1,.slice none 0 0,[],?_,h3.below (fun q hq=>by
    rcases hq with h | h
    ·rw[h];exact hwG
    ·cases h) hb04.size⟩
   rw[hL0,parts_fit (slots:=slots) (f:=d) (a:=0) (l:=[]) (Nat.zero_le _)]
   exact h2
  ·obtain⟨blk,rfl,hblk,hce⟩:=hfo h0
   have hH:HoldsL w4 blk 0 (D.map (·.1)):=fun j u hu=>by
    rw[HD1.out] at hu
    rw[Nat.zero_add]
    exact⟨hce j u hu,own_free ho4 j⟩
   have hTy:TyC w4 blk:=own_heap ho4
   have hG3:G<w3.heap.size:=HGs3.out.bx.lt
   have hseg:seg D 0 N=D:=by unfold seg;rw[List.drop_zero,List.take_of_length_le (Nat.le_of_eq HDL.out)]
   have ha:=add_all (d+1) w w4 blk G 0 N c' 0 d d mm slots 0 D (.slice none 0 0) [] [] (Nat.lt_succ_self d) (by omega) hdd hmm hs1 hs2 HPI.out (by rw[hseg,HD2.out];exact HF.out) (by rw[HDL.out];omega) (by rw[HDL.out];exact hn) hc1 h0 (Keeps.of_below hb04) (Nat.le_trans Hb03.out.size hblk) hH hTy hGs4 (by omega) (by simp[Value.ownBlock]) (by simp;omega) (by omega)
   simp only[Nat.zero_mul] at ha
   refine ha.mono ?_
   rintro e w5 ⟨h1,outv,us,D',h2,-,h4,-,-,-,-,-⟩
   rw[hseg,HD2.out,List.nil_append,parts_flat slots d d 0 L (by omega) HF.out,Nat.zero_add] at h2
   refine⟨h1,outv,us,h2,h4.below (fun q hq=>by
    rcases hq with h | h | h
    ·rw[h];exact hwG
    ·rw[h];exact Nat.le_trans Hb03.out.size hblk
    ·cases h) hb04.size⟩
 have HADD:=Lib.hid hadd
 have Hb04:=Lib.hid hb04
 clear hadd hGs4 ho4 hfo hb4 hb04 hc1
 go_wp2_with fail
 refine HADD.out.mono ?_
 rintro e w5 ⟨⟨v5,rfl⟩,outv,us,hG5,hb5⟩
 clear HADD
 have y1:=hG5.bx.cell (i:=1) rfl
 have y2:=hG5.bx.cell (i:=2) rfl
 have HO:=Lib.hid hG5.out
 have Hb5:=Lib.hid (Hb04.out.trans hb5)
 rw[← HNP.out] at y2
 clear hG5 hb5
 go_upto_region 5 with (fail)
 refine wp_region_held_drew (S:=fun W=>W.cell? ⟨G,1,none⟩=some outv∧W.cell? ⟨G,2,none⟩=some (.int .i64 (NP:Int))) (by kernel_rfl) ⟨y1,y2⟩ (fun hHeld=>?_)
 refine WTH (i:=0) (v:=?vpa0) ?ypa0 hHeld ?rpa0
 case ypa0=>(intro W hW;obtain⟨h1,h2⟩:=hW;go_simp;first | done | with_reducible rfl)
 try simp only[SL,Act.put]
 refine WTH (i:=1) (v:=?vpa1) ?ypa1 hHeld ?rpa1
 case ypa1=>(intro W hW;obtain⟨h1,h2⟩:=hW;go_simp;first | done | with_reducible rfl)
 try simp only[SL,Act.put]
 refine WTH (i:=2) (v:=?vpa2) ?ypa2 hHeld ?rpa2
 case ypa2=>(intro W hW;obtain⟨h1,h2⟩:=hW;go_simp;first | done | with_reducible rfl)
 try simp only[SL,Act.put]
 refine WTH (i:=3) (v:=?vpa3) ?ypa3 hHeld ?rpa3
 case ypa3=>(intro W hW;obtain⟨h1,h2⟩:=hW;go_simp;first | done | with_reducible rfl)
 try simp only[SL,Act.put]
 refine WTH (i:=4) (v:=?vpa4) ?ypa4 hHeld ?rpa4
 case ypa4=>(intro W hW;obtain⟨h1,h2⟩:=hW;go_simp;first | done | with_reducible rfl)
 try simp only[SL,Act.put]
 refine WTH (i:=5) (v:=?vpa5) ?ypa5 hHeld ?rpa5
 case ypa5=>(intro W hW;obtain⟨h1,h2⟩:=hW;go_simp;first | done | with_reducible rfl)
 try simp only[SL,Act.put]
 refine wpAnyH_done (by kernel_rfl) ?_ _
 clear hHeld y1 y2
 go_wp2
 go_ret2
 exact⟨outv,us,rfl,HO.out.below (Below.refl _ w5).drew,Hb5.out.drew⟩
end Go.Proofs.YtnjlkhhcfiedbaaGreatDoor

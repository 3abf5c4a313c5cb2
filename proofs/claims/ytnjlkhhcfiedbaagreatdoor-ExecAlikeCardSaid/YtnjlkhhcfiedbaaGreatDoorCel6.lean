import Derived.Test.YtnjlkhhcfiedbaaGreatDoorCel4
namespace Go.Proofs.YtnjlkhhcfiedbaaGreatDoor
open Go.RowKit
set_option maxRecDepth 100000 in
set_option maxHeartbeats 4000000 in
theorem joined_any (ad:Addr) (c N:Nat) (x0:Cel) (l:List Cel) (me:Nat) (w:World) (hl:CellsR w ad (x0 :: l)) (he:∀ x ∈ x0 :: l,EvenC me x) (hk:x0.key.length≤1000000) (hm:me≤1000000) (hN:N=l.length) (hn:N≤1000000) (hc:N+1≤c) (_hcm:c≤maxLen) :
  Calls Tryz.prog 90 #[.slice (some ad) (N+1) c] w fun e w'=>∃ k' s' n' m',e=.returned (.agg #[k',.int .i64 (joinAll (x0 :: l)).cnt,s',n',m'])∧CO w.heap.size w' k' s' n' m' (joinAll (x0 :: l))∧Ap4 k' s' n' m'∧Below w.heap.size w w':=by
 have h0:=hl.first
 obtain⟨vk,vs,vn,vm,a0,a1,a2,a3,a4,hcr,hck⟩:=h0
 obtain⟨e1,e2,e3⟩:=he x0 (by simp)
 have Hl:=Lib.hid hl
 have He:=Lib.hid he
 have HN:=Lib.hid hN
 have Hcr:=Lib.hid hcr
 have hb0:Below w.heap.size w (w.alloc (.cells #[.slice none 0 0,.int .i64 0,.slice none 0 0,.slice none 0 0,.slice none 0 0] 46)):=(Below.refl _ _).alloc (Nat.le_refl _) _
 have q1:(1:Int)≤((N+1:Nat):Int):=by omega
 clear hl he hN hcr
 obtain⟨K,hK⟩:∃ K,K=cloned_any vk vs vn vm x0 (w.alloc (.cells #[.slice none 0 0,.int .i64 0,.slice none 0 0,.slice none 0 0,.slice none 0 0] 46)) (Hcr.out.keep (Keeps.of_below hb0)) hk (by omega) (by omega) (by omega):=⟨_,rfl⟩
 have HK:=Lib.hid K
 clear K hK
 replace a0:=(Keeps.of_below hb0) _ _ a0
 replace a1:=(Keeps.of_below hb0) _ _ a1
 replace a2:=(Keeps.of_below hb0) _ _ a2
 replace a3:=(Keeps.of_below hb0) _ _ a3
 replace a4:=(Keeps.of_below hb0) _ _ a4
 go_enter Tryz.func90,Tryz.ntmps90
 go_wp2_with fail
 refine HK.out.mono ?_
 clear HK a0 a1 a2 a3 a4
 rintro e V ⟨k',s',n',m',rfl,ho,hap,hb1⟩
 have hz0:(w.alloc (.cells #[.slice none 0 0,.int .i64 0,.slice none 0 0,.slice none 0 0,.slice none 0 0] 46)).heap.size=w.heap.size+1:=by simp
 have hV:w.heap.size+1≤V.heap.size:=by have:=hb1.size;omega
 have hbV:Below w.heap.size w V:=hb0.trans (hb1.mono (by omega))
 have hacc:Acc w (V.alloc (.cells #[k',.int .i64 x0.cnt,s',n',m'] 46)) w.heap.size V.heap.size [.slice none 0 0,.int .i64 0,.slice none 0 0,.slice none 0 0,.slice none 0 0] k' s' n' m' x0 :=
  ⟨((show Own 46 (w.alloc (.cells #[.slice none 0 0,.int .i64 0,.slice none 0 0,.slice none 0 0,.slice none 0 0] 46)) w.heap.size [.slice none 0 0,.int .i64 0,.slice none 0 0,.slice none 0 0,.slice none 0 0] from heap_alloc_new w _).below hb1 (by omega)).alloc _,
   heap_alloc_new V _,(ho.below ((Below.refl _ V).alloc (Nat.le_refl _) _)).mono (by omega),hap,hbV.alloc hbV.size _,by omega⟩
 obtain⟨Pk,ck,f1,-⟩:=ho.key.form
 obtain⟨Ps,cs,f2,-⟩:=ho.sum.form
 obtain⟨Pn,cn,f3,-⟩:=ho.mn.form
 obtain⟨Pm,cm,f4,-⟩:=ho.mx.form
 subst f1 f2 f3 f4
 rw[e1] at hacc
 rw[e2,e3] at hacc
 rw[e1,e2,e3]
 have HA:=Lib.hid hacc
 clear hacc hz0 hbV hb0 hb1 ho hap
 have hl2:∀ ad2:Addr,(0<N→ad2=ad.add 5)→CellsR w ad2 l:=fun ad2 h2 j x hj=>by
  rw[h2 (by have:=HN.out;have:=(List.getElem?_eq_some_iff.1 hj).1;omega)]
  exact (Hl.out.drop 1) j x hj
 have Hl2:=Lib.hid hl2
 clear hl2
 go_wp2_with fail
 ·-- one
  generalize V.alloc (.cells #[.slice Pk x0.key.length ck,.int .i64 x0.cnt,.slice Ps me cs,.slice Pn me cn,.slice Pm me cm] 46)=W0 at HA ⊢
  generalize V.heap.size=b at HA hV ⊢
  obtain rfl:N=0:=by omega
  clear Hl2
  go_loopw [14] (fun v wr=>v=.int .i64 0∧wr=W0) (fun _ _=>0)
  case atStart=>exact⟨rfl,rfl⟩
  case round =>
   obtain⟨rfl,rfl⟩:=hrel
   rename World=>wr
   have hl0:l=[]:=List.eq_nil_of_length_eq_zero HN.out.symm
   have hJ:joinAll (x0 :: l)=x0:=by rw[hl0];rfl
   have t1:decide (0<0)=false:=rfl
   have ha:Acc w wr w.heap.size b [.slice none 0 0,.int .i64 0,.slice none 0 0,.slice none 0 0,.slice none 0 0] (.slice Pk x0.key.length ck) (.slice Ps me cs) (.slice Pn me cn) (.slice Pm me cm) (joinAll (x0 :: l)):=by rw[hJ];exact HA.out
   clear hJ hl0
   obtain⟨J,hJ⟩:∃ J,J=joinAll (x0 :: l):=⟨_,rfl⟩
   rw[← hJ] at ha
   have HeJ:=Lib.hid hJ
   clear hJ
   have HJ:=Lib.hid ha
   clear ha HA
   obtain⟨r0,r1,r2,r3,r4,zf,z0,z1,z2,z3,z4⟩:wr.cell? ⟨b,0,none⟩=some (.slice Pk x0.key.length ck)∧wr.cell? ⟨b,1,none⟩=some (.int .i64 J.cnt)∧wr.cell? ⟨b,2,none⟩=some (.slice Ps me cs)∧wr.cell? ⟨b,3,none⟩=some (.slice Pn me cn)∧wr.cell? ⟨b,4,none⟩=some (.slice Pm me cm)∧(∀ i,wr.frozen? ⟨w.heap.size,i,none⟩=false)∧wr.cell? ⟨w.heap.size,0,none⟩=some (.slice none 0 0)∧wr.cell? ⟨w.heap.size,1,none⟩=some (.int .i64 0)∧wr.cell? ⟨w.heap.size,2,none⟩=some (.slice none 0 0)∧wr.cell? ⟨w.heap.size,3,none⟩=some (.slice none 0 0)∧wr.cell? ⟨w.heap.size,4,none⟩=some (.slice none 0 0) :=
    ⟨HJ.out.box.cell (i:=0) rfl,HJ.out.box.cell (i:=1) rfl,HJ.out.box.cell (i:=2) rfl,HJ.out.box.cell (i:=3) rfl,HJ.out.box.cell (i:=4) rfl,HJ.out.res.frozen,HJ.out.res.cell (i:=0) rfl,HJ.out.res.cell (i:=1) rfl,HJ.out.res.cell (i:=2) rfl,HJ.out.res.cell (i:=3) rfl,HJ.out.res.cell (i:=4) rfl⟩
   obtain⟨W5,hW5⟩:∃ W5,W5=put5 wr w.heap.size (.slice Pk x0.key.length ck) (.int .i64 J.cnt) (.slice Ps me cs) (.slice Pn me cn) (.slice Pm me cm):=⟨_,rfl⟩
   have o5:Own 46 W5 w.heap.size [.slice Pk x0.key.length ck,.int .i64 J.cnt,.slice Ps me cs,.slice Pn me cn,.slice Pm me cm]:=hW5 ▸ put5_own HJ.out.res
   have on5:Only w.heap.size wr W5:=hW5 ▸ put5_only
   have hfin:CO w.heap.size W5 (.slice Pk x0.key.length ck) (.slice Ps me cs) (.slice Pn me cn) (.slice Pm me cm) J:=HJ.out.own.only on5 HJ.out.res (by decide)
   have hbf:Below w.heap.size w W5:=HJ.out.bel.trans (on5.below HJ.out.hb.1 HJ.out.bel.size)
   have HW5:=Lib.hid hW5
   have Hfin:=Lib.hid hfin
   have Hbf:=Lib.hid hbf
   have HAp:=Lib.hid HJ.out.ap
   have HO5:=Lib.hid o5
   clear hW5 o5 on5 hfin hbf HJ
   go_wp2
   have e5:=HW5.out
   unfold put5 at e5
   rw[← e5]
   clear e5
   have s0:=HO5.out.cell (i:=0) rfl
   have s1:=HO5.out.cell (i:=1) rfl
   have s2:=HO5.out.cell (i:=2) rfl
   have s3:=HO5.out.cell (i:=3) rfl
   have s4:=HO5.out.cell (i:=4) rfl
   have hJ:=HeJ.out
   subst hJ
   exact bodyPost_ret (v:=.agg #[.slice Pk x0.key.length ck,.int .i64 (joinAll (x0 :: l)).cnt,.slice Ps me cs,.slice Pn me cn,.slice Pm me cm]) (by simp[results,Tryz.results90,go_sem,s0,s1,s2,s3,s4]) rfl ⟨_,_,_,_,rfl,Hfin.out,HAp.out,Hbf.out⟩
 ·-- more
  generalize V.alloc (.cells #[.slice Pk x0.key.length ck,.int .i64 x0.cnt,.slice Ps me cs,.slice Pn me cn,.slice Pm me cm] 46)=W0 at HA ⊢
  generalize V.heap.size=b at HA hV ⊢
  obtain⟨ad2,had2⟩:∃ ad2:Addr,⟨ad.block,ad.off+5,none⟩=ad2:=⟨_,rfl⟩
  rw[had2]
  have Hc:=Lib.hid (Hl2.out ad2 (fun _=>by rw[← had2];simp[Addr.add]))
  clear had2 Hl2
  generalize c - 1=c2
  go_loopw [14] (fun v wr=>∃ k:Nat,k≤N∧v=.int .i64 k∧Acc w wr w.heap.size b [.slice none 0 0,.int .i64 0,.slice none 0 0,.slice none 0 0,.slice none 0 0] (.slice Pk x0.key.length ck) (.slice Ps me cs) (.slice Pn me cn) (.slice Pm me cm) ((l.take k).foldl join2 x0)) (fun v _=>N - (intOf v).toNat)
  case atStart=>exact⟨0,by omega,rfl,by rw[List.take_zero];exact HA.out⟩
  case round =>
   clear HA W0
   obtain⟨k,hk',rfl,ha⟩:=hrel
   rename World=>wr
   by_cases hlt:k<N
   ·obtain⟨x,hx⟩:∃ x,l[k]? = some x:=⟨_,List.getElem?_eq_getElem (by have:=HN.out;omega)⟩
    have hfold:=foldl_snoc (a:=x0) hx
    have hey:EvenC me ((l.take k).foldl join2 x0):=foldl_even _ _ (He.out x0 (by simp)) fun z hz=>He.out z (by simp[List.mem_of_mem_take hz])
    generalize (l.take k).foldl join2 x0=y at ha hfold hey
    have hex:EvenC me x:=He.out x (by simp[List.mem_of_getElem? hx])
    obtain⟨vk,vs,vn,vm,a0,a1,a2,a3,a4,hcr,hck2⟩:=Hc.out k x hx
    obtain⟨Qk,dk,f1,-⟩:=hcr.key
    obtain⟨Qs,ds,f2,-⟩:=hcr.sum
    obtain⟨Qn,dn,f3,-⟩:=hcr.mn
    obtain⟨Qm,dm,f4,-⟩:=hcr.mx
    subst f1 f2 f3 f4
    rw[hex.1] at a2 hcr
    rw[hex.2.1] at a3 hcr
    rw[hex.2.2] at a4 hcr
    have kw:=Keeps.of_below ha.bel
    replace a0:=kw _ _ a0
    replace a1:=kw _ _ a1
    replace a2:=kw _ _ a2
    replace a3:=kw _ _ a3
    replace a4:=kw _ _ a4
    have r1:=ha.box.cell (i:=1) rfl
    have rf:=ha.box.frozen
    have r2:=ha.box.cell (i:=2) rfl
    have hbb:b<wr.heap.size:=ha.box.lt
    have ha2:=(ha.cnt (wrap64 (y.cnt+x.cnt))).below ((Below.refl _ _).alloc (Nat.le_refl _) (.cells #[.slice Qk x.key.length dk,.int .i64 x.cnt,.slice Qs me ds,.slice Qn me dn,.slice Qm me dm] 46))
    have hx2:Own 46 ((wr.setCell ⟨b,1,none⟩ (.int .i64 (wrap64 (y.cnt+x.cnt)))).alloc (.cells #[.slice Qk x.key.length dk,.int .i64 x.cnt,.slice Qs me ds,.slice Qn me dn,.slice Qm me dm] 46)) wr.heap.size [.slice Qk x.key.length dk,.int .i64 x.cnt,.slice Qs me ds,.slice Qn me dn,.slice Qm me dm]:=by
     have h:=heap_alloc_new (wr.setCell ⟨b,1,none⟩ (.int .i64 (wrap64 (y.cnt+x.cnt)))) (.cells #[.slice Qk x.key.length dk,.int .i64 x.cnt,.slice Qs me ds,.slice Qn me dn,.slice Qm me dm] 46)
     rw[show (wr.setCell ⟨b,1,none⟩ (.int .i64 (wrap64 (y.cnt+x.cnt)))).heap.size=wr.heap.size from by simp[World.setCell]] at h
     exact h
    have e0:partC y x 0={ y with cnt:=wrap64 (y.cnt+x.cnt) }:=by unfold partC;rw[part_zero,part_zero,part_zero]
    rw[← e0] at ha2
    have Ha2:=Lib.hid ha2
    have Hx2:=Lib.hid hx2
    have Hcr2:=Lib.hid hcr
    have Hex:=Lib.hid hex
    have Hey:=Lib.hid hey
    have Hfold:=Lib.hid hfold
    have d1:decide (k<N)=true:=by simp;omega
    have i0:(0:Int)≤(k:Int):=by omega
    have i1:(k:Int)<(N:Int):=by omega
    clear ha ha2 hx2 hcr hex hey hfold kw hx e0 hck2
    go_wp2_with fail
    clear a0 a1 a2 a3 a4 r1 rf r2
    generalize (wr.setCell ⟨b,1,none⟩ (.int .i64 (wrap64 (y.cnt+x.cnt)))).alloc (.cells #[.slice Qk x.key.length dk,.int .i64 x.cnt,.slice Qs me ds,.slice Qn me dn,.slice Qm me dm] 46)=W1 at Ha2 Hx2 ⊢
    generalize wr.heap.size=b5 at Hx2 hbb ⊢
    clear hbb
    go_loopw [27] (fun v W=>∃ i:Nat,i≤me∧v=.int .i64 i∧Acc w W w.heap.size b [.slice none 0 0,.int .i64 0,.slice none 0 0,.slice none 0 0,.slice none 0 0] (.slice Pk x0.key.length ck) (.slice Ps me cs) (.slice Pn me cn) (.slice Pm me cm) (partC y x i)∧Own 46 W b5 [.slice Qk x.key.length dk,.int .i64 x.cnt,.slice Qs me ds,.slice Qn me dn,.slice Qm me dm]) (fun v _=>me - (intOf v).toNat)
    case atStart=>exact⟨0,by omega,rfl,Ha2.out,Hx2.out⟩
    case round =>
     clear Ha2 Hx2 W1
     obtain⟨i,hi,rfl,ha,hx⟩:=hrel
     rename World=>W
     by_cases hil:i<me
     ·obtain⟨y1,y2,y3⟩:=Hey.out
      obtain⟨x1,x2,x3⟩:=Hex.out
      obtain⟨ya,hya⟩:∃ z,y.sum[i]? = some z:=⟨_,List.getElem?_eq_getElem (by omega)⟩
      obtain⟨yb,hyb⟩:∃ z,y.mn[i]? = some z:=⟨_,List.getElem?_eq_getElem (by omega)⟩
      obtain⟨yc,hyc⟩:∃ z,y.mx[i]? = some z:=⟨_,List.getElem?_eq_getElem (by omega)⟩
      obtain⟨xa,hxa⟩:∃ z,x.sum[i]? = some z:=⟨_,List.getElem?_eq_getElem (by omega)⟩
      obtain⟨xb,hxb⟩:∃ z,x.mn[i]? = some z:=⟨_,List.getElem?_eq_getElem (by omega)⟩
      obtain⟨xc,hxc⟩:∃ z,x.mx[i]? = some z:=⟨_,List.getElem?_eq_getElem (by omega)⟩
      have E:(⟨(partC y x i).key,(partC y x i).cnt,(partC y x i).sum.set i (wrap64 (ya+xa)),(partC y x i).mn.set i (min yb xb),(partC y x i).mx.set i (max yc xc)⟩:Cel)=partC y x (i+1):=by
       unfold partC
       simp only[]
       rw[← part_set (f:=fun x y=>wrap64 (x+y)) (by omega) hya hxa,← part_set (f:=min) (by omega) hyb hxb,← part_set (f:=max) (by omega) hyc hxc]
      have HE:=Lib.hid E
      have ps:(partC y x i).sum[i]? = some ya:=part_at (by omega) hya
      have pn:(partC y x i).mn[i]? = some yb:=part_at (by omega) hyb
      have pm:(partC y x i).mx[i]? = some yc:=part_at (by omega) hyc
      have kb:inK .i64 (min yb xb):=inK_min (ha.own.mn.2 yb (List.mem_of_getElem? pn)) (Hcr2.out.mn.inK_ hxb)
      have kc:inK .i64 (max yc xc):=inK_max (ha.own.mx.2 yc (List.mem_of_getElem? pm)) (Hcr2.out.mx.inK_ hxc)
      have kw:=Keeps.of_below ha.bel
      obtain⟨g1,q1,e1,u1⟩:=ha.own.sum.block i (List.getElem?_eq_some_iff.1 ps).1
      obtain⟨g2,q2,e2,u2⟩:=ha.own.mn.block i (List.getElem?_eq_some_iff.1 pn).1
      obtain⟨g3,q3,e3,u3⟩:=ha.own.mx.block i (List.getElem?_eq_some_iff.1 pm).1
      obtain⟨A1,q4,e4,v1⟩:=(Hcr2.out.sum.keep kw).at i hxa
      obtain⟨A2,q5,e5,v2⟩:=(Hcr2.out.mn.keep kw).at i hxb
      obtain⟨A3,q6,e6,v3⟩:=(Hcr2.out.mx.keep kw).at i hxc
      injection e1 with e1 j1 j2
      clear j1 j2
      injection e2 with e2 j1 j2
      clear j1 j2
      injection e3 with e3 j1 j2
      clear j1 j2
      injection e4 with e4 j1 j2
      clear j1 j2
      injection e5 with e5 j1 j2
      clear j1 j2
      injection e6 with e6 j1 j2
      clear j1 j2
      subst e1 e2 e3 e4 e5 e6
      clear u1 u2 u3 v1 v2 v3 kw E
      have i2:(0:Int)≤(i:Int):=by omega
      have i3:(i:Int)<(me:Int):=by omega
      have t1:decide (i<me)=true:=by simp;omega
      have h2':=ha.sum i (inK_wrap (ya+xa))
      have hx2':=hx.far_int (i:=i) (u:=.int .i64 (wrap64 (ya+xa))) ha.own.sum (by decide)
      have h2:=h2'.below (Below.drew (Below.refl _ (W.setCell ⟨g1,i,none⟩ (.int .i64 (wrap64 (ya+xa))))))
      have hx2:=Own.drewN hx2' 1
      change Own _ (W.setCell ⟨g1,i,none⟩ (.int .i64 (wrap64 (ya+xa)))).drew _ _ at hx2
      have p1:=ha.box.cell (i:=2) rfl
      have q1:=hx.cell (i:=2) rfl
      have u1:=ha.own.sum.at ps
      have v1:=(Hcr2.out.sum.keep (Keeps.of_below ha.bel)).cell hxa
      have f1:=ha.own.sum.frozen i
      have H2:=Lib.hid h2
      have HX2:=Lib.hid hx2
      clear ha hx h2 hx2 h2' hx2'
      go_wp2_with fail
      go_still_tail 12,(by kernel_rfl)
      change wpList _ _ _ _ _ W.drew
      go_wp2_with fail
      generalize (W.setCell ⟨g1,i,none⟩ (.int .i64 (wrap64 (ya+xa)))).drew=W2 at H2 HX2 ⊢
      clear p1 q1 u1 v1 f1 W
      have h2:=H2.out
      have hx2:=HX2.out
      clear H2 HX2
      by_cases m2:xb<yb
      ·have em2:min yb xb=xb:=by omega
       have h3':=h2.mn i kb
       have hx3':=hx2.far_int (i:=i) (u:=.int .i64 (min yb xb)) h2.own.mn (by decide)
       have h3:=h3'.below (Below.drew (Below.refl _ (W2.setCell ⟨g2,i,none⟩ (.int .i64 (min yb xb)))))
       have hx3:=Own.drewN hx3' 1
       change Own _ (W2.setCell ⟨g2,i,none⟩ (.int .i64 (min yb xb))).drew _ _ at hx3
       have p2:=h2.box.cell (i:=3) rfl
       have q2:=hx2.cell (i:=3) rfl
       have u2:=h2.own.mn.at pn
       have v2:=(Hcr2.out.mn.keep (Keeps.of_below h2.bel)).cell hxb
       have f2:=h2.own.mn.frozen i
       rw[em2] at hx3
       have W2e:(W2.setCell ⟨g2,i,none⟩ (.int .i64 (min yb xb))).drew=(W2.setCell ⟨g2,i,none⟩ (.int .i64 xb)).drew:=by rw[em2]
       rw[W2e] at h3
       clear W2e em2
       have H3:=Lib.hid h3
       have HX3:=Lib.hid hx3
       clear h2 hx2 h3 hx3 h3' hx3'
       go_still_tail 15,(by kernel_rfl)
       change wpList _ _ _ _ _ W2.drew
       go_wp2_with fail
       generalize (W2.setCell ⟨g2,i,none⟩ (.int .i64 xb)).drew=W3 at H3 HX3 ⊢
       clear p2 q2 u2 v2 f2 W2
       have h3:=H3.out
       have hx3:=HX3.out
       clear H3 HX3
       by_cases m3:yc<xc
       ·have em3:max yc xc=xc:=by omega
        have h4':=h3.mx i kc
        have hx4':=hx3.far_int (i:=i) (u:=.int .i64 (max yc xc)) h3.own.mx (by decide)
        have h4:=h4'.below (Below.drew (Below.refl _ (W3.setCell ⟨g3,i,none⟩ (.int .i64 (max yc xc)))))
        have hx4:=Own.drewN hx4' 1
        change Own _ (W3.setCell ⟨g3,i,none⟩ (.int .i64 (max yc xc))).drew _ _ at hx4
        have p3:=h3.box.cell (i:=4) rfl
        have q3:=hx3.cell (i:=4) rfl
        have u3:=h3.own.mx.at pm
        have v3:=(Hcr2.out.mx.keep (Keeps.of_below h3.bel)).cell hxc
        have f3:=h3.own.mx.frozen i
        rw[em3] at hx4
        have W3e:(W3.setCell ⟨g3,i,none⟩ (.int .i64 (max yc xc))).drew=(W3.setCell ⟨g3,i,none⟩ (.int .i64 xc)).drew:=by rw[em3]
        rw[W3e] at h4
        clear W3e em3
        have H4:=Lib.hid h4
        have HX4:=Lib.hid hx4
        clear h3 hx3 h4 hx4 h4' hx4'
        go_still_tail 15,(by kernel_rfl)
        change wpList _ _ _ _ _ W3.drew
        go_wp2_with fail
        generalize (W3.setCell ⟨g3,i,none⟩ (.int .i64 xc)).drew=W4 at H4 HX4 ⊢
        clear p3 q3 u3 v3 f3 W3
        have h4:=H4.out
        have hx4:=HX4.out
        clear H4 HX4
        have h5:Acc w W4 w.heap.size b [.slice none 0 0,.int .i64 0,.slice none 0 0,.slice none 0 0,.slice none 0 0] (.slice Pk x0.key.length ck) (.slice (some ⟨g1,0,none⟩) me cs) (.slice (some ⟨g2,0,none⟩) me cn) (.slice (some ⟨g3,0,none⟩) me cm) (partC y x (i+1)):=HE.out ▸ h4
        go_wp2
        go_roundw
        case rel=>exact⟨i+1,by omega,by go_num,h5,hx4⟩
        case measure=>simp[intOf];omega
       ·have em3:max yc xc=yc:=by omega
        have h4':=h3.mx i kc
        have hx4':=hx3.far_int (i:=i) (u:=.int .i64 (max yc xc)) h3.own.mx (by decide)
        have h4:=h4'.below (Below.drew (Below.refl _ (W3.setCell ⟨g3,i,none⟩ (.int .i64 (max yc xc)))))
        have hx4:=Own.drewN hx4' 1
        change Own _ (W3.setCell ⟨g3,i,none⟩ (.int .i64 (max yc xc))).drew _ _ at hx4
        have p3:=h3.box.cell (i:=4) rfl
        have q3:=hx3.cell (i:=4) rfl
        have u3:=h3.own.mx.at pm
        have v3:=(Hcr2.out.mx.keep (Keeps.of_below h3.bel)).cell hxc
        have f3:=h3.own.mx.frozen i
        rw[em3] at hx4
        have W3e:(W3.setCell ⟨g3,i,none⟩ (.int .i64 (max yc xc))).drew=(W3.setCell ⟨g3,i,none⟩ (.int .i64 yc)).drew:=by rw[em3]
        rw[W3e] at h4
        clear W3e em3
        have H4:=Lib.hid h4
        have HX4:=Lib.hid hx4
        clear h3 hx3 h4 hx4 h4' hx4'
        go_still_tail 15,(by kernel_rfl)
        change wpList _ _ _ _ _ W3.drew
        go_wp2_with fail
        generalize (W3.setCell ⟨g3,i,none⟩ (.int .i64 yc)).drew=W4 at H4 HX4 ⊢
        clear p3 q3 u3 v3 f3 W3
        have h4:=H4.out
        have hx4:=HX4.out
        clear H4 HX4
        have h5:Acc w W4 w.heap.size b [.slice none 0 0,.int .i64 0,.slice none 0 0,.slice none 0 0,.slice none 0 0] (.slice Pk x0.key.length ck) (.slice (some ⟨g1,0,none⟩) me cs) (.slice (some ⟨g2,0,none⟩) me cn) (.slice (some ⟨g3,0,none⟩) me cm) (partC y x (i+1)):=HE.out ▸ h4
        go_wp2
        go_roundw
        case rel=>exact⟨i+1,by omega,by go_num,h5,hx4⟩
        case measure=>simp[intOf];omega
      ·have em2:min yb xb=yb:=by omega
       have h3':=h2.mn i kb
       have hx3':=hx2.far_int (i:=i) (u:=.int .i64 (min yb xb)) h2.own.mn (by decide)
       have h3:=h3'.below (Below.drew (Below.refl _ (W2.setCell ⟨g2,i,none⟩ (.int .i64 (min yb xb)))))
       have hx3:=Own.drewN hx3' 1
       change Own _ (W2.setCell ⟨g2,i,none⟩ (.int .i64 (min yb xb))).drew _ _ at hx3
       have p2:=h2.box.cell (i:=3) rfl
       have q2:=hx2.cell (i:=3) rfl
       have u2:=h2.own.mn.at pn
       have v2:=(Hcr2.out.mn.keep (Keeps.of_below h2.bel)).cell hxb
       have f2:=h2.own.mn.frozen i
       rw[em2] at hx3
       have W2e:(W2.setCell ⟨g2,i,none⟩ (.int .i64 (min yb xb))).drew=(W2.setCell ⟨g2,i,none⟩ (.int .i64 yb)).drew:=by rw[em2]
       rw[W2e] at h3
       clear W2e em2
       have H3:=Lib.hid h3
       have HX3:=Lib.hid hx3
       clear h2 hx2 h3 hx3 h3' hx3'
       go_still_tail 15,(by kernel_rfl)
       change wpList _ _ _ _ _ W2.drew
       go_wp2_with fail
       generalize (W2.setCell ⟨g2,i,none⟩ (.int .i64 yb)).drew=W3 at H3 HX3 ⊢
       clear p2 q2 u2 v2 f2 W2
       have h3:=H3.out
       have hx3:=HX3.out
       clear H3 HX3
       by_cases m3:yc<xc
       ·have em3:max yc xc=xc:=by omega
        have h4':=h3.mx i kc
        have hx4':=hx3.far_int (i:=i) (u:=.int .i64 (max yc xc)) h3.own.mx (by decide)
        have h4:=h4'.below (Below.drew (Below.refl _ (W3.setCell ⟨g3,i,none⟩ (.int .i64 (max yc xc)))))
        have hx4:=Own.drewN hx4' 1
        change Own _ (W3.setCell ⟨g3,i,none⟩ (.int .i64 (max yc xc))).drew _ _ at hx4
        have p3:=h3.box.cell (i:=4) rfl
        have q3:=hx3.cell (i:=4) rfl
        have u3:=h3.own.mx.at pm
        have v3:=(Hcr2.out.mx.keep (Keeps.of_below h3.bel)).cell hxc
        have f3:=h3.own.mx.frozen i
        rw[em3] at hx4
        have W3e:(W3.setCell ⟨g3,i,none⟩ (.int .i64 (max yc xc))).drew=(W3.setCell ⟨g3,i,none⟩ (.int .i64 xc)).drew:=by rw[em3]
        rw[W3e] at h4
        clear W3e em3
        have H4:=Lib.hid h4
        have HX4:=Lib.hid hx4
        clear h3 hx3 h4 hx4 h4' hx4'
        go_still_tail 15,(by kernel_rfl)
        change wpList _ _ _ _ _ W3.drew
        go_wp2_with fail
        generalize (W3.setCell ⟨g3,i,none⟩ (.int .i64 xc)).drew=W4 at H4 HX4 ⊢
        clear p3 q3 u3 v3 f3 W3
        have h4:=H4.out
        have hx4:=HX4.out
        clear H4 HX4
        have h5:Acc w W4 w.heap.size b [.slice none 0 0,.int .i64 0,.slice none 0 0,.slice none 0 0,.slice none 0 0] (.slice Pk x0.key.length ck) (.slice (some ⟨g1,0,none⟩) me cs) (.slice (some ⟨g2,0,none⟩) me cn) (.slice (some ⟨g3,0,none⟩) me cm) (partC y x (i+1)):=HE.out ▸ h4
        go_wp2
        go_roundw
        case rel=>exact⟨i+1,by omega,by go_num,h5,hx4⟩
        case measure=>simp[intOf];omega
       ·have em3:max yc xc=yc:=by omega
        have h4':=h3.mx i kc
        have hx4':=hx3.far_int (i:=i) (u:=.int .i64 (max yc xc)) h3.own.mx (by decide)
        have h4:=h4'.below (Below.drew (Below.refl _ (W3.setCell ⟨g3,i,none⟩ (.int .i64 (max yc xc)))))
        have hx4:=Own.drewN hx4' 1
        change Own _ (W3.setCell ⟨g3,i,none⟩ (.int .i64 (max yc xc))).drew _ _ at hx4
        have p3:=h3.box.cell (i:=4) rfl
        have q3:=hx3.cell (i:=4) rfl
        have u3:=h3.own.mx.at pm
        have v3:=(Hcr2.out.mx.keep (Keeps.of_below h3.bel)).cell hxc
        have f3:=h3.own.mx.frozen i
        rw[em3] at hx4
        have W3e:(W3.setCell ⟨g3,i,none⟩ (.int .i64 (max yc xc))).drew=(W3.setCell ⟨g3,i,none⟩ (.int .i64 yc)).drew:=by rw[em3]
        rw[W3e] at h4
        clear W3e em3
        have H4:=Lib.hid h4
        have HX4:=Lib.hid hx4
        clear h3 hx3 h4 hx4 h4' hx4'
        go_still_tail 15,(by kernel_rfl)
        change wpList _ _ _ _ _ W3.drew
        go_wp2_with fail
        generalize (W3.setCell ⟨g3,i,none⟩ (.int .i64 yc)).drew=W4 at H4 HX4 ⊢
        clear p3 q3 u3 v3 f3 W3
        have h4:=H4.out
        have hx4:=HX4.out
        clear H4 HX4
        have h5:Acc w W4 w.heap.size b [.slice none 0 0,.int .i64 0,.slice none 0 0,.slice none 0 0,.slice none 0 0] (.slice Pk x0.key.length ck) (.slice (some ⟨g1,0,none⟩) me cs) (.slice (some ⟨g2,0,none⟩) me cn) (.slice (some ⟨g3,0,none⟩) me cm) (partC y x (i+1)):=HE.out ▸ h4
        go_wp2
        go_roundw
        case rel=>exact⟨i+1,by omega,by go_num,h5,hx4⟩
        case measure=>simp[intOf];omega
     ·have him:me=i:=by omega
      subst him
      have t1:decide (me<me)=false:=by simp
      have h6:Acc w W w.heap.size b [.slice none 0 0,.int .i64 0,.slice none 0 0,.slice none 0 0,.slice none 0 0] (.slice Pk x0.key.length ck) (.slice Ps me cs) (.slice Pn me cn) (.slice Pm me cm) (join2 y x):=partC_all Hey.out Hex.out ▸ ha
      rw[← Hfold.out] at h6
      have H6:=Lib.hid h6
      clear h6 ha hx
      go_wp2
      go_roundw
      case rel=>exact⟨k+1,by omega,by go_num,H6.out⟩
      case measure=>simp[intOf];omega
   ·have hkN:N=k:=by omega
    subst hkN
    have t1:decide (N<N)=false:=by simp
    rw[List.take_of_length_le (by have:=HN.out;omega)] at ha
    change Acc w wr w.heap.size b [.slice none 0 0,.int .i64 0,.slice none 0 0,.slice none 0 0,.slice none 0 0] (.slice Pk x0.key.length ck) (.slice Ps me cs) (.slice Pn me cn) (.slice Pm me cm) (joinAll (x0 :: l)) at ha
    obtain⟨J,hJ⟩:∃ J,J=joinAll (x0 :: l):=⟨_,rfl⟩
    rw[← hJ] at ha
    have HeJ:=Lib.hid hJ
    have HJ:=Lib.hid ha
    clear ha hJ
    obtain⟨r0,r1,r2,r3,r4,zf,z0,z1,z2,z3,z4⟩:wr.cell? ⟨b,0,none⟩=some (.slice Pk x0.key.length ck)∧wr.cell? ⟨b,1,none⟩=some (.int .i64 J.cnt)∧wr.cell? ⟨b,2,none⟩=some (.slice Ps me cs)∧wr.cell? ⟨b,3,none⟩=some (.slice Pn me cn)∧wr.cell? ⟨b,4,none⟩=some (.slice Pm me cm)∧(∀ i,wr.frozen? ⟨w.heap.size,i,none⟩=false)∧wr.cell? ⟨w.heap.size,0,none⟩=some (.slice none 0 0)∧wr.cell? ⟨w.heap.size,1,none⟩=some (.int .i64 0)∧wr.cell? ⟨w.heap.size,2,none⟩=some (.slice none 0 0)∧wr.cell? ⟨w.heap.size,3,none⟩=some (.slice none 0 0)∧wr.cell? ⟨w.heap.size,4,none⟩=some (.slice none 0 0) :=
     ⟨HJ.out.box.cell (i:=0) rfl,HJ.out.box.cell (i:=1) rfl,HJ.out.box.cell (i:=2) rfl,HJ.out.box.cell (i:=3) rfl,HJ.out.box.cell (i:=4) rfl,HJ.out.res.frozen,HJ.out.res.cell (i:=0) rfl,HJ.out.res.cell (i:=1) rfl,HJ.out.res.cell (i:=2) rfl,HJ.out.res.cell (i:=3) rfl,HJ.out.res.cell (i:=4) rfl⟩
    obtain⟨W5,hW5⟩:∃ W5,W5=put5 wr w.heap.size (.slice Pk x0.key.length ck) (.int .i64 J.cnt) (.slice Ps me cs) (.slice Pn me cn) (.slice Pm me cm):=⟨_,rfl⟩
    have o5:Own 46 W5 w.heap.size [.slice Pk x0.key.length ck,.int .i64 J.cnt,.slice Ps me cs,.slice Pn me cn,.slice Pm me cm]:=hW5 ▸ put5_own HJ.out.res
    have on5:Only w.heap.size wr W5:=hW5 ▸ put5_only
    have hfin:CO w.heap.size W5 (.slice Pk x0.key.length ck) (.slice Ps me cs) (.slice Pn me cn) (.slice Pm me cm) J:=HJ.out.own.only on5 HJ.out.res (by decide)
    have hbf:Below w.heap.size w W5:=HJ.out.bel.trans (on5.below HJ.out.hb.1 HJ.out.bel.size)
    have HW5:=Lib.hid hW5
    have Hfin:=Lib.hid hfin
    have Hbf:=Lib.hid hbf
    have HAp:=Lib.hid HJ.out.ap
    have HO5:=Lib.hid o5
    clear hW5 o5 on5 hfin hbf HJ
    go_wp2
    have e5:=HW5.out
    unfold put5 at e5
    rw[← e5]
    clear e5
    have s0:=HO5.out.cell (i:=0) rfl
    have s1:=HO5.out.cell (i:=1) rfl
    have s2:=HO5.out.cell (i:=2) rfl
    have s3:=HO5.out.cell (i:=3) rfl
    have s4:=HO5.out.cell (i:=4) rfl
    have hJ:=HeJ.out
    subst hJ
    exact bodyPost_ret (v:=.agg #[.slice Pk x0.key.length ck,.int .i64 (joinAll (x0 :: l)).cnt,.slice Ps me cs,.slice Pn me cn,.slice Pm me cm]) (by simp[results,Tryz.results90,go_sem,s0,s1,s2,s3,s4]) rfl ⟨_,_,_,_,rfl,Hfin.out,HAp.out,Hbf.out⟩
end Go.Proofs.YtnjlkhhcfiedbaaGreatDoor
namespace Go.Proofs.YtnjlkhhcfiedbaaGreatDoor
open Go.RowKit
theorem infoC:(Tryz.prog.info? 46).map (fun i=>(i.zero,i.size,i.bytes))=some (some (.agg #[.slice none 0 0,.int .i64 0,.slice none 0 0,.slice none 0 0,.slice none 0 0]),5,104):=by kernel_rfl
structure V5 where
 a:Value
 b:Value
 c:Value
 d:Value
 e:Value
def V5.l (v:V5):List Value:=[v.a,v.b,v.c,v.d,v.e]
def flatV (vs:List V5):List Value:=vs.flatMap V5.l
theorem flatV_len (vs:List V5):(flatV vs).length=vs.length*5:=by
 induction vs with
 | nil=>rfl
 | cons v t ih=>simp[flatV,V5.l] at ih ⊢;omega
theorem flatV_at:∀ {vs:List V5} {i:Nat} {v:V5},vs[i]? = some v→(flatV vs)[i*5]? = some v.a∧(flatV vs)[i*5+1]? = some v.b∧(flatV vs)[i*5+2]? = some v.c∧(flatV vs)[i*5+3]? = some v.d∧(flatV vs)[i*5+4]? = some v.e
 | v :: t,0,_,h=>by
  simp only[List.getElem?_cons_zero,Option.some.injEq] at h
  subst h
  simp[flatV,V5.l]
 | v :: t,i+1,u,h=>by
  have ih:=flatV_at (vs:=t) (i:=i) (v:=u) (by simpa using h)
  have e:flatV (v :: t)=v.a :: v.b :: v.c :: v.d :: v.e :: flatV t:=by simp[flatV,V5.l]
  rw[e,show (i+1)*5=i*5+5 by omega]
  simpa using ih
def Reads (w:World) (v:V5) (x:Cel):Prop:=v.b=.int .i64 x.cnt∧CR w v.a v.c v.d v.e x∧inK .i64 x.cnt
theorem Reads.keep {w w':World} {v:V5} {x:Cel} (h:Reads w v x) (hk:Keeps w w'):Reads w' v x:=⟨h.1,h.2.1.keep hk,h.2.2⟩
def ReadsL (w:World) (vs:List V5) (l:List Cel):Prop:=vs.length=l.length∧∀ (i:Nat) (v:V5) (x:Cel),vs[i]? = some v→l[i]? = some x→Reads w v x
theorem ReadsL.keep {w w':World} {vs:List V5} {l:List Cel} (h:ReadsL w vs l) (hk:Keeps w w'):ReadsL w' vs l:=⟨h.1,fun i v x hv hx=>(h.2 i v x hv hx).keep hk⟩
theorem oneCell_ri {w:World} {v:Value} {xs:List Int} (h:RI w v xs):v.oneCell'=true:=by
 obtain⟨P,c,rfl,_⟩:=h
 rfl
theorem Reads.one {w:World} {v:V5} {x:Cel} (h:Reads w v x):∀ u ∈ v.l,u.oneCell'=true:=by
 intro u hu
 obtain⟨h1,h2,_⟩:=h
 simp only[V5.l,List.mem_cons,List.mem_nil_iff,or_false] at hu
 rcases hu with rfl | rfl | rfl | rfl | rfl
 ·exact oneCell_ri h2.key
 ·rw[h1];rfl
 ·exact oneCell_ri h2.sum
 ·exact oneCell_ri h2.mn
 ·exact oneCell_ri h2.mx
theorem ReadsL.one {w:World} {vs:List V5} {l:List Cel} (h:ReadsL w vs l):∀ u ∈ flatV vs,u.oneCell'=true:=by
 intro u hu
 simp only[flatV,List.mem_flatMap] at hu
 obtain⟨v,hv,hu⟩:=hu
 obtain⟨i,hi⟩:=List.getElem?_of_mem hv
 obtain⟨x,hx⟩:∃ x,l[i]? = some x:=⟨_,List.getElem?_eq_getElem (by rw[← h.1];exact (List.getElem?_eq_some_iff.1 hi).1)⟩
 exact (h.2 i v x hi hx).one u hu
theorem CellsR.vals {w:World} {ad:Addr}:∀ {l:List Cel},CellsR w ad l→∃ vs,ReadsL w vs l∧∀ j u,(flatV vs)[j]? = some u→w.cell? (ad.add j)=some u:=by
 intro l
 induction l generalizing ad with
 | nil=>exact fun _=>⟨[],⟨rfl,fun i v x h=>by simp at h⟩,fun j u h=>by simp[flatV] at h⟩
 | cons x t ih =>
  intro h
  obtain⟨vk,vs,vn,vm,a0,a1,a2,a3,a4,hcr,hck⟩:=h.first
  obtain⟨us,hr,hc⟩:=ih (ad:=ad.add 5) (h.drop 1)
  have o:∀ k u,0<k→w.cell? ⟨ad.block,ad.off+k,none⟩=some u→w.cell? (ad.add k)=some u:=fun k u hk h=>by
   rw[show ad.add k=⟨ad.block,ad.off+k,none⟩ from by simp[Addr.add];omega]
   exact h
  refine⟨⟨vk,.int .i64 x.cnt,vs,vn,vm⟩ :: us,⟨by simp[hr.1],fun i v y hv hy=>?_⟩,fun j u hu=>?_⟩
  ·cases i with
   | zero =>
    simp only[List.getElem?_cons_zero,Option.some.injEq] at hv hy
    subst hv hy
    exact⟨rfl,hcr,hck⟩
   | succ i=>exact hr.2 i v y (by simpa using hv) (by simpa using hy)
  ·have e:flatV (⟨vk,.int .i64 x.cnt,vs,vn,vm⟩ :: us)=vk :: .int .i64 x.cnt :: vs :: vn :: vm :: flatV us:=by simp[flatV,V5.l]
   rw[e] at hu
   match j,hu with
   | 0,hu=>simp at hu;subst hu;rw[show ad.add 0=ad from by simp[Addr.add]];exact a0
   | 1,hu=>simp at hu;subst hu;exact o 1 _ (by omega) a1
   | 2,hu=>simp at hu;subst hu;exact o 2 _ (by omega) a2
   | 3,hu=>simp at hu;subst hu;exact o 3 _ (by omega) a3
   | 4,hu=>simp at hu;subst hu;exact o 4 _ (by omega) a4
   | j+5,hu=>rw[show j+5=5+j by omega,← add_of_add];exact hc j u (by simpa using hu)
theorem cells_of_vals {w:World} {ad:Addr} {vs:List V5} {l:List Cel} (hr:ReadsL w vs l) (hc:∀ j u,(flatV vs)[j]? = some u→w.cell? (ad.add j)=some u):CellsR w ad l:=fun i x hx=>by
 obtain⟨v,hv⟩:∃ v,vs[i]? = some v:=⟨_,List.getElem?_eq_getElem (by rw[hr.1];exact (List.getElem?_eq_some_iff.1 hx).1)⟩
 obtain⟨f0,f1,f2,f3,f4⟩:=flatV_at hv
 obtain⟨g1,g2,g3⟩:=hr.2 i v x hv hx
 have o:∀ k u,0<k→w.cell? ((ad.add (i*5)).add k)=some u→w.cell? ⟨(ad.add (i*5)).block,(ad.add (i*5)).off+k,none⟩=some u:=fun k u hk h=>by
  rwa [show (ad.add (i*5)).add k=⟨(ad.add (i*5)).block,(ad.add (i*5)).off+k,none⟩ from by rw[Addr.add,if_neg (by omega)]] at h
 have q:∀ k u,(flatV vs)[i*5+k]? = some u→w.cell? ((ad.add (i*5)).add k)=some u:=fun k u h=>by
  rw[add_of_add];exact hc _ u h
 exact⟨v.a,v.c,v.d,v.e,hc _ _ f0,o 1 _ (by omega) (q 1 _ (g1 ▸ f1)),o 2 _ (by omega) (q 2 _ f2),o 3 _ (by omega) (q 3 _ f3),o 4 _ (by omega) (q 4 _ f4),g2,g3⟩
set_option maxRecDepth 100000 in
set_option maxHeartbeats 1000000 in
theorem cclone_any (ad:Addr) (c:Nat) (vs:List V5) (l:List Cel) (w:World) (hr:ReadsL w vs l) (hc:∀ j u,(flatV vs)[j]? = some u→w.cell? (ad.add j)=some u) (hn:vs.length≤1000000) :
  Calls Tryz.prog 105 #[.slice (some ad) vs.length c] w fun e w'=>∃ v',e=.returned v'∧w'.ownsRow w.heap.size 46 5 v' vs.length (flatV vs)∧Below w.heap.size w w':=by
 obtain⟨i0,hi,hz0,hz1,hz2⟩:=info_parts infoC
 have hlit:(w.alloc (.cells #[] 46)).ownsRow w.heap.size 46 5 (.slice (some ⟨w.heap.size,0,none⟩) 0 0) 0 []:=World.ownsRow_made w #[] 0 (Nat.le_refl _) (by simp[maxLen]) (by simp)
 have hb:Below w.heap.size w (w.alloc (.cells #[] 46)):=(Below.refl _ _).alloc (Nat.le_refl _) _
 obtain⟨v',W',hrun,ho,hgr,_⟩:=run_append_own_at (P:=Tryz.prog) (w.alloc (.cells #[] 46)) w.heap.size 31 31 46 i0 _ 5 104 Tryz.underlying31 hi hz0 hz1 hz2 rfl (by omega) _ 0 [] hlit ad vs.length c (flatV vs) (flatV_len vs)
  (fun j u hu=>(Keeps.of_below hb) _ _ (hc j u hu)) hr.one (by simp[maxLen];omega) (by omega) hb.size
 rw[Nat.zero_add,List.nil_append] at ho
 have hbw:Below w.heap.size w W':=hb.grown hgr hb.size fun j e=>(hlit.lt j e).1
 have Hok:=Lib.hid ho
 have Hbw:=Lib.hid hbw
 have Hrun:=Lib.hid hrun
 obtain⟨P',c',hv',_⟩:=own_form ho
 subst hv'
 have hq:(binOp .eql 31 (.slice (some ad) vs.length c) (.slice none 0 0)).run Tryz.prog w=.ok (.bool false) w:=Go.Lib.run_eql_slice_nil w _ _ (some ad) _ _ 0 0 Tryz.underlying31
 clear hi hz0 hz1 hz2 hlit hb hrun ho hgr hbw hr hc
 go_enter Tryz.func105,Tryz.ntmps105
 go_wp2_with (at_builtin;have _t:=Hrun;refine wpList_append_eq rfl (.tmp 5) (.tmp 6) 31 rfl _ _ _ _ rfl rfl Hrun.out ?_;clear _t Hrun)
 go_ret
 exact⟨_,rfl,Hok.out,Hbw.out⟩
end Go.Proofs.YtnjlkhhcfiedbaaGreatDoor

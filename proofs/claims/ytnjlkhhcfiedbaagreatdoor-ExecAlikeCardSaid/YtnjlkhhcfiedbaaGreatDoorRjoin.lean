import Derived.Test.YtnjlkhhcfiedbaaGreatDoorSl
import Derived.Test.YtnjlkhhcfiedbaaGreatDoorJoinS
namespace Go.Proofs.YtnjlkhhcfiedbaaGreatDoor
open Go.RowKit Go.Shelf
theorem JS.first {w W:World} {g:Nat} {ra rb:List Value} {cz:Int} {kv:Value} {K:List Int} (ha:Own 46 W w.heap.size ra) (hb:Own 46 W (w.heap.size+1) rb) (hr:Own 46 W (w.heap.size+1+1) [.slice none 0 0,.int .i64 0,.slice none 0 0,.slice none 0 0,.slice none 0 0]) (hc:Own 46 W g [kv,.int .i64 cz,.slice none 0 0,.slice none 0 0,.slice none 0 0])
  (gb:w.heap.size+1+1<g) (bel:Below w.heap.size w W) (hk:OI w.heap.size W kv K) :
  JS w W g ra rb cz (fun i=>if i=0 then kv else .slice none 0 0) (fun i=>if i=0 then K else []):=by
 refine⟨ha,hb,hr,hc,gb,bel,fun i hi=>?_,fun i j hi hj hij=>?_⟩
 ·by_cases e:i=0
  ·rw[if_pos e,if_pos e];exact hk
  ·rw[if_neg e,if_neg e];exact OI.nil _ _
 ·by_cases e:i=0
  ·rw[if_neg (show ¬ j=0 by omega)]
   intro b _ h2
   cases h2
  ·rw[if_neg e]
   intro b h1
   cases h1
theorem JS.start {w W:World} {g:Nat} {ra rb:List Value} {cz:Int} {kv:Value} {K:List Int} (ha:Own 46 W w.heap.size ra) (hb:Own 46 W (w.heap.size+1) rb) (hr:Own 46 W (w.heap.size+1+1) [.slice none 0 0,.int .i64 0,.slice none 0 0,.slice none 0 0,.slice none 0 0]) (hc:Own 46 W g [.slice none 0 0,.int .i64 0,.slice none 0 0,.slice none 0 0,.slice none 0 0])
  (gb:w.heap.size+1+1<g) (bel:Below w.heap.size w W) (hk:OI w.heap.size W kv K) :
  JS w (put5 W g kv (.int .i64 cz) (.slice none 0 0) (.slice none 0 0) (.slice none 0 0)) g ra rb cz (fun i=>if i=0 then kv else .slice none 0 0) (fun i=>if i=0 then K else []):=by
 have on:Only g W (put5 W g kv (.int .i64 cz) (.slice none 0 0) (.slice none 0 0) (.slice none 0 0)):=put5_only
 exact JS.first (ha.only on (by omega)) (hb.only on (by omega)) (hr.only on (by omega)) (put5_own hc) gb (bel.trans (on.below (by omega) bel.size)) (hk.only on hc (by decide))
set_option maxRecDepth 100000 in
set_option maxHeartbeats 8000000 in
theorem rJoin_any (k s n m k' s' n' m':Value) (x y:Cel) (me:Nat) (w:World) (hx:CR w k s n m x) (hy:CR w k' s' n' m' y) (ex:EvenC me x) (ey:EvenC me y) (hk1:x.key.length≤1000000) (hm1:me≤100000) (_ix:inK .i64 x.cnt) (_iy:inK .i64 y.cnt) :
  Calls Tryz.prog 53 #[.agg #[k,.int .i64 x.cnt,s,n,m],.agg #[k',.int .i64 y.cnt,s',n',m']] w fun e w'=>∃ k s n m,e=.returned (.agg #[k,.int .i64 (join2 x y).cnt,s,n,m])∧CO w.heap.size w' k s n m (join2 x y)∧Below w.heap.size w w':=by
 obtain⟨⟨Pk,ck,rfl,hk⟩,⟨Ps,cs,rfl,hs⟩,⟨Pn,cn,rfl,hn⟩,⟨Pm,cm,rfl,hm⟩⟩:=hx
 obtain⟨⟨Qk,dk,rfl,-⟩,⟨Qs,ds,rfl,gs⟩,⟨Qn,dn,rfl,gn⟩,⟨Qm,dm,rfl,gm⟩⟩:=hy
 obtain⟨e1,e2,e3⟩:=ex
 obtain⟨e4,e5,e6⟩:=ey
 have Rk:Hid (RI w (.slice Pk x.key.length ck) x.key):=Lib.hid ⟨_,_,rfl,hk⟩
 have HL:=Lib.hid hk1
 have E1:=Lib.hid e1
 have E2:=Lib.hid e2
 have E3:=Lib.hid e3
 have E4:=Lib.hid e4
 have E5:=Lib.hid e5
 have E6:=Lib.hid e6
 have Ns:=Lib.hid hs.1
 have Nn:=Lib.hid hn.1
 have Nm:=Lib.hid hm.1
 have Ms:=Lib.hid gs.1
 have Mn:=Lib.hid gn.1
 have Mm:=Lib.hid gm.1
 rw[e1] at Ns ⊢
 rw[e2] at Nn ⊢
 rw[e3] at Nm ⊢
 rw[e4] at Ms ⊢
 rw[e5] at Mn ⊢
 rw[e6] at Mm ⊢
 obtain⟨cz,hcz⟩:∃ cz,cz=(join2 x y).cnt:=⟨_,rfl⟩
 rw[← hcz]
 obtain⟨xc,hxc⟩:∃ c,c=x.cnt:=⟨_,rfl⟩
 obtain⟨yc,hyc⟩:∃ c,c=y.cnt:=⟨_,rfl⟩
 have rz:IntKind.i64.wrap (xc+yc)=cz:=by rw[hcz,hxc,hyc];show _=wrap64 _;rw[Go.IntWalk.i64_left]
 rw[← hxc,← hyc]
 generalize hlk:x.key.length=lk at Rk ⊢
 generalize hmk:y.key.length=mk
 have HLK:=Lib.hid hlk
 have HCZ:=Lib.hid hcz
 clear hk hs hn hm gs gn gm e1 e2 e3 e4 e5 e6 hlk hmk hxc hyc hcz hk1 _ix _iy
 have o1:Own 46 (((w.alloc (.cells #[.slice Pk lk ck,.int .i64 xc,.slice Ps me cs,.slice Pn me cn,.slice Pm me cm] 46)).alloc (.cells #[.slice Qk mk dk,.int .i64 yc,.slice Qs me ds,.slice Qn me dn,.slice Qm me dm] 46)).alloc (.cells #[.slice none 0 0,.int .i64 0,.slice none 0 0,.slice none 0 0,.slice none 0 0] 46)) w.heap.size [.slice Pk lk ck,.int .i64 xc,.slice Ps me cs,.slice Pn me cn,.slice Pm me cm]:=((show Own 46 (w.alloc (.cells #[.slice Pk lk ck,.int .i64 xc,.slice Ps me cs,.slice Pn me cn,.slice Pm me cm] 46)) w.heap.size [.slice Pk lk ck,.int .i64 xc,.slice Ps me cs,.slice Pn me cn,.slice Pm me cm] from heap_alloc_new w _).alloc _).alloc _
 have o2:Own 46 (((w.alloc (.cells #[.slice Pk lk ck,.int .i64 xc,.slice Ps me cs,.slice Pn me cn,.slice Pm me cm] 46)).alloc (.cells #[.slice Qk mk dk,.int .i64 yc,.slice Qs me ds,.slice Qn me dn,.slice Qm me dm] 46)).alloc (.cells #[.slice none 0 0,.int .i64 0,.slice none 0 0,.slice none 0 0,.slice none 0 0] 46)) (w.heap.size+1) [.slice Qk mk dk,.int .i64 yc,.slice Qs me ds,.slice Qn me dn,.slice Qm me dm]:=by
  have:=heap_alloc_new (w.alloc (.cells #[.slice Pk lk ck,.int .i64 xc,.slice Ps me cs,.slice Pn me cn,.slice Pm me cm] 46)) (.cells #[.slice Qk mk dk,.int .i64 yc,.slice Qs me ds,.slice Qn me dn,.slice Qm me dm] 46)
  rw[show (w.alloc (.cells #[.slice Pk lk ck,.int .i64 xc,.slice Ps me cs,.slice Pn me cn,.slice Pm me cm] 46)).heap.size=w.heap.size+1 from by simp] at this
  exact (show Own 46 ((w.alloc (.cells #[.slice Pk lk ck,.int .i64 xc,.slice Ps me cs,.slice Pn me cn,.slice Pm me cm] 46)).alloc (.cells #[.slice Qk mk dk,.int .i64 yc,.slice Qs me ds,.slice Qn me dn,.slice Qm me dm] 46)) (w.heap.size+1) [.slice Qk mk dk,.int .i64 yc,.slice Qs me ds,.slice Qn me dn,.slice Qm me dm] from this).alloc _
 have o3:Own 46 (((w.alloc (.cells #[.slice Pk lk ck,.int .i64 xc,.slice Ps me cs,.slice Pn me cn,.slice Pm me cm] 46)).alloc (.cells #[.slice Qk mk dk,.int .i64 yc,.slice Qs me ds,.slice Qn me dn,.slice Qm me dm] 46)).alloc (.cells #[.slice none 0 0,.int .i64 0,.slice none 0 0,.slice none 0 0,.slice none 0 0] 46)) (w.heap.size+1+1) [.slice none 0 0,.int .i64 0,.slice none 0 0,.slice none 0 0,.slice none 0 0]:=by
  have:=heap_alloc_new ((w.alloc (.cells #[.slice Pk lk ck,.int .i64 xc,.slice Ps me cs,.slice Pn me cn,.slice Pm me cm] 46)).alloc (.cells #[.slice Qk mk dk,.int .i64 yc,.slice Qs me ds,.slice Qn me dn,.slice Qm me dm] 46)) (.cells #[.slice none 0 0,.int .i64 0,.slice none 0 0,.slice none 0 0,.slice none 0 0] 46)
  rw[show ((w.alloc (.cells #[.slice Pk lk ck,.int .i64 xc,.slice Ps me cs,.slice Pn me cn,.slice Pm me cm] 46)).alloc (.cells #[.slice Qk mk dk,.int .i64 yc,.slice Qs me ds,.slice Qn me dn,.slice Qm me dm] 46)).heap.size=w.heap.size+1+1 from by simp] at this
  exact this
 have hb:Below w.heap.size w (((w.alloc (.cells #[.slice Pk lk ck,.int .i64 xc,.slice Ps me cs,.slice Pn me cn,.slice Pm me cm] 46)).alloc (.cells #[.slice Qk mk dk,.int .i64 yc,.slice Qs me ds,.slice Qn me dn,.slice Qm me dm] 46)).alloc (.cells #[.slice none 0 0,.int .i64 0,.slice none 0 0,.slice none 0 0,.slice none 0 0] 46)):=(((Below.refl _ w).alloc (Nat.le_refl _) _).alloc (by simp) _).alloc (by simp;omega) _
 have hz:(((w.alloc (.cells #[.slice Pk lk ck,.int .i64 xc,.slice Ps me cs,.slice Pn me cn,.slice Pm me cm] 46)).alloc (.cells #[.slice Qk mk dk,.int .i64 yc,.slice Qs me ds,.slice Qn me dn,.slice Qm me dm] 46)).alloc (.cells #[.slice none 0 0,.int .i64 0,.slice none 0 0,.slice none 0 0,.slice none 0 0] 46)).heap.size=w.heap.size+1+1+1:=by simp
 have O1:=Lib.hid o1
 have O2:=Lib.hid o2
 have O3:=Lib.hid o3
 have Hb:=Lib.hid hb
 have Hz:=Lib.hid hz
 clear o1 o2 o3 hb hz
 go_enter Tryz.func53,Tryz.ntmps53
 go_upto_region 1 with (fail)
 generalize ((w.alloc (.cells #[.slice Pk lk ck,.int .i64 xc,.slice Ps me cs,.slice Pn me cn,.slice Pm me cm] 46)).alloc (.cells #[.slice Qk mk dk,.int .i64 yc,.slice Qs me ds,.slice Qn me dn,.slice Qm me dm] 46)).alloc (.cells #[.slice none 0 0,.int .i64 0,.slice none 0 0,.slice none 0 0,.slice none 0 0] 46)=W1 at O1 O2 O3 Hb Hz ⊢
 obtain⟨b,eb⟩:∃ b,b=w.heap.size:=⟨_,rfl⟩
 rw[← eb] at O1 O2 O3 ⊢
 have Eb:=Lib.hid eb
 clear eb
 have HW1:Hid (Keeps w W1):=Lib.hid (Keeps.of_below Hb.out)
 go_cut [5] from 7 to 16 (fun s5 wx=>∃ g kv,s5=.pointer (some ⟨g,0,none⟩)∧JS w wx g [.slice Pk lk ck,.int .i64 xc,.slice Ps me cs,.slice Pn me cn,.slice Pm me cm] [.slice Qk mk dk,.int .i64 yc,.slice Qs me ds,.slice Qn me dn,.slice Qm me dm] cz (fun i=>if i=0 then kv else .slice none 0 0) (fun i=>if i=0 then x.key else []))
 case first =>
  have a0:=O1.out.cell (i:=0) rfl
  have a1:=O1.out.cell (i:=1) rfl
  have b1:=O2.out.cell (i:=1) rfl
  refine wp_region_held_drew (S:=fun W=>Keeps W1 W) (by kernel_rfl) ((Keeps.refl W1).drewN 1) (fun hHeld=>?_)
  refine WTH (i:=1) (v:=?va1) ?ya1 hHeld ?ra1
  case ya1=>(intro W hW;go_simp;first | done | with_reducible rfl)
  try simp only[SL,Act.put]
  refine WTH (i:=2) (v:=?va2) ?ya2 hHeld ?ra2
  case ya2=>(intro W hW;have g0:=hW _ _ a0;have g1:=hW _ _ a1;have g2:=hW _ _ b1;clear hW;go_simp;first | done | with_reducible rfl)
  try simp only[SL,Act.put]
  refine WTH (i:=4) (v:=?va4) ?ya4 hHeld ?ra4
  case ya4=>(intro W hW;go_simp;first | done | with_reducible rfl)
  try simp only[SL,Act.put]
  refine WTH (i:=5) (v:=?va5) ?ya5 hHeld ?ra5
  case ya5=>(intro W hW;have g0:=hW _ _ a0;have g1:=hW _ _ a1;have g2:=hW _ _ b1;clear hW;go_simp;first | done | with_reducible rfl)
  try simp only[SL,Act.put]
  refine WTH (i:=6) (v:=?va6) ?ya6 hHeld ?ra6
  case ya6=>(intro W hW;go_simp;first | done | with_reducible rfl)
  try simp only[SL,Act.put]
  refine WTH (i:=7) (v:=?va7) ?ya7 hHeld ?ra7
  case ya7=>(intro W hW;have g0:=hW _ _ a0;have g1:=hW _ _ a1;have g2:=hW _ _ b1;clear hW;go_simp;first | done | with_reducible rfl)
  try simp only[SL,Act.put]
  refine WTH (i:=8) (v:=?va8) ?ya8 hHeld ?ra8
  case ya8=>(intro W hW;go_simp;first | done | with_reducible rfl)
  try simp only[SL,Act.put]
  have D0:Below W1.heap.size W1 W1.drew:=below_drewN (Below.refl _ _) 1
  have hz0:w.heap.size≤W1.heap.size:=Hb.out.size
  refine wpAnyH_ready (rs:=[0,10]) (by kernel_rfl) (by simp) ?_
  refine AllReadyH.cons rfl (fun K hK=>?_) (AllReadyH.cons rfl (fun K hK=>?_) AllReadyH.nil)
  ·go_simp
   have D1:Below W1.heap.size W1 (W1.alloc (.cells #[] 3)).drew:=(((Below.refl _ W1).alloc (Nat.le_refl _) _).drew)
   have l1:LitV w.heap.size (W1.alloc (.cells #[] 3)).drew (.slice (some ⟨W1.heap.size,0,none⟩) 0 0):=LitV.new hz0
   refine hK.out _ _ (Keeps.of_below D1) (fun hHeld=>?_)
   clear hK K
   try simp only[SL,Act.put]
   refine wpAnyH_ready (rs:=[3,10]) (by kernel_rfl) (by simp) ?_
   refine AllReadyH.cons rfl (fun K hK=>?_) (AllReadyH.cons rfl (fun K hK=>?_) AllReadyH.nil)
   ·
    obtain⟨kv,X,hrun,ho,hbx⟩:=lit_ap l1 (Rk.out.keep (Keeps.of_below (Hb.out.trans (D1.mono Hb.out.size)))) HL.out (Nat.le_trans hz0 D1.size)
    obtain⟨Kp,kc,fk,-⟩:=ho.form
    rw[HLK.out] at fk
    subst fk
    have D3:Below W1.heap.size W1 X:=D1.trans (hbx.mono D1.size)
    rw[if_pos (by rfl)]
    refine oper_append (.tmp 7) (.tmp 9) 22 rfl _ _ _ _ rfl rfl hrun ?_
    refine hK.out _ _ (Keeps.of_below D3) (fun hHeld=>?_)
    clear hK K
    try simp only[SL,Act.put]
    refine WTH (i:=9) (v:=?vb9) ?yb9 hHeld ?rb9
    case yb9=>(intro W hW;go_simp;first | done | with_reducible rfl)
    try simp only[SL,Act.put]
    refine wpAnyH_ready (rs:=[10]) (by kernel_rfl) (by simp) ?_
    refine AllReadyH.cons rfl (fun K hK=>?_) AllReadyH.nil
    go_simp
    refine hK.out _ _ (Keeps.of_below (D3.alloc D3.size _)) (fun hHeld=>?_)
    clear hK K
    try simp only[SL,Act.put]
    have DF:Below W1.heap.size W1 (X.alloc (.cells #[.slice Kp lk kc,.int .i64 cz,.slice none 0 0,.slice none 0 0,.slice none 0 0] 46)):=D3.alloc D3.size _
    have D9:Below w.heap.size w (X.alloc (.cells #[.slice Kp lk kc,.int .i64 cz,.slice none 0 0,.slice none 0 0,.slice none 0 0] 46)):=Hb.out.trans (DF.mono Hb.out.size)
    have hg:W1.heap.size≤X.heap.size:=D3.size
    have lt9:b+1+1<W1.heap.size:=by have:=Hz.out;have:=Eb.out;omega
    have p1:=O1.out.below DF (by omega)
    have p2:=O2.out.below DF (by omega)
    have p3:=O3.out.below DF (by omega)
    have ho2:OI w.heap.size (X.alloc (.cells #[.slice Kp lk kc,.int .i64 cz,.slice none 0 0,.slice none 0 0,.slice none 0 0] 46)) (.slice Kp lk kc) x.key:=ho.below ((Below.refl _ X).alloc (Nat.le_refl _) _)
    rw[Eb.out] at p1 p2 p3
    have js:=JS.first (cz:=cz) p1 p2 p3 (heap_alloc_new X _) (by have:=Hz.out;omega) D9 ho2
    have JSH:=Lib.hid js
    clear js p1 p2 p3 D9 lt9 ho2
    refine wpAnyH_ready (rs:=[11]) (by kernel_rfl) (by simp) ?_
    refine AllReadyH.cons rfl (fun K hK=>?_) AllReadyH.nil
    go_simp
    refine hK.out _ _ (Keeps.of_below DF) (fun hHeld=>?_)
    clear hK K
    try simp only[SL,Act.put]
    refine wpAnyH_done (by kernel_rfl) ?_ _
    go_wp2
    go_meet
    exact⟨_,_,rfl,JSH.out⟩
   ·go_simp
    have D2:Below W1.heap.size W1 ((W1.alloc (.cells #[] 3)).alloc (.cells #[.slice none 0 0,.int .i64 0,.slice none 0 0,.slice none 0 0,.slice none 0 0] 46)).drew:=((((Below.refl _ W1).alloc (Nat.le_refl _) _).alloc (by simp) _).drew)
    have l2:LitV w.heap.size ((W1.alloc (.cells #[] 3)).alloc (.cells #[.slice none 0 0,.int .i64 0,.slice none 0 0,.slice none 0 0,.slice none 0 0] 46)).drew (.slice (some ⟨W1.heap.size,0,none⟩) 0 0):=((LitV.new (B:=w.heap.size) (w:=W1) hz0).below ((Below.refl _ (W1.alloc (.cells #[] 3))).alloc (Nat.le_refl _) _)).below ((Below.refl _ _).drew)
    have c2:Own 46 ((W1.alloc (.cells #[] 3)).alloc (.cells #[.slice none 0 0,.int .i64 0,.slice none 0 0,.slice none 0 0,.slice none 0 0] 46)).drew (W1.heap.size+1) [.slice none 0 0,.int .i64 0,.slice none 0 0,.slice none 0 0,.slice none 0 0]:=by
     have:=heap_alloc_new (W1.alloc (.cells #[] 3)) (.cells #[.slice none 0 0,.int .i64 0,.slice none 0 0,.slice none 0 0,.slice none 0 0] 46)
     rw[show (W1.alloc (.cells #[] 3)).heap.size=W1.heap.size+1 from by simp] at this
     exact this
    refine hK.out _ _ (Keeps.of_below D2) (fun hHeld=>?_)
    clear hK K
    try simp only[SL,Act.put]
    refine wpAnyH_ready (rs:=[3]) (by kernel_rfl) (by simp) ?_
    refine AllReadyH.cons rfl (fun K hK=>?_) AllReadyH.nil
    obtain⟨kv,X,hrun,ho,hbx⟩:=lit_ap l2 (Rk.out.keep (Keeps.of_below (Hb.out.trans (D2.mono Hb.out.size)))) HL.out (Nat.le_trans hz0 D2.size)
    obtain⟨Kp,kc,fk,-⟩:=ho.form
    rw[HLK.out] at fk
    subst fk
    have D3:Below W1.heap.size W1 X:=D2.trans (hbx.mono D2.size)
    rw[if_pos (by rfl)]
    refine oper_append (.tmp 7) (.tmp 9) 22 rfl _ _ _ _ rfl rfl hrun ?_
    refine hK.out _ _ (Keeps.of_below D3) (fun hHeld=>?_)
    clear hK K
    try simp only[SL,Act.put]
    refine WTH (i:=9) (v:=?vc9) ?yc9 hHeld ?rc9
    case yc9=>(intro W hW;go_simp;first | done | with_reducible rfl)
    try simp only[SL,Act.put]
    have DF:Below W1.heap.size W1 (X):=D3
    have D9:Below w.heap.size w (X):=Hb.out.trans (DF.mono Hb.out.size)
    have hg:W1.heap.size≤W1.heap.size+1:=by omega
    have lt9:b+1+1<W1.heap.size:=by have:=Hz.out;have:=Eb.out;omega
    have p1:=O1.out.below DF (by omega)
    have p2:=O2.out.below DF (by omega)
    have p3:=O3.out.below DF (by omega)
    have hc:Own 46 (X) (W1.heap.size+1) [.slice none 0 0,.int .i64 0,.slice none 0 0,.slice none 0 0,.slice none 0 0]:=c2.below hbx c2.lt
    have ho2:OI w.heap.size (X) (.slice Kp lk kc) x.key:=ho
    rw[Eb.out] at p1 p2 p3
    have js:=JS.start (cz:=cz) p1 p2 p3 hc (by have:=Hz.out;omega) D9 ho2
    unfold put5 at js
    have q0:=hc.cell (i:=0) rfl
    have q1:=hc.cell (i:=1) rfl
    have q2:=hc.cell (i:=2) rfl
    have q3:=hc.cell (i:=3) rfl
    have q4:=hc.cell (i:=4) rfl
    have qf:=hc.frozen
    have JSH:=Lib.hid js
    clear js p1 p2 p3 D9 lt9 hc ho2
    refine wpAnyH_ready (rs:=[11]) (by kernel_rfl) (by simp) ?_
    refine AllReadyH.cons rfl (fun K hK=>?_) AllReadyH.nil
    go_simp
    refine hK.out _ _ (Keeps.of_below (((((DF.setCell hg _).setCell hg _).setCell hg _).setCell hg _).setCell hg _)) (fun hHeld=>?_)
    clear hK K
    try simp only[SL,Act.put]
    refine wpAnyH_done (by kernel_rfl) ?_ _
    go_wp2
    go_meet
    exact⟨_,_,rfl,JSH.out⟩
  ·go_simp
   have D1:Below W1.heap.size W1 (W1.alloc (.cells #[.slice none 0 0,.int .i64 0,.slice none 0 0,.slice none 0 0,.slice none 0 0] 46)).drew:=(((Below.refl _ W1).alloc (Nat.le_refl _) _).drew)
   have c1:Own 46 (W1.alloc (.cells #[.slice none 0 0,.int .i64 0,.slice none 0 0,.slice none 0 0,.slice none 0 0] 46)).drew W1.heap.size [.slice none 0 0,.int .i64 0,.slice none 0 0,.slice none 0 0,.slice none 0 0]:=heap_alloc_new W1 _
   refine hK.out _ _ (Keeps.of_below D1) (fun hHeld=>?_)
   clear hK K
   try simp only[SL,Act.put]
   refine wpAnyH_ready (rs:=[0]) (by kernel_rfl) (by simp) ?_
   refine AllReadyH.cons rfl (fun K hK=>?_) AllReadyH.nil
   go_simp
   have D2:Below W1.heap.size W1 ((W1.alloc (.cells #[.slice none 0 0,.int .i64 0,.slice none 0 0,.slice none 0 0,.slice none 0 0] 46)).alloc (.cells #[] 3)).drew:=((((Below.refl _ W1).alloc (Nat.le_refl _) _).alloc (by simp) _).drew)
   have l2:LitV w.heap.size ((W1.alloc (.cells #[.slice none 0 0,.int .i64 0,.slice none 0 0,.slice none 0 0,.slice none 0 0] 46)).alloc (.cells #[] 3)).drew (.slice (some ⟨W1.heap.size+1,0,none⟩) 0 0):=by
    have:=LitV.new (B:=w.heap.size) (w:=(W1.alloc (.cells #[.slice none 0 0,.int .i64 0,.slice none 0 0,.slice none 0 0,.slice none 0 0] 46))) (by simp;omega)
    rw[show (W1.alloc (.cells #[.slice none 0 0,.int .i64 0,.slice none 0 0,.slice none 0 0,.slice none 0 0] 46)).heap.size=W1.heap.size+1 from by simp] at this
    exact this
   have c2:Own 46 ((W1.alloc (.cells #[.slice none 0 0,.int .i64 0,.slice none 0 0,.slice none 0 0,.slice none 0 0] 46)).alloc (.cells #[] 3)).drew W1.heap.size [.slice none 0 0,.int .i64 0,.slice none 0 0,.slice none 0 0,.slice none 0 0]:=(show Own 46 (W1.alloc (.cells #[.slice none 0 0,.int .i64 0,.slice none 0 0,.slice none 0 0,.slice none 0 0] 46)) W1.heap.size [.slice none 0 0,.int .i64 0,.slice none 0 0,.slice none 0 0,.slice none 0 0] from heap_alloc_new W1 _).alloc _
   refine hK.out _ _ (Keeps.of_below D2) (fun hHeld=>?_)
   clear hK K
   try simp only[SL,Act.put]
   refine wpAnyH_ready (rs:=[3]) (by kernel_rfl) (by simp) ?_
   refine AllReadyH.cons rfl (fun K hK=>?_) AllReadyH.nil
   obtain⟨kv,X,hrun,ho,hbx⟩:=lit_ap l2 (Rk.out.keep (Keeps.of_below (Hb.out.trans (D2.mono Hb.out.size)))) HL.out (Nat.le_trans hz0 D2.size)
   obtain⟨Kp,kc,fk,-⟩:=ho.form
   rw[HLK.out] at fk
   subst fk
   have D3:Below W1.heap.size W1 X:=D2.trans (hbx.mono D2.size)
   rw[if_pos (by rfl)]
   refine oper_append (.tmp 7) (.tmp 9) 22 rfl _ _ _ _ rfl rfl hrun ?_
   refine hK.out _ _ (Keeps.of_below D3) (fun hHeld=>?_)
   clear hK K
   try simp only[SL,Act.put]
   refine WTH (i:=9) (v:=?vd9) ?yd9 hHeld ?rd9
   case yd9=>(intro W hW;go_simp;first | done | with_reducible rfl)
   try simp only[SL,Act.put]
   have DF:Below W1.heap.size W1 (X):=D3
   have D9:Below w.heap.size w (X):=Hb.out.trans (DF.mono Hb.out.size)
   have hg:W1.heap.size≤W1.heap.size:=by omega
   have lt9:b+1+1<W1.heap.size:=by have:=Hz.out;have:=Eb.out;omega
   have p1:=O1.out.below DF (by omega)
   have p2:=O2.out.below DF (by omega)
   have p3:=O3.out.below DF (by omega)
   have hc:Own 46 (X) (W1.heap.size) [.slice none 0 0,.int .i64 0,.slice none 0 0,.slice none 0 0,.slice none 0 0]:=c2.below hbx c2.lt
   have ho2:OI w.heap.size (X) (.slice Kp lk kc) x.key:=ho
   rw[Eb.out] at p1 p2 p3
   have js:=JS.start (cz:=cz) p1 p2 p3 hc (by have:=Hz.out;omega) D9 ho2
   unfold put5 at js
   have q0:=hc.cell (i:=0) rfl
   have q1:=hc.cell (i:=1) rfl
   have q2:=hc.cell (i:=2) rfl
   have q3:=hc.cell (i:=3) rfl
   have q4:=hc.cell (i:=4) rfl
   have qf:=hc.frozen
   have JSH:=Lib.hid js
   clear js p1 p2 p3 D9 lt9 hc ho2
   refine wpAnyH_ready (rs:=[11]) (by kernel_rfl) (by simp) ?_
   refine AllReadyH.cons rfl (fun K hK=>?_) AllReadyH.nil
   go_simp
   refine hK.out _ _ (Keeps.of_below (((((DF.setCell hg _).setCell hg _).setCell hg _).setCell hg _).setCell hg _)) (fun hHeld=>?_)
   clear hK K
   try simp only[SL,Act.put]
   refine wpAnyH_done (by kernel_rfl) ?_ _
   go_wp2
   go_meet
   exact⟨_,_,rfl,JSH.out⟩
 case rest =>
  obtain⟨g,kv,rfl,hJ⟩:=hcut
  rename World=>wx
  have HJ0:=Lib.hid hJ
  clear hJ
  go_wp2_with fail
  go_loopw [6] (fun v wr=>∃ (i:Nat) (u:Nat→Value) (xs:Nat→List Int),v=.int .i64 i∧i≤me∧JS w wr g [.slice Pk lk ck,.int .i64 xc,.slice Ps me cs,.slice Pn me cn,.slice Pm me cm] [.slice Qk mk dk,.int .i64 yc,.slice Qs me ds,.slice Qn me dn,.slice Qm me dm] cz u xs∧xs 0=x.key∧xs 1=(addL x.sum y.sum).take i∧xs 2=(minL x.mn y.mn).take i∧xs 3=(maxL x.mx y.mx).take i) (fun v _=>me - (intOf v).toNat)
  case atStart=>exact⟨0,_,_,rfl,Nat.zero_le _,HJ0.out,rfl,rfl,rfl,rfl⟩
  case round =>
   obtain⟨i,u,xs,rfl,hi,hJ,h0,h1,h2,h3⟩:=hrel
   rename World=>wr
   have ca:=hJ.a
   rw[← Eb.out] at ca
   have ca2:=ca.cell (i:=2) rfl
   have HJ:=Lib.hid hJ
   have X0:=Lib.hid h0
   have X1:=Lib.hid h1
   have X2:=Lib.hid h2
   have X3:=Lib.hid h3
   clear hJ h0 h1 h2 h3 ca HJ0 O1 O2 O3
   by_cases hlt:i<me
   ·have d1:decide ((i:Int)<(me:Int))=true:=decide_eq_true (by omega)
    have i0:(0:Int)≤(i:Int):=by omega
    have i1:(i:Int)<(me:Int):=by omega
    obtain⟨p1,xa,rfl,gxa,kxa,-⟩:=Ns.out.at_ hlt
    obtain⟨p2,xb,rfl,gxb,kxb,-⟩:=Nn.out.at_ hlt
    obtain⟨p3,xd,rfl,gxd,kxd,-⟩:=Nm.out.at_ hlt
    obtain⟨q1,ya,rfl,gya,kya,-⟩:=Ms.out.at_ hlt
    obtain⟨q2,yb,rfl,gyb,kyb,-⟩:=Mn.out.at_ hlt
    obtain⟨q3,yd,rfl,gyd,kyd,-⟩:=Mm.out.at_ hlt
    have hsz:me≤100000:=hm1
    have va_in:=wrap64_in (xa+ya)
    have rva:IntKind.i64.wrap (xa+ya)=wrap64 (xa+ya):=by rw[Go.IntWalk.i64_left]
    obtain⟨va,hva⟩:∃ va,va=wrap64 (xa+ya):=⟨_,rfl⟩
    rw[← hva] at rva va_in
    have HVA:=Lib.hid hva
    clear hva
    go_upto_region 5 with (fail)
    go_cut [] from 24 to 39 (fun wy=>∃ (u':Nat→Value) (xs':Nat→List Int),JS w wy g [.slice Pk lk ck,.int .i64 xc,.slice (some p1) me cs,.slice (some p2) me cn,.slice (some p3) me cm] [.slice Qk mk dk,.int .i64 yc,.slice (some q1) me ds,.slice (some q2) me dn,.slice (some q3) me dm] cz u' xs'∧(∀ q,q ≠ 1→xs' q=xs q)∧xs' 1=xs 1 ++ [va])
    case first =>
     have ca:=HJ.out.a
     have cb:=HJ.out.b
     rw[← Eb.out] at ca cb
     have A:=ca.cell (i:=2) rfl
     have B:=cb.cell (i:=2) rfl
     have C:=HJ.out.c.cell (i:=2) rfl
     have kp:Keeps w wr:=Keeps.of_below HJ.out.bel
     have PA:=(Ns.out.keep kp).cell_ hlt gxa
     have QA:=(Ms.out.keep kp).cell_ hlt gya
     have hgl:g<wr.heap.size:=HJ.out.c.lt
     obtain⟨Ar,cr,Y,hrun,hc,⟨oa,ob,bY⟩,hJ1⟩:=HJ.out.drew.step 1 (by decide) (by decide) va (va_in) (by rw[X1.out,List.length_take];omega)
     obtain⟨lq,hlq⟩:∃ q,q=(xs 1).length+1:=⟨_,rfl⟩
     rw[← hlq] at hrun hJ1
     rw[← Eb.out] at oa ob
     have kY:Keeps w Y:=Keeps.of_below bY
     have S1:Y.cell? ⟨b,2,none⟩=_∧Y.cell? ⟨b+1,2,none⟩=_∧Y.cell? (p1.add i)=_∧Y.cell? (q1.add i)=_:=⟨oa.cell (i:=2) rfl,ob.cell (i:=2) rfl,(Ns.out.keep kY).cell_ hlt gxa,(Ms.out.keep kY).cell_ hlt gya⟩
     have ja:=hJ1.a
     have jb:=hJ1.b
     rw[← Eb.out] at ja jb
     have kZ:Keeps w _:=Keeps.of_below hJ1.bel
     have S2:World.cell? _ ⟨b,2,none⟩=_∧World.cell? _ ⟨b+1,2,none⟩=_∧World.cell? _ (p1.add i)=_∧World.cell? _ (q1.add i)=_:=⟨ja.cell (i:=2) rfl,jb.cell (i:=2) rfl,(Ns.out.keep kZ).cell_ hlt gxa,(Ms.out.keep kZ).cell_ hlt gya⟩
     have ycl:=hc.cell (i:=2) rfl
     have yf:=hc.frozen 2
     obtain⟨uj,huj⟩:∃ uj,uj=u 1:=⟨_,rfl⟩
     rw[← huj] at C hrun ycl
     have S0:wr.cell? ⟨b,2,none⟩=_∧wr.cell? ⟨b+1,2,none⟩=_∧wr.cell? (p1.add i)=_∧wr.cell? (q1.add i)=_:=⟨A,B,PA,QA⟩
     have HJ1:=Lib.hid hJ1
     have HS1:=Lib.hid S1
     have HS2:=Lib.hid S2
     have HS0:=Lib.hid S0
     have Hrun:=Lib.hid hrun
     clear S1 S2 S0 hJ1 hrun oa ob bY kY kZ ja jb ca cb A B PA QA hc hlq huj kp
     refine wp_region_held_drew (S:=fun W=>W.cell? ⟨b,2,none⟩=some (.slice (some p1) me cs)∧W.cell? ⟨b+1,2,none⟩=some (.slice (some q1) me ds)∧W.cell? (p1.add i)=some (.int .i64 xa)∧W.cell? (q1.add i)=some (.int .i64 ya)) (by kernel_rfl) (show wr.drew.cell? _=_∧wr.drew.cell? _=_∧wr.drew.cell? _=_∧wr.drew.cell? _=_ from HS0.out) (fun hHeld=>?_)
     refine WTH (i:=0) (v:=?vr0) ?yr0 hHeld ?rr0
     case yr0=>(intro W hW;go_simp;first | done | with_reducible rfl)
     try simp only[SL,Act.put]
     refine WTH (i:=2) (v:=?vr2) ?yr2 hHeld ?rr2
     case yr2=>(intro W hW;go_simp;first | done | with_reducible rfl)
     try simp only[SL,Act.put]
     refine WTH (i:=3) (v:=?vr3) ?yr3 hHeld ?rr3
     case yr3=>(intro W hW;obtain⟨g0,g1,g2,g3⟩:=hW;go_simp;first | done | with_reducible rfl)
     try simp only[SL,Act.put]
     refine WTH (i:=4) (v:=?vr4) ?yr4 hHeld ?rr4
     case yr4=>(intro W hW;go_simp;first | done | with_reducible rfl)
     try simp only[SL,Act.put]
     refine WTH (i:=5) (v:=?vr5) ?yr5 hHeld ?rr5
     case yr5=>(intro W hW;go_simp;first | done | with_reducible rfl)
     try simp only[SL,Act.put]
     refine WTH (i:=6) (v:=?vr6) ?yr6 hHeld ?rr6
     case yr6=>(intro W hW;obtain⟨g0,g1,g2,g3⟩:=hW;go_simp;first | done | with_reducible rfl)
     try simp only[SL,Act.put]
     refine WTH (i:=7) (v:=?vr7) ?yr7 hHeld ?rr7
     case yr7=>(intro W hW;go_simp;first | done | with_reducible rfl)
     try simp only[SL,Act.put]
     refine WTH (i:=8) (v:=?vr8) ?yr8 hHeld ?rr8
     case yr8=>(intro W hW;obtain⟨g0,g1,g2,g3⟩:=hW;go_simp;first | done | with_reducible rfl)
     try simp only[SL,Act.put]
     refine WTH (i:=9) (v:=?vr9) ?yr9 hHeld ?rr9
     case yr9=>(intro W hW;go_simp;first | done | with_reducible rfl)
     try simp only[SL,Act.put]
     refine WTH (i:=10) (v:=?vr10) ?yr10 hHeld ?rr10
     case yr10=>(intro W hW;go_simp;first | done | with_reducible rfl)
     try simp only[SL,Act.put]
     refine WTH (i:=11) (v:=?vr11) ?yr11 hHeld ?rr11
     case yr11=>(intro W hW;obtain⟨g0,g1,g2,g3⟩:=hW;go_simp;first | done | with_reducible rfl)
     try simp only[SL,Act.put]
     refine WTH (i:=12) (v:=?vr12) ?yr12 hHeld ?rr12
     case yr12=>(intro W hW;go_simp;first | done | with_reducible rfl)
     try simp only[SL,Act.put]
     refine wpAnyH_ready (rs:=[1,13]) (by kernel_rfl) (by simp) ?_
     refine AllReadyH.cons rfl (fun K hK=>?_) (AllReadyH.cons rfl (fun K hK=>?_) AllReadyH.nil)
     ·go_simp
      refine hK.out _ _ (HS0.out) (fun hHeld=>?_)
      clear hK K
      try simp only[SL,Act.put]
      refine wpAnyH_ready (rs:=[13]) (by kernel_rfl) (by simp) ?_
      refine AllReadyH.cons rfl (fun K hK=>?_) AllReadyH.nil
      go_simp
      have kf:Keeps wr (wr.alloc (.cells #[.int .i64 va] 3)).drew:=((Keeps.refl wr).alloc _).drewN 1
      have f0:=(⟨kf _ _ HS0.out.1,kf _ _ HS0.out.2.1,kf _ _ HS0.out.2.2.1,kf _ _ HS0.out.2.2.2⟩:_∧_∧_∧_)
      refine hK.out _ _ (f0) (fun hHeld=>?_)
      clear hK K
      try simp only[SL,Act.put]
      refine wpAnyH_ready (rs:=[14]) (by kernel_rfl) (by simp) ?_
      refine AllReadyH.cons rfl (fun K hK=>?_) AllReadyH.nil
      rw[if_pos (by rfl)]
      refine oper_append (.tmp 25) (.tmp 37) 22 rfl _ _ _ _ rfl rfl Hrun.out ?_
      refine hK.out _ _ HS1.out (fun hHeld=>?_)
      clear hK K
      try simp only[SL,Act.put]
      refine WTH (i:=15) (v:=?vrx15) ?yrx15 hHeld ?rrx15
      case yrx15=>(intro W hW;go_simp;first | done | with_reducible rfl)
      try simp only[SL,Act.put]
      refine wpAnyH_ready (rs:=[16]) (by kernel_rfl) (by simp) ?_
      refine AllReadyH.cons rfl (fun K hK=>?_) AllReadyH.nil
      go_simp
      refine hK.out _ _ HS2.out (fun hHeld=>?_)
      clear hK K
      try simp only[SL,Act.put]
      refine wpAnyH_done (by kernel_rfl) ?_ _
      go_wp2
      go_meet
      exact⟨_,_,HJ1.out,fun q hq=>if_neg hq,if_pos rfl⟩
     ·go_simp
      have kf:Keeps wr (wr.alloc (.cells #[.int .i64 va] 3)).drew:=((Keeps.refl wr).alloc _).drewN 1
      have f0:=(⟨kf _ _ HS0.out.1,kf _ _ HS0.out.2.1,kf _ _ HS0.out.2.2.1,kf _ _ HS0.out.2.2.2⟩:_∧_∧_∧_)
      refine hK.out _ _ (f0) (fun hHeld=>?_)
      clear hK K
      try simp only[SL,Act.put]
      refine wpAnyH_ready (rs:=[1]) (by kernel_rfl) (by simp) ?_
      refine AllReadyH.cons rfl (fun K hK=>?_) AllReadyH.nil
      go_simp
      refine hK.out _ _ (f0) (fun hHeld=>?_)
      clear hK K
      try simp only[SL,Act.put]
      refine wpAnyH_ready (rs:=[14]) (by kernel_rfl) (by simp) ?_
      refine AllReadyH.cons rfl (fun K hK=>?_) AllReadyH.nil
      rw[if_pos (by rfl)]
      refine oper_append (.tmp 25) (.tmp 37) 22 rfl _ _ _ _ rfl rfl Hrun.out ?_
      refine hK.out _ _ HS1.out (fun hHeld=>?_)
      clear hK K
      try simp only[SL,Act.put]
      refine WTH (i:=15) (v:=?vry15) ?yry15 hHeld ?rry15
      case yry15=>(intro W hW;go_simp;first | done | with_reducible rfl)
      try simp only[SL,Act.put]
      refine wpAnyH_ready (rs:=[16]) (by kernel_rfl) (by simp) ?_
      refine AllReadyH.cons rfl (fun K hK=>?_) AllReadyH.nil
      go_simp
      refine hK.out _ _ HS2.out (fun hHeld=>?_)
      clear hK K
      try simp only[SL,Act.put]
      refine wpAnyH_done (by kernel_rfl) ?_ _
      go_wp2
      go_meet
      exact⟨_,_,HJ1.out,fun q hq=>if_neg hq,if_pos rfl⟩
    case rest =>
     obtain⟨u2,xs2,hJ2,hn2,hv2⟩:=hcut
     rename World=>w2
     have HJ2:=Lib.hid hJ2
     have X20:=Lib.hid ((hn2 0 (by decide)).trans X0.out)
     have X21:=Lib.hid hv2
     have X22:=Lib.hid ((hn2 2 (by decide)).trans X2.out)
     have X23:=Lib.hid ((hn2 3 (by decide)).trans X3.out)
     clear hJ2 hn2 hv2
     go_upto_region 6 with (fail)
     go_cut [] from 40 to 55 (fun wy=>∃ (u':Nat→Value) (xs':Nat→List Int),JS w wy g [.slice Pk lk ck,.int .i64 xc,.slice (some p1) me cs,.slice (some p2) me cn,.slice (some p3) me cm] [.slice Qk mk dk,.int .i64 yc,.slice (some q1) me ds,.slice (some q2) me dn,.slice (some q3) me dm] cz u' xs'∧(∀ q,q ≠ 2→xs' q=xs2 q)∧xs' 2=xs2 2 ++ [min xb yb])
     case first =>
      have ca:=HJ2.out.a
      have cb:=HJ2.out.b
      rw[← Eb.out] at ca cb
      have A:=ca.cell (i:=3) rfl
      have B:=cb.cell (i:=3) rfl
      have C:=HJ2.out.c.cell (i:=3) rfl
      have kp:Keeps w w2:=Keeps.of_below HJ2.out.bel
      have PA:=(Nn.out.keep kp).cell_ hlt gxb
      have QA:=(Mn.out.keep kp).cell_ hlt gyb
      have hgl:g<w2.heap.size:=HJ2.out.c.lt
      obtain⟨Ar,cr,Y,hrun,hc,⟨oa,ob,bY⟩,hJ1⟩:=HJ2.out.drew.step 2 (by decide) (by decide) (min xb yb) (inK_min kxb kyb) (by rw[X22.out,List.length_take];omega)
      obtain⟨lq,hlq⟩:∃ q,q=(xs2 2).length+1:=⟨_,rfl⟩
      rw[← hlq] at hrun hJ1
      rw[← Eb.out] at oa ob
      have kY:Keeps w Y:=Keeps.of_below bY
      have S1:Y.cell? ⟨b,3,none⟩=_∧Y.cell? ⟨b+1,3,none⟩=_∧Y.cell? (p2.add i)=_∧Y.cell? (q2.add i)=_:=⟨oa.cell (i:=3) rfl,ob.cell (i:=3) rfl,(Nn.out.keep kY).cell_ hlt gxb,(Mn.out.keep kY).cell_ hlt gyb⟩
      have ja:=hJ1.a
      have jb:=hJ1.b
      rw[← Eb.out] at ja jb
      have kZ:Keeps w _:=Keeps.of_below hJ1.bel
      have S2:World.cell? _ ⟨b,3,none⟩=_∧World.cell? _ ⟨b+1,3,none⟩=_∧World.cell? _ (p2.add i)=_∧World.cell? _ (q2.add i)=_:=⟨ja.cell (i:=3) rfl,jb.cell (i:=3) rfl,(Nn.out.keep kZ).cell_ hlt gxb,(Mn.out.keep kZ).cell_ hlt gyb⟩
      have ycl:=hc.cell (i:=3) rfl
      have yf:=hc.frozen 3
      obtain⟨uj,huj⟩:∃ uj,uj=u2 2:=⟨_,rfl⟩
      rw[← huj] at C hrun ycl
      have S0:w2.cell? ⟨b,3,none⟩=_∧w2.cell? ⟨b+1,3,none⟩=_∧w2.cell? (p2.add i)=_∧w2.cell? (q2.add i)=_:=⟨A,B,PA,QA⟩
      have HJ1:=Lib.hid hJ1
      have HS1:=Lib.hid S1
      have HS2:=Lib.hid S2
      have HS0:=Lib.hid S0
      have Hrun:=Lib.hid hrun
      clear S1 S2 S0 hJ1 hrun oa ob bY kY kZ ja jb ca cb A B PA QA hc hlq huj kp
      refine wp_region_held_drew (S:=fun W=>W.cell? ⟨b,3,none⟩=some (.slice (some p2) me cn)∧W.cell? ⟨b+1,3,none⟩=some (.slice (some q2) me dn)∧W.cell? (p2.add i)=some (.int .i64 xb)∧W.cell? (q2.add i)=some (.int .i64 yb)) (by kernel_rfl) (show w2.drew.cell? _=_∧w2.drew.cell? _=_∧w2.drew.cell? _=_∧w2.drew.cell? _=_ from HS0.out) (fun hHeld=>?_)
      refine WTH (i:=0) (v:=?vm0) ?ym0 hHeld ?rm0
      case ym0=>(intro W hW;go_simp;first | done | with_reducible rfl)
      try simp only[SL,Act.put]
      refine WTH (i:=2) (v:=?vm2) ?ym2 hHeld ?rm2
      case ym2=>(intro W hW;go_simp;first | done | with_reducible rfl)
      try simp only[SL,Act.put]
      refine WTH (i:=3) (v:=?vm3) ?ym3 hHeld ?rm3
      case ym3=>(intro W hW;obtain⟨g0,g1,g2,g3⟩:=hW;go_simp;first | done | with_reducible rfl)
      try simp only[SL,Act.put]
      refine WTH (i:=4) (v:=?vm4) ?ym4 hHeld ?rm4
      case ym4=>(intro W hW;go_simp;first | done | with_reducible rfl)
      try simp only[SL,Act.put]
      refine WTH (i:=5) (v:=?vm5) ?ym5 hHeld ?rm5
      case ym5=>(intro W hW;go_simp;first | done | with_reducible rfl)
      try simp only[SL,Act.put]
      refine WTH (i:=6) (v:=?vm6) ?ym6 hHeld ?rm6
      case ym6=>(intro W hW;obtain⟨g0,g1,g2,g3⟩:=hW;go_simp;first | done | with_reducible rfl)
      try simp only[SL,Act.put]
      refine WTH (i:=7) (v:=?vm7) ?ym7 hHeld ?rm7
      case ym7=>(intro W hW;go_simp;first | done | with_reducible rfl)
      try simp only[SL,Act.put]
      refine WTH (i:=8) (v:=?vm8) ?ym8 hHeld ?rm8
      case ym8=>(intro W hW;obtain⟨g0,g1,g2,g3⟩:=hW;go_simp;first | done | with_reducible rfl)
      try simp only[SL,Act.put]
      refine WTH (i:=9) (v:=?vm9) ?ym9 hHeld ?rm9
      case ym9=>(intro W hW;go_simp;first | done | with_reducible rfl)
      try simp only[SL,Act.put]
      refine WTH (i:=10) (v:=?vm10) ?ym10 hHeld ?rm10
      case ym10=>(intro W hW;go_simp;first | done | with_reducible rfl)
      try simp only[SL,Act.put]
      refine WTH (i:=11) (v:=?vm11) ?ym11 hHeld ?rm11
      case ym11=>(intro W hW;obtain⟨g0,g1,g2,g3⟩:=hW;go_simp;first | done | with_reducible rfl)
      try simp only[SL,Act.put]
      refine WTH (i:=12) (v:=?vm12) ?ym12 hHeld ?rm12
      case ym12=>(intro W hW;go_simp;first | done | with_reducible rfl)
      try simp only[SL,Act.put]
      refine wpAnyH_ready (rs:=[1,13]) (by kernel_rfl) (by simp) ?_
      refine AllReadyH.cons rfl (fun K hK=>?_) (AllReadyH.cons rfl (fun K hK=>?_) AllReadyH.nil)
      ·go_simp
       refine hK.out _ _ (HS0.out) (fun hHeld=>?_)
       clear hK K
       try simp only[SL,Act.put]
       refine wpAnyH_ready (rs:=[13]) (by kernel_rfl) (by simp) ?_
       refine AllReadyH.cons rfl (fun K hK=>?_) AllReadyH.nil
       go_simp
       have kf:Keeps w2 (w2.alloc (.cells #[.int .i64 (min xb yb)] 3)).drew:=((Keeps.refl w2).alloc _).drewN 1
       have f0:=(⟨kf _ _ HS0.out.1,kf _ _ HS0.out.2.1,kf _ _ HS0.out.2.2.1,kf _ _ HS0.out.2.2.2⟩:_∧_∧_∧_)
       refine hK.out _ _ (f0) (fun hHeld=>?_)
       clear hK K
       try simp only[SL,Act.put]
       refine wpAnyH_ready (rs:=[14]) (by kernel_rfl) (by simp) ?_
       refine AllReadyH.cons rfl (fun K hK=>?_) AllReadyH.nil
       rw[if_pos (by rfl)]
       refine oper_append (.tmp 41) (.tmp 53) 22 rfl _ _ _ _ rfl rfl Hrun.out ?_
       refine hK.out _ _ HS1.out (fun hHeld=>?_)
       clear hK K
       try simp only[SL,Act.put]
       refine WTH (i:=15) (v:=?vmx15) ?ymx15 hHeld ?rmx15
       case ymx15=>(intro W hW;go_simp;first | done | with_reducible rfl)
       try simp only[SL,Act.put]
       refine wpAnyH_ready (rs:=[16]) (by kernel_rfl) (by simp) ?_
       refine AllReadyH.cons rfl (fun K hK=>?_) AllReadyH.nil
       go_simp
       refine hK.out _ _ HS2.out (fun hHeld=>?_)
       clear hK K
       try simp only[SL,Act.put]
       refine wpAnyH_done (by kernel_rfl) ?_ _
       go_wp2
       go_meet
       exact⟨_,_,HJ1.out,fun q hq=>if_neg hq,if_pos rfl⟩
      ·go_simp
       have kf:Keeps w2 (w2.alloc (.cells #[.int .i64 (min xb yb)] 3)).drew:=((Keeps.refl w2).alloc _).drewN 1
       have f0:=(⟨kf _ _ HS0.out.1,kf _ _ HS0.out.2.1,kf _ _ HS0.out.2.2.1,kf _ _ HS0.out.2.2.2⟩:_∧_∧_∧_)
       refine hK.out _ _ (f0) (fun hHeld=>?_)
       clear hK K
       try simp only[SL,Act.put]
       refine wpAnyH_ready (rs:=[1]) (by kernel_rfl) (by simp) ?_
       refine AllReadyH.cons rfl (fun K hK=>?_) AllReadyH.nil
       go_simp
       refine hK.out _ _ (f0) (fun hHeld=>?_)
       clear hK K
       try simp only[SL,Act.put]
       refine wpAnyH_ready (rs:=[14]) (by kernel_rfl) (by simp) ?_
       refine AllReadyH.cons rfl (fun K hK=>?_) AllReadyH.nil
       rw[if_pos (by rfl)]
       refine oper_append (.tmp 41) (.tmp 53) 22 rfl _ _ _ _ rfl rfl Hrun.out ?_
       refine hK.out _ _ HS1.out (fun hHeld=>?_)
       clear hK K
       try simp only[SL,Act.put]
       refine WTH (i:=15) (v:=?vmy15) ?ymy15 hHeld ?rmy15
       case ymy15=>(intro W hW;go_simp;first | done | with_reducible rfl)
       try simp only[SL,Act.put]
       refine wpAnyH_ready (rs:=[16]) (by kernel_rfl) (by simp) ?_
       refine AllReadyH.cons rfl (fun K hK=>?_) AllReadyH.nil
       go_simp
       refine hK.out _ _ HS2.out (fun hHeld=>?_)
       clear hK K
       try simp only[SL,Act.put]
       refine wpAnyH_done (by kernel_rfl) ?_ _
       go_wp2
       go_meet
       exact⟨_,_,HJ1.out,fun q hq=>if_neg hq,if_pos rfl⟩
     case rest =>
      obtain⟨u3,xs3,hJ3,hn3,hv3⟩:=hcut
      rename World=>w3
      have HJ3:=Lib.hid hJ3
      have X30:=Lib.hid ((hn3 0 (by decide)).trans X20.out)
      have X31:=Lib.hid ((hn3 1 (by decide)).trans X21.out)
      have X32:=Lib.hid hv3
      have X33:=Lib.hid ((hn3 3 (by decide)).trans X23.out)
      clear hJ3 hn3 hv3
      have HX0:=Lib.hid X30.out
      have HX1:Hid (xs3 1=(addL x.sum y.sum).take (i+1)):=Lib.hid (by rw[X31.out,X1.out,HVA.out];exact (zip_at gxa gya).symm)
      have HX2:Hid (xs3 2=(minL x.mn y.mn).take (i+1)):=Lib.hid (by rw[X32.out,X22.out];exact (zip_at gxb gyb).symm)
      have HX3:Hid (xs3 3 ++ [max xd yd]=(maxL x.mx y.mx).take (i+1)):=Lib.hid (by rw[X33.out];exact (zip_at gxd gyd).symm)
      go_upto_region 7 with (fail)
      have ca:=HJ3.out.a
      have cb:=HJ3.out.b
      rw[← Eb.out] at ca cb
      have A:=ca.cell (i:=4) rfl
      have B:=cb.cell (i:=4) rfl
      have C:=HJ3.out.c.cell (i:=4) rfl
      have kp:Keeps w w3:=Keeps.of_below HJ3.out.bel
      have PA:=(Nm.out.keep kp).cell_ hlt gxd
      have QA:=(Mm.out.keep kp).cell_ hlt gyd
      have hgl:g<w3.heap.size:=HJ3.out.c.lt
      obtain⟨Ar,cr,Y,hrun,hc,⟨oa,ob,bY⟩,hJ1⟩:=HJ3.out.drew.step 3 (by decide) (by decide) (max xd yd) (inK_max kxd kyd) (by rw[X33.out,List.length_take];omega)
      obtain⟨lq,hlq⟩:∃ q,q=(xs3 3).length+1:=⟨_,rfl⟩
      rw[← hlq] at hrun hJ1
      rw[← Eb.out] at oa ob
      have kY:Keeps w Y:=Keeps.of_below bY
      have S1:Y.cell? ⟨b,4,none⟩=_∧Y.cell? ⟨b+1,4,none⟩=_∧Y.cell? (p3.add i)=_∧Y.cell? (q3.add i)=_:=⟨oa.cell (i:=4) rfl,ob.cell (i:=4) rfl,(Nm.out.keep kY).cell_ hlt gxd,(Mm.out.keep kY).cell_ hlt gyd⟩
      have ja:=hJ1.a
      have jb:=hJ1.b
      rw[← Eb.out] at ja jb
      have kZ:Keeps w _:=Keeps.of_below hJ1.bel
      have S2:World.cell? _ ⟨b,4,none⟩=_∧World.cell? _ ⟨b+1,4,none⟩=_∧World.cell? _ (p3.add i)=_∧World.cell? _ (q3.add i)=_:=⟨ja.cell (i:=4) rfl,jb.cell (i:=4) rfl,(Nm.out.keep kZ).cell_ hlt gxd,(Mm.out.keep kZ).cell_ hlt gyd⟩
      have ycl:=hc.cell (i:=4) rfl
      have yf:=hc.frozen 4
      obtain⟨uj,huj⟩:∃ uj,uj=u3 3:=⟨_,rfl⟩
      rw[← huj] at C hrun ycl
      have S0:w3.cell? ⟨b,4,none⟩=_∧w3.cell? ⟨b+1,4,none⟩=_∧w3.cell? (p3.add i)=_∧w3.cell? (q3.add i)=_:=⟨A,B,PA,QA⟩
      have HJ1:=Lib.hid hJ1
      have HS1:=Lib.hid S1
      have HS2:=Lib.hid S2
      have HS0:=Lib.hid S0
      have Hrun:=Lib.hid hrun
      clear S1 S2 S0 hJ1 hrun oa ob bY kY kZ ja jb ca cb A B PA QA hc hlq huj kp
      refine wp_region_held_drew (S:=fun W=>W.cell? ⟨b,4,none⟩=some (.slice (some p3) me cm)∧W.cell? ⟨b+1,4,none⟩=some (.slice (some q3) me dm)∧W.cell? (p3.add i)=some (.int .i64 xd)∧W.cell? (q3.add i)=some (.int .i64 yd)) (by kernel_rfl) (show w3.drew.cell? _=_∧w3.drew.cell? _=_∧w3.drew.cell? _=_∧w3.drew.cell? _=_ from HS0.out) (fun hHeld=>?_)
      refine WTH (i:=0) (v:=?vn0) ?yn0 hHeld ?rn0
      case yn0=>(intro W hW;go_simp;first | done | with_reducible rfl)
      try simp only[SL,Act.put]
      refine WTH (i:=2) (v:=?vn2) ?yn2 hHeld ?rn2
      case yn2=>(intro W hW;go_simp;first | done | with_reducible rfl)
      try simp only[SL,Act.put]
      refine WTH (i:=3) (v:=?vn3) ?yn3 hHeld ?rn3
      case yn3=>(intro W hW;obtain⟨g0,g1,g2,g3⟩:=hW;go_simp;first | done | with_reducible rfl)
      try simp only[SL,Act.put]
      refine WTH (i:=4) (v:=?vn4) ?yn4 hHeld ?rn4
      case yn4=>(intro W hW;go_simp;first | done | with_reducible rfl)
      try simp only[SL,Act.put]
      refine WTH (i:=5) (v:=?vn5) ?yn5 hHeld ?rn5
      case yn5=>(intro W hW;go_simp;first | done | with_reducible rfl)
      try simp only[SL,Act.put]
      refine WTH (i:=6) (v:=?vn6) ?yn6 hHeld ?rn6
      case yn6=>(intro W hW;obtain⟨g0,g1,g2,g3⟩:=hW;go_simp;first | done | with_reducible rfl)
      try simp only[SL,Act.put]
      refine WTH (i:=7) (v:=?vn7) ?yn7 hHeld ?rn7
      case yn7=>(intro W hW;go_simp;first | done | with_reducible rfl)
      try simp only[SL,Act.put]
      refine WTH (i:=8) (v:=?vn8) ?yn8 hHeld ?rn8
      case yn8=>(intro W hW;obtain⟨g0,g1,g2,g3⟩:=hW;go_simp;first | done | with_reducible rfl)
      try simp only[SL,Act.put]
      refine WTH (i:=9) (v:=?vn9) ?yn9 hHeld ?rn9
      case yn9=>(intro W hW;go_simp;first | done | with_reducible rfl)
      try simp only[SL,Act.put]
      refine WTH (i:=10) (v:=?vn10) ?yn10 hHeld ?rn10
      case yn10=>(intro W hW;go_simp;first | done | with_reducible rfl)
      try simp only[SL,Act.put]
      refine WTH (i:=11) (v:=?vn11) ?yn11 hHeld ?rn11
      case yn11=>(intro W hW;obtain⟨g0,g1,g2,g3⟩:=hW;go_simp;first | done | with_reducible rfl)
      try simp only[SL,Act.put]
      refine WTH (i:=12) (v:=?vn12) ?yn12 hHeld ?rn12
      case yn12=>(intro W hW;go_simp;first | done | with_reducible rfl)
      try simp only[SL,Act.put]
      refine wpAnyH_ready (rs:=[1,13]) (by kernel_rfl) (by simp) ?_
      refine AllReadyH.cons rfl (fun K hK=>?_) (AllReadyH.cons rfl (fun K hK=>?_) AllReadyH.nil)
      ·go_simp
       refine hK.out _ _ (HS0.out) (fun hHeld=>?_)
       clear hK K
       try simp only[SL,Act.put]
       refine wpAnyH_ready (rs:=[13]) (by kernel_rfl) (by simp) ?_
       refine AllReadyH.cons rfl (fun K hK=>?_) AllReadyH.nil
       go_simp
       have kf:Keeps w3 (w3.alloc (.cells #[.int .i64 (max xd yd)] 3)).drew:=((Keeps.refl w3).alloc _).drewN 1
       have f0:=(⟨kf _ _ HS0.out.1,kf _ _ HS0.out.2.1,kf _ _ HS0.out.2.2.1,kf _ _ HS0.out.2.2.2⟩:_∧_∧_∧_)
       refine hK.out _ _ (f0) (fun hHeld=>?_)
       clear hK K
       try simp only[SL,Act.put]
       refine wpAnyH_ready (rs:=[14]) (by kernel_rfl) (by simp) ?_
       refine AllReadyH.cons rfl (fun K hK=>?_) AllReadyH.nil
       rw[if_pos (by rfl)]
       refine oper_append (.tmp 57) (.tmp 69) 22 rfl _ _ _ _ rfl rfl Hrun.out ?_
       refine hK.out _ _ HS1.out (fun hHeld=>?_)
       clear hK K
       try simp only[SL,Act.put]
       refine WTH (i:=15) (v:=?vnx15) ?ynx15 hHeld ?rnx15
       case ynx15=>(intro W hW;go_simp;first | done | with_reducible rfl)
       try simp only[SL,Act.put]
       refine wpAnyH_ready (rs:=[16]) (by kernel_rfl) (by simp) ?_
       refine AllReadyH.cons rfl (fun K hK=>?_) AllReadyH.nil
       go_simp
       refine hK.out _ _ HS2.out (fun hHeld=>?_)
       clear hK K
       try simp only[SL,Act.put]
       refine wpAnyH_done (by kernel_rfl) ?_ _
       go_wp2
       exact⟨⟨i+1,_,_,by go_num,by omega,HJ1.out,HX0.out,HX1.out,HX2.out,HX3.out⟩,by simp[intOf];omega⟩
      ·go_simp
       have kf:Keeps w3 (w3.alloc (.cells #[.int .i64 (max xd yd)] 3)).drew:=((Keeps.refl w3).alloc _).drewN 1
       have f0:=(⟨kf _ _ HS0.out.1,kf _ _ HS0.out.2.1,kf _ _ HS0.out.2.2.1,kf _ _ HS0.out.2.2.2⟩:_∧_∧_∧_)
       refine hK.out _ _ (f0) (fun hHeld=>?_)
       clear hK K
       try simp only[SL,Act.put]
       refine wpAnyH_ready (rs:=[1]) (by kernel_rfl) (by simp) ?_
       refine AllReadyH.cons rfl (fun K hK=>?_) AllReadyH.nil
       go_simp
       refine hK.out _ _ (f0) (fun hHeld=>?_)
       clear hK K
       try simp only[SL,Act.put]
       refine wpAnyH_ready (rs:=[14]) (by kernel_rfl) (by simp) ?_
       refine AllReadyH.cons rfl (fun K hK=>?_) AllReadyH.nil
       rw[if_pos (by rfl)]
       refine oper_append (.tmp 57) (.tmp 69) 22 rfl _ _ _ _ rfl rfl Hrun.out ?_
       refine hK.out _ _ HS1.out (fun hHeld=>?_)
       clear hK K
       try simp only[SL,Act.put]
       refine WTH (i:=15) (v:=?vny15) ?yny15 hHeld ?rny15
       case yny15=>(intro W hW;go_simp;first | done | with_reducible rfl)
       try simp only[SL,Act.put]
       refine wpAnyH_ready (rs:=[16]) (by kernel_rfl) (by simp) ?_
       refine AllReadyH.cons rfl (fun K hK=>?_) AllReadyH.nil
       go_simp
       refine hK.out _ _ HS2.out (fun hHeld=>?_)
       clear hK K
       try simp only[SL,Act.put]
       refine wpAnyH_done (by kernel_rfl) ?_ _
       go_wp2
       exact⟨⟨i+1,_,_,by go_num,by omega,HJ1.out,HX0.out,HX1.out,HX2.out,HX3.out⟩,by simp[intOf];omega⟩
   ·obtain rfl:i=me:=by omega
    have d1:decide ((i:Int)<(i:Int))=false:=by simp
    have hJ:=HJ.out
    have t1:xs 1=addL x.sum y.sum:=by rw[X1.out,List.take_of_length_le (by simp[addL,E1.out,E4.out])]
    have t2:xs 2=minL x.mn y.mn:=by rw[X2.out,List.take_of_length_le (by simp[minL,E2.out,E5.out])]
    have t3:xs 3=maxL x.mx y.mx:=by rw[X3.out,List.take_of_length_le (by simp[maxL,E3.out,E6.out])]
    have o0:OI w.heap.size wr (u 0) x.key:=X0.out ▸ hJ.ok 0 (by decide)
    have o1:OI w.heap.size wr (u 1) (addL x.sum y.sum):=t1 ▸ hJ.ok 1 (by decide)
    have o2:OI w.heap.size wr (u 2) (minL x.mn y.mn):=t2 ▸ hJ.ok 2 (by decide)
    have o3:OI w.heap.size wr (u 3) (maxL x.mx y.mx):=t3 ▸ hJ.ok 3 (by decide)
    have hc:=hJ.c
    have hr:=hJ.r
    have hbel:=hJ.bel
    have hgb:=hJ.gb
    generalize u 0=v0 at o0 hc
    generalize u 1=v1 at o1 hc
    generalize u 2=v2 at o2 hc
    generalize u 3=v3 at o3 hc
    obtain⟨Y0,y0,f0,-⟩:=o0.form
    obtain⟨Y1,y1,f1,-⟩:=o1.form
    obtain⟨Y2,y2,f2,-⟩:=o2.form
    obtain⟨Y3,y3,f3,-⟩:=o3.form
    generalize x.key.length=l0 at f0
    generalize (addL x.sum y.sum).length=l1 at f1
    generalize (minL x.mn y.mn).length=l2 at f2
    generalize (maxL x.mx y.mx).length=l3 at f3
    subst f0 f1 f2 f3
    obtain⟨Wf,hWf⟩:∃ Wf,Wf=put5 wr (w.heap.size+1+1) (.slice Y0 l0 y0) (.int .i64 cz) (.slice Y1 l1 y1) (.slice Y2 l2 y2) (.slice Y3 l3 y3):=⟨_,rfl⟩
    have of:=hWf ▸ put5_own (v0:=.slice Y0 l0 y0) (v1:=.int .i64 cz) (v2:=.slice Y1 l1 y1) (v3:=.slice Y2 l2 y2) (v4:=.slice Y3 l3 y3) hr
    have onl:Only (w.heap.size+1+1) wr Wf:=hWf ▸ put5_only
    have fin:CO w.heap.size Wf (.slice Y0 l0 y0) (.slice Y1 l1 y1) (.slice Y2 l2 y2) (.slice Y3 l3 y3) (join2 x y) :=
     ⟨o0.only onl hr (by decide),o1.only onl hr (by decide),o2.only onl hr (by decide),o3.only onl hr (by decide)⟩
    have hbf:Below w.heap.size w Wf:=hbel.trans (onl.below (by omega) hbel.size)
    unfold put5 at hWf
    rw[← Eb.out] at hr hWf of
    have Q0:=hc.cell (i:=0) rfl
    have Q1:=hc.cell (i:=1) rfl
    have Q2:=hc.cell (i:=2) rfl
    have Q3:=hc.cell (i:=3) rfl
    have Q4:=hc.cell (i:=4) rfl
    have R0:=hr.cell (i:=0) rfl
    have R1:=hr.cell (i:=1) rfl
    have R2:=hr.cell (i:=2) rfl
    have R3:=hr.cell (i:=3) rfl
    have R4:=hr.cell (i:=4) rfl
    have Rf:=hr.frozen
    have r0:=of.cell (i:=0) rfl
    have r1:=of.cell (i:=1) rfl
    have r2:=of.cell (i:=2) rfl
    have r3:=of.cell (i:=3) rfl
    have r4:=of.cell (i:=4) rfl
    have HWf:=Lib.hid hWf
    have Fin:=Lib.hid fin
    have Hbf:=Lib.hid hbf
    clear hWf fin hbf onl of o0 o1 o2 o3 hc hr hbel t1 t2 t3 hJ
    go_wp2_with fail
    have e5:=HWf.out
    rw[← e5]
    exact bodyPost_ret (v:=.agg #[.slice Y0 l0 y0,.int .i64 cz,.slice Y1 l1 y1,.slice Y2 l2 y2,.slice Y3 l3 y3]) (by simp[results,Tryz.results53,go_sem,r0,r1,r2,r3,r4]) rfl ⟨_,_,_,_,rfl,Fin.out,Hbf.out⟩
end Go.Proofs.YtnjlkhhcfiedbaaGreatDoor

import Derived.IntWalk
import Derived.Shelf.SlSortCmp.KitK
import Derived.Test.YtnjlkhhcfiedbaaGreatDoorSl
import Derived.Test.YtnjlkhhcfiedbaaGreatDoorHsh5
import Derived.Test.YtnjlkhhcfiedbaaGreatDoorExQ
import Derived.Test.YtnjlkhhcfiedbaaGreatDoorGroupN
namespace Go.Proofs.YtnjlkhhcfiedbaaGreatDoor
open Go.RowKit
attribute [local go_sem] Oper.semAt_some
def alikeB (L:List Cel) (a:Nat):Bool:=L.all fun c=>valK c a == valK (L[0]?.getD ⟨[],0,[],[],[]⟩) a
theorem alikeB_iff {L:List Cel} {a:Nat}:alikeB L a=true ↔ ∀ c ∈ L,∀ c' ∈ L,valK c a=valK c' a:=by
 unfold alikeB
 rw[List.all_eq_true]
 constructor
 ·intro h c hc c' hc'
  have h1:=h c hc
  have h2:=h c' hc'
  rw[beq_iff_eq] at h1 h2
  rw[h1,h2]
 ·intro h c hc
  match L,hc with
  | x :: t,hc =>
   rw[beq_iff_eq]
   exact h c hc x (by simp)
theorem parting_is {slots d:Nat} (hs:1≤slots) {l:List Cel} (hn:¬ (grpR l).length≤slots):∀ (f a:Nat),a+f=d→Fit d a l→∃ q f',q+(f'+1)=d∧a≤q∧(∀ p,a≤p→p<q→alikeB l p=true)∧alikeB l q=false∧Fit d q l∧partsP slots f a l=partsP slots (f'+1) q l
 | 0,a,hd,h=>by
  have:=fit_lt hs (by omega) h hn
  omega
 | f+1,a,hd,h=>by
  cases hb:alikeB l a with
  | false=>exact⟨a,f,hd,Nat.le_refl _,fun p h1 h2=>by omega,hb,h,rfl⟩
  | true =>
   have hal:=alikeB_iff.1 hb
   obtain⟨q,f',h1,h2,h3,h4,h5,h6⟩:=parting_is hs hn f (a+1) (by omega) (h.next (by omega) hal)
   refine⟨q,f',h1,by omega,fun p p1 p2=>?_,h4,h5,?_⟩
   ·by_cases e:p=a
    ·rw[e];exact hb
    ·exact h3 p (by omega) p2
   ·rw[parts_skip hd h hal hn,h6]
theorem alike_not {L:List Cel} {a i:Nat} {x y:Cel} (hx:L[i]? = some x) (hy:L[0]? = some y) (hne:valK x a ≠ valK y a):alikeB L a=false:=by
 cases h:alikeB L a with
 | false=>rfl
 | true=>exact absurd (alikeB_iff.1 h x (List.mem_of_getElem? hx) y (List.mem_of_getElem? hy)) hne
set_option maxRecDepth 100000 in
set_option maxHeartbeats 4000000 in
theorem halike_any (ad:Addr) (c N:Nat) (L:List Cel) (d a:Nat) (pos:Int) (w:World) (hl:CellsR w ad L) (hN:N=L.length) (hd:∀ x ∈ L,x.key.length=d) (ha:a<d) (hn:N≤1000000) :
  Calls Tryz.prog 157 #[.agg #[.slice (some ad) N c,.int .i64 pos],.int .i64 a] w fun e w'=>e=.returned (.bool (alikeB L a))∧Below w.heap.size w w':=by
 have HN:=Lib.hid hN
 have HD:=Lib.hid hd
 have a0:(0:Int)≤(a:Int):=by omega
 have a1:(a:Int)<(d:Int):=by omega
 obtain⟨w1,hw1⟩:∃ w1,w1=w.alloc (.cells #[.slice (some ad) N c,.int .i64 pos] 104):=⟨_,rfl⟩
 have o1:Own 104 w1 w.heap.size [.slice (some ad) N c,.int .i64 pos]:=by rw[hw1];exact heap_alloc_new w _
 have hb1:Below w.heap.size w w1:=by rw[hw1];exact (Below.refl _ w).alloc (Nat.le_refl _) _
 have HL:=Lib.hid (hl.keep (Keeps.of_below hb1))
 have HB1:=Lib.hid hb1
 obtain⟨b,eb⟩:∃ b,b=w.heap.size:=⟨_,rfl⟩
 rw[← eb] at o1
 have O1:=Lib.hid o1
 have s0:=o1.cell (i:=0) rfl
 clear hl hN hd hb1 o1
 go_enter Tryz.func157,Tryz.ntmps157
 go_upto_region 1 with (fail)
 rw[← hw1,← eb]
 clear hw1 eb
 go_wp2
 clear s0
 go_loopw [10] (fun i wr=>∃ k:Nat,k≤N∧i=.int .i64 k∧(∀ x ∈ L.take k,valK x a=valK (L[0]?.getD ⟨[],0,[],[],[]⟩) a)∧Below w1.heap.size w1 wr) (fun i _=>N - (intOf i).toNat)
 case atStart=>exact⟨0,by omega,rfl,by simp,Below.refl _ _⟩
 case round =>
  obtain⟨k,hk,rfl,hall,hb⟩:=hrel
  rename World=>wr
  have Hb:=Lib.hid hb
  have HA:=Lib.hid hall
  clear hb hall
  by_cases hlt:k<N
  ·obtain⟨x,hx⟩:∃ x,L[k]? = some x:=⟨_,List.getElem?_eq_getElem (by have:=HN.out;omega)⟩
   obtain⟨y,hy⟩:∃ y,L[0]? = some y:=⟨_,List.getElem?_eq_getElem (by have:=HN.out;omega)⟩
   have hdx:=HD.out x (List.mem_of_getElem? hx)
   have hdy:=HD.out y (List.mem_of_getElem? hy)
   have kp:=Keeps.of_below Hb.out
   obtain⟨vk,vs,vn,vm,p0,p1,p2,p3,p4,⟨⟨Pk,ck,rfl,nk,-⟩,⟨Ps,cs,rfl,_⟩,⟨Pn,cn,rfl,_⟩,⟨Pm,cm,rfl,_⟩⟩,_⟩:=(HL.out k x hx).keep kp
   have hy0:=(HL.out 0 y hy).keep kp
   rw[show ad.add (0*5)=ad from by simp[Addr.add]] at hy0
   obtain⟨uk,us,un,um,c0,c1,c2,c3,c4,⟨⟨Qk,dk,rfl,mk,-⟩,⟨Qs,ds,rfl,_⟩,⟨Qn,dn,rfl,_⟩,⟨Qm,dm,rfl,_⟩⟩,_⟩:=hy0
   rw[hdx] at p0 nk
   rw[hdy] at c0 mk
   obtain⟨A1,v1,rfl,hv1,-,g1⟩:=nk.at_ (k:=a) ha
   obtain⟨A2,v2,rfl,hv2,-,g2⟩:=mk.at_ (k:=a) ha
   have e1:valK x a=v1:=by unfold valK;rw[hv1];rfl
   have e2:valK y a=v2:=by unfold valK;rw[hv2];rfl
   obtain⟨w5,hw5⟩:∃ w5,w5=wr.alloc (.cells #[.slice (some A1) d ck,.int .i64 x.cnt,.slice Ps x.sum.length cs,.slice Pn x.mn.length cn,.slice Pm x.mx.length cm] 46):=⟨_,rfl⟩
   have o5:Own 46 w5 wr.heap.size [.slice (some A1) d ck,.int .i64 x.cnt,.slice Ps x.sum.length cs,.slice Pn x.mn.length cn,.slice Pm x.mx.length cm]:=by rw[hw5];exact heap_alloc_new wr _
   have hb5:Below wr.heap.size wr w5:=by rw[hw5];exact (Below.refl _ _).alloc (Nat.le_refl _) _
   have k5:=Keeps.of_below hb5
   have r0:=o5.cell (i:=0) rfl
   have t0:=(O1.out.below Hb.out O1.out.lt).below hb5 (Nat.lt_of_lt_of_le O1.out.lt Hb.out.size)
   have s0:=t0.cell (i:=0) rfl
   have c0':=k5 _ _ c0
   have g1':=k5 _ _ g1
   have g2':=k5 _ _ g2
   have Hb5:=Lib.hid (Hb.out.trans (hb5.mono Hb.out.size))
   have i0:(0:Int)≤(k:Int):=by omega
   have i1:(k:Int)<(N:Int):=by omega
   have d1:decide ((k:Int)<(N:Int))=true:=decide_eq_true i1
   have d2:decide (k<N)=true:=by simp;omega
   have q0:0<N:=by omega
   have q1:(0:Int)<(N:Int):=by omega
   have hw5':=Lib.hid hw5
   generalize x.cnt=cnt at *
   generalize x.sum.length=l2 at *
   generalize x.mn.length=l3 at *
   generalize x.mx.length=l4 at *
   clear nk mk hdx hdy kp c0 c1 c2 c3 c4 g1 g2 o5 hb5 k5 t0 hv1 hv2 hw5
   go_upto_region 4 with (fail)
   rw[← hw5'.out]
   by_cases hv:v1=v2
   ·have dv:(v1 != v2)=false:=by simp[hv]
    refine wp_region_held_drew (S:=fun W=>W.cell? ⟨wr.heap.size,0,none⟩=some (.slice (some A1) d ck)∧W.cell? ⟨b,0,none⟩=some (.slice (some ad) N c)∧W.cell? ad=some (.slice (some A2) d dk)∧W.cell? (A1.add a)=some (.int .i64 v1)∧W.cell? (A2.add a)=some (.int .i64 v2)) (by kernel_rfl) ⟨r0,s0,c0',g1',g2'⟩ (fun hHeld=>?_)
    refine WTH (i:=0) (v:=?vpa0) ?ypa0 hHeld ?rpa0
    case ypa0=>(intro W hW;obtain⟨h0,h1,h2,h3,h4⟩:=hW;go_simp;first | done | with_reducible rfl)
    try simp only[SL,Act.put]
    refine WTH (i:=1) (v:=?vpa1) ?ypa1 hHeld ?rpa1
    case ypa1=>(intro W hW;obtain⟨h0,h1,h2,h3,h4⟩:=hW;go_simp;first | done | with_reducible rfl)
    try simp only[SL,Act.put]
    refine WTH (i:=2) (v:=?vpa2) ?ypa2 hHeld ?rpa2
    case ypa2=>(intro W hW;obtain⟨h0,h1,h2,h3,h4⟩:=hW;go_simp;first | done | with_reducible rfl)
    try simp only[SL,Act.put]
    refine WTH (i:=3) (v:=?vpa3) ?ypa3 hHeld ?rpa3
    case ypa3=>(intro W hW;obtain⟨h0,h1,h2,h3,h4⟩:=hW;go_simp;first | done | with_reducible rfl)
    try simp only[SL,Act.put]
    refine WTH (i:=4) (v:=?vpa4) ?ypa4 hHeld ?rpa4
    case ypa4=>(intro W hW;obtain⟨h0,h1,h2,h3,h4⟩:=hW;go_simp;first | done | with_reducible rfl)
    try simp only[SL,Act.put]
    refine WTH (i:=5) (v:=?vpa5) ?ypa5 hHeld ?rpa5
    case ypa5=>(intro W hW;obtain⟨h0,h1,h2,h3,h4⟩:=hW;go_simp;first | done | with_reducible rfl)
    try simp only[SL,Act.put]
    refine WTH (i:=6) (v:=?vpa6) ?ypa6 hHeld ?rpa6
    case ypa6=>(intro W hW;obtain⟨h0,h1,h2,h3,h4⟩:=hW;go_simp;first | done | with_reducible rfl)
    try simp only[SL,Act.put]
    refine WTH (i:=7) (v:=?vpa7) ?ypa7 hHeld ?rpa7
    case ypa7=>(intro W hW;obtain⟨h0,h1,h2,h3,h4⟩:=hW;go_simp;first | done | with_reducible rfl)
    try simp only[SL,Act.put]
    refine WTH (i:=8) (v:=?vpa8) ?ypa8 hHeld ?rpa8
    case ypa8=>(intro W hW;obtain⟨h0,h1,h2,h3,h4⟩:=hW;go_simp;first | done | with_reducible rfl)
    try simp only[SL,Act.put]
    refine WTH (i:=9) (v:=?vpa9) ?ypa9 hHeld ?rpa9
    case ypa9=>(intro W hW;obtain⟨h0,h1,h2,h3,h4⟩:=hW;go_simp;first | done | with_reducible rfl)
    try simp only[SL,Act.put]
    refine WTH (i:=10) (v:=?vpa10) ?ypa10 hHeld ?rpa10
    case ypa10=>(intro W hW;obtain⟨h0,h1,h2,h3,h4⟩:=hW;go_simp;first | done | with_reducible rfl)
    try simp only[SL,Act.put]
    refine WTH (i:=11) (v:=?vpa11) ?ypa11 hHeld ?rpa11
    case ypa11=>(intro W hW;obtain⟨h0,h1,h2,h3,h4⟩:=hW;go_simp;first | done | with_reducible rfl)
    try simp only[SL,Act.put]
    refine WTH (i:=12) (v:=?vpa12) ?ypa12 hHeld ?rpa12
    case ypa12=>(intro W hW;obtain⟨h0,h1,h2,h3,h4⟩:=hW;go_simp;first | done | with_reducible rfl)
    try simp only[SL,Act.put]
    refine WTH (i:=13) (v:=?vpa13) ?ypa13 hHeld ?rpa13
    case ypa13=>(intro W hW;obtain⟨h0,h1,h2,h3,h4⟩:=hW;go_simp;first | done | with_reducible rfl)
    try simp only[SL,Act.put]
    refine wpAnyH_done (by kernel_rfl) ?_ _
    clear hHeld
    have HALL:Hid (∀ z ∈ L.take (k+1),valK z a=valK (L[0]?.getD ⟨[],0,[],[],[]⟩) a):=Lib.hid (fun z hz=>by
     rw[List.take_add_one,hx] at hz
     rcases List.mem_append.1 hz with h | h
     ·exact HA.out z h
     ·rw[Option.toList_some,List.mem_singleton] at h
      subst h
      rw[hy,Option.getD_some,e1,e2,hv])
    clear hx hy e1 e2 r0 s0 c0' g1' g2' p0 p1 p2 p3 p4
    go_wp2
    go_roundw
    case rel=>exact⟨k+1,by omega,by go_num,HALL.out,Hb5.out.drew⟩
    case measure=>simp[intOf];omega
   ·have dv:(v1 != v2)=true:=by simp[hv]
    refine wp_region_held_drew (S:=fun W=>W.cell? ⟨wr.heap.size,0,none⟩=some (.slice (some A1) d ck)∧W.cell? ⟨b,0,none⟩=some (.slice (some ad) N c)∧W.cell? ad=some (.slice (some A2) d dk)∧W.cell? (A1.add a)=some (.int .i64 v1)∧W.cell? (A2.add a)=some (.int .i64 v2)) (by kernel_rfl) ⟨r0,s0,c0',g1',g2'⟩ (fun hHeld=>?_)
    refine WTH (i:=0) (v:=?vpb0) ?ypb0 hHeld ?rpb0
    case ypb0=>(intro W hW;obtain⟨h0,h1,h2,h3,h4⟩:=hW;go_simp;first | done | with_reducible rfl)
    try simp only[SL,Act.put]
    refine WTH (i:=1) (v:=?vpb1) ?ypb1 hHeld ?rpb1
    case ypb1=>(intro W hW;obtain⟨h0,h1,h2,h3,h4⟩:=hW;go_simp;first | done | with_reducible rfl)
    try simp only[SL,Act.put]
    refine WTH (i:=2) (v:=?vpb2) ?ypb2 hHeld ?rpb2
    case ypb2=>(intro W hW;obtain⟨h0,h1,h2,h3,h4⟩:=hW;go_simp;first | done | with_reducible rfl)
    try simp only[SL,Act.put]
    refine WTH (i:=3) (v:=?vpb3) ?ypb3 hHeld ?rpb3
    case ypb3=>(intro W hW;obtain⟨h0,h1,h2,h3,h4⟩:=hW;go_simp;first | done | with_reducible rfl)
    try simp only[SL,Act.put]
    refine WTH (i:=4) (v:=?vpb4) ?ypb4 hHeld ?rpb4
    case ypb4=>(intro W hW;obtain⟨h0,h1,h2,h3,h4⟩:=hW;go_simp;first | done | with_reducible rfl)
    try simp only[SL,Act.put]
    refine WTH (i:=5) (v:=?vpb5) ?ypb5 hHeld ?rpb5
    case ypb5=>(intro W hW;obtain⟨h0,h1,h2,h3,h4⟩:=hW;go_simp;first | done | with_reducible rfl)
    try simp only[SL,Act.put]
    refine WTH (i:=6) (v:=?vpb6) ?ypb6 hHeld ?rpb6
    case ypb6=>(intro W hW;obtain⟨h0,h1,h2,h3,h4⟩:=hW;go_simp;first | done | with_reducible rfl)
    try simp only[SL,Act.put]
    refine WTH (i:=7) (v:=?vpb7) ?ypb7 hHeld ?rpb7
    case ypb7=>(intro W hW;obtain⟨h0,h1,h2,h3,h4⟩:=hW;go_simp;first | done | with_reducible rfl)
    try simp only[SL,Act.put]
    refine WTH (i:=8) (v:=?vpb8) ?ypb8 hHeld ?rpb8
    case ypb8=>(intro W hW;obtain⟨h0,h1,h2,h3,h4⟩:=hW;go_simp;first | done | with_reducible rfl)
    try simp only[SL,Act.put]
    refine WTH (i:=9) (v:=?vpb9) ?ypb9 hHeld ?rpb9
    case ypb9=>(intro W hW;obtain⟨h0,h1,h2,h3,h4⟩:=hW;go_simp;first | done | with_reducible rfl)
    try simp only[SL,Act.put]
    refine WTH (i:=10) (v:=?vpb10) ?ypb10 hHeld ?rpb10
    case ypb10=>(intro W hW;obtain⟨h0,h1,h2,h3,h4⟩:=hW;go_simp;first | done | with_reducible rfl)
    try simp only[SL,Act.put]
    refine WTH (i:=11) (v:=?vpb11) ?ypb11 hHeld ?rpb11
    case ypb11=>(intro W hW;obtain⟨h0,h1,h2,h3,h4⟩:=hW;go_simp;first | done | with_reducible rfl)
    try simp only[SL,Act.put]
    refine WTH (i:=12) (v:=?vpb12) ?ypb12 hHeld ?rpb12
    case ypb12=>(intro W hW;obtain⟨h0,h1,h2,h3,h4⟩:=hW;go_simp;first | done | with_reducible rfl)
    try simp only[SL,Act.put]
    refine WTH (i:=13) (v:=?vpb13) ?ypb13 hHeld ?rpb13
    case ypb13=>(intro W hW;obtain⟨h0,h1,h2,h3,h4⟩:=hW;go_simp;first | done | with_reducible rfl)
    try simp only[SL,Act.put]
    refine wpAnyH_done (by kernel_rfl) ?_ _
    clear hHeld
    have HNO:=Lib.hid (alike_not (a:=a) hx hy (by rw[e1,e2];exact hv))
    clear hx hy e1 e2 r0 s0 c0' g1' g2' p0 p1 p2 p3 p4
    go_wp2
    go_ret
    exact⟨by rw[HNO.out];rfl,HB1.out.trans ((Hb5.out.drew).mono HB1.out.size)⟩
  ·obtain rfl:k=N:=by omega
   have d1:decide ((k:Int)<(k:Int))=false:=by simp
   have d2:decide (k<k)=false:=by simp
   have HYES:Hid (alikeB L a=true):=Lib.hid (by
    have h:=HA.out
    rw[List.take_of_length_le (Nat.le_of_eq HN.out.symm)] at h
    unfold alikeB
    rw[List.all_eq_true]
    intro z hz
    rw[beq_iff_eq]
    exact h z hz)
   go_wp2
   go_ret
   exact⟨by rw[HYES.out];rfl,HB1.out.trans (Hb.out.mono HB1.out.size)⟩
set_option maxRecDepth 100000 in
set_option maxHeartbeats 4000000 in
theorem hparting_any (ad:Addr) (c N:Nat) (L:List Cel) (d a q:Nat) (w:World) (hl:CellsR w ad L) (hN:N=L.length) (hd:∀ x ∈ L,x.key.length=d) (haq:a≤q) (hqd:q<d) (hdd:d≤1000) (hn:N≤1000000) (hal:∀ p,a≤p→p<q→alikeB L p=true) (hno:alikeB L q=false) :
  Calls Tryz.prog 129 #[.agg #[.slice (some ad) N c,.int .i64 a]] w fun e w'=>e=.returned (.int .i64 q)∧Below w.heap.size w w':=by
 obtain⟨w1,hw1⟩:∃ w1,w1=w.alloc (.cells #[.slice (some ad) N c,.int .i64 a] 104):=⟨_,rfl⟩
 have o1:Own 104 w1 w.heap.size [.slice (some ad) N c,.int .i64 a]:=by rw[hw1];exact heap_alloc_new w _
 have hb1:Below w.heap.size w w1:=by rw[hw1];exact (Below.refl _ w).alloc (Nat.le_refl _) _
 have HAL:=Lib.hid (fun (p:Nat) (hp:p<d) (W:World) (hb:Below w1.heap.size w1 W)=>halike_any ad c N L d p a W ((hl.keep (Keeps.of_below hb1)).keep (Keeps.of_below hb)) hN hd hp hn)
 have HA:=Lib.hid hal
 have HNO:=Lib.hid hno
 have HB1:=Lib.hid hb1
 obtain⟨b,eb⟩:∃ b,b=w.heap.size:=⟨_,rfl⟩
 rw[← eb] at o1
 have O1:=Lib.hid o1
 have s1:=o1.cell (i:=1) rfl
 clear hl hN hd hal hno hb1 o1
 go_enter Tryz.func129,Tryz.ntmps129
 go_upto_region 1 with (fail)
 rw[← hw1,← eb]
 clear hw1 eb
 go_wp2
 clear s1
 go_loopw [3] (fun i wr=>∃ p:Nat,a≤p∧p≤q∧i=.int .i64 p∧Below w1.heap.size w1 wr) (fun i _=>q - (intOf i).toNat)
 case atStart=>exact⟨a,Nat.le_refl _,haq,rfl,Below.refl _ _⟩
 case round =>
  obtain⟨p,hp1,hp2,rfl,hb⟩:=hrel
  rename World=>wr
  have Hb:=Lib.hid hb
  have s0:=(O1.out.below hb O1.out.lt).cell (i:=0) rfl
  have s1:=(O1.out.below hb O1.out.lt).cell (i:=1) rfl
  have hA:=HAL.out p (by omega) wr hb
  by_cases hlt:p<q
  ·rw[HA.out p hp1 hlt] at hA
   have HC:=Lib.hid hA
   clear hb hA
   go_wp2_with fail
   refine HC.out.mono ?_
   rintro e w2 ⟨rfl,hb2⟩
   have Hb2:=Lib.hid (Hb.out.trans (hb2.mono Hb.out.size))
   clear hb2 s0 s1
   go_wp2
   go_roundw
   case rel=>exact⟨p+1,by omega,by omega,by go_num,Hb2.out⟩
   case measure=>simp[intOf];omega
  ·obtain rfl:p=q:=by omega
   rw[HNO.out] at hA
   have HC:=Lib.hid hA
   clear hb hA
   go_wp2_with fail
   refine HC.out.mono ?_
   rintro e w2 ⟨rfl,hb2⟩
   have Hb2:=Lib.hid (Hb.out.trans (hb2.mono Hb.out.size))
   clear hb2 s0 s1
   go_wp2
   go_ret
   exact⟨rfl,HB1.out.trans (Hb2.out.mono HB1.out.size)⟩
end Go.Proofs.YtnjlkhhcfiedbaaGreatDoor
namespace Go.Proofs.YtnjlkhhcfiedbaaGreatDoor.Stab
open Go.RowKit Go.Shelf Go.Lib Go.Sort
theorem stableP_any {α:Type} [Inhabited α] (enc:α→List Value) (cf:α→α→Int) (hO:SWO (ltOf cf)) (g:Nat) (cb:Array Value) (blk off cap:Nat) (d:Array α) (w:World)
  (eg:∀ args w,(callFunc g args).run Tryz.prog w=.ok (.enter g args) w) (hcmp:CmpLays Tryz.prog g cb enc 5 cf blk off d.size w) (R:RowK enc 5 w blk off d) (hsz:d.size≤60) :
  Calls Tryz.prog 158 #[.slice (some ⟨blk,off,none⟩) d.size cap,.int .i64 d.size,.func (.func g) #[] cb] w fun e w'=>e=.returned (.tuple #[]) ∧
   ∃ d',SWK enc 5 w blk off d' w'∧PermIn 0 d.size d d'∧SortedIn (ltOf cf) 0 d.size d' :=
 stable_gen 5 lay enc cf hO g cb blk off cap d d w w eg hcmp R rfl (SWK.start R.hH) hsz fun a b dk wr h0 h1 h2 h3=>ins_at enc cf hO g cb blk off cap a b d dk w wr eg hcmp R h0 h1 h2 h3 (by omega)
end Go.Proofs.YtnjlkhhcfiedbaaGreatDoor.Stab
namespace Go.Proofs.YtnjlkhhcfiedbaaGreatDoor
open Go.RowKit Go.Shelf Go.Sort Go.Lib
attribute [local go_sem] Oper.semAt_some
set_option maxRecDepth 100000 in
set_option maxHeartbeats 4000000 in
theorem apcmp_any (k s n m k' s' n' m':Value) (x y:Cel) (atp:Addr) (a d:Nat) (w:World) (hx:CR w k s n m x) (hy:CR w k' s' n' m' y) (dx:x.key.length=d) (dy:y.key.length=d) (ha:a<d) (hat:w.cell? atp=some (.int .i64 a)) :
  Calls Tryz.prog 131 #[.agg #[k,.int .i64 x.cnt,s,n,m],.agg #[k',.int .i64 y.cnt,s',n',m'],.pointer (some atp)] w fun e w'=>e=.returned (.int .i64 (cmpI (valK x a) (valK y a)))∧∃ q os,w'=grow (w.drewN q) os:=by
 obtain⟨⟨Pk,ck,rfl,nk,-⟩,⟨Ps,cs,rfl,-⟩,⟨Pn,cn,rfl,-⟩,⟨Pm,cm,rfl,-⟩⟩:=hx
 obtain⟨⟨Qk,dk,rfl,mk,-⟩,⟨Qs,ds,rfl,-⟩,⟨Qn,dn,rfl,-⟩,⟨Qm,dm,rfl,-⟩⟩:=hy
 rw[dx] at nk ⊢
 rw[dy] at mk ⊢
 obtain⟨A1,v1,rfl,hv1,-,g1⟩:=nk.at_ (k:=a) ha
 obtain⟨A2,v2,rfl,hv2,-,g2⟩:=mk.at_ (k:=a) ha
 have e1:valK x a=v1:=by unfold valK;rw[hv1];rfl
 have e2:valK y a=v2:=by unfold valK;rw[hv2];rfl
 rw[e1,e2]
 have hcm:=fun W=>cmp_any v1 v2 W
 obtain⟨cq,hcq⟩:∃ z,z=cmpI v1 v2:=⟨_,rfl⟩
 rw[← hcq] at hcm ⊢
 have HCM:=Lib.hid hcm
 have a0:(0:Int)≤(a:Int):=by omega
 have a1:(a:Int)<(d:Int):=by omega
 obtain⟨c1,f1⟩:∃ z,z=x.cnt:=⟨_,rfl⟩
 obtain⟨l2,f2⟩:∃ z,z=x.sum.length:=⟨_,rfl⟩
 obtain⟨l3,f3⟩:∃ z,z=x.mn.length:=⟨_,rfl⟩
 obtain⟨l4,f4⟩:∃ z,z=x.mx.length:=⟨_,rfl⟩
 obtain⟨c2,h1⟩:∃ z,z=y.cnt:=⟨_,rfl⟩
 obtain⟨m2,h2⟩:∃ z,z=y.sum.length:=⟨_,rfl⟩
 obtain⟨m3,h3⟩:∃ z,z=y.mn.length:=⟨_,rfl⟩
 obtain⟨m4,h4⟩:∃ z,z=y.mx.length:=⟨_,rfl⟩
 rw[← f1,← f2,← f3,← f4,← h1,← h2,← h3,← h4]
 clear hcm hcq e1 e2 hv1 hv2 nk mk dx dy f1 f2 f3 f4 h1 h2 h3 h4
 obtain⟨w1,hw1⟩:∃ w1,w1=w.alloc (.cells #[.slice (some A1) d ck,.int .i64 c1,.slice Ps l2 cs,.slice Pn l3 cn,.slice Pm l4 cm] 46):=⟨_,rfl⟩
 obtain⟨w2,hw2⟩:∃ w2,w2=w1.alloc (.cells #[.slice (some A2) d dk,.int .i64 c2,.slice Qs m2 ds,.slice Qn m3 dn,.slice Qm m4 dm] 46):=⟨_,rfl⟩
 have z1:w1.heap.size=w.heap.size+1:=by rw[hw1];simp
 have hb1:Below w.heap.size w w1:=by rw[hw1];exact (Go.RowKit.Below.refl _ w).alloc (Nat.le_refl _) _
 have hb2:Below w1.heap.size w1 w2:=by rw[hw2];exact (Go.RowKit.Below.refl _ w1).alloc (Nat.le_refl _) _
 have o1:Own 46 w1 w.heap.size [.slice (some A1) d ck,.int .i64 c1,.slice Ps l2 cs,.slice Pn l3 cn,.slice Pm l4 cm]:=by rw[hw1];exact heap_alloc_new w _
 have o2:Own 46 w2 w1.heap.size [.slice (some A2) d dk,.int .i64 c2,.slice Qs m2 ds,.slice Qn m3 dn,.slice Qm m4 dm]:=by rw[hw2];exact heap_alloc_new w1 _
 have kp:=(Keeps.of_below hb1).trans (Keeps.of_below hb2)
 have r0:=Keeps.of_below hb2 _ _ (o1.cell (i:=0) rfl)
 have t0:=o2.cell (i:=0) rfl
 rw[z1] at t0
 have g1':=kp _ _ g1
 have g2':=kp _ _ g2
 have hat':=kp _ _ hat
 have HG:Hid (∃ os,w2=grow w os):=Lib.hid ⟨_,by rw[hw2,hw1,alloc_eq_grow,alloc_eq_grow,grow_grow]⟩
 clear g1 g2 hat kp hb1 hb2 o1 o2 z1
 go_enter Tryz.func131,Tryz.ntmps131
 go_upto_region 1 with (fail)
 rw[← hw1,← hw2]
 clear hw1 hw2
 refine wp_region_held_drew (S:=fun W=>W.cell? ⟨w.heap.size,0,none⟩=some (.slice (some A1) d ck)∧W.cell? ⟨w.heap.size+1,0,none⟩=some (.slice (some A2) d dk)∧W.cell? (A1.add a)=some (.int .i64 v1)∧W.cell? (A2.add a)=some (.int .i64 v2)∧W.cell? atp=some (.int .i64 (a:Int))) (by kernel_rfl) ⟨r0,t0,g1',g2',hat'⟩ (fun hHeld=>?_)
 refine WTH (i:=0) (v:=?vpa0) ?ypa0 hHeld ?rpa0
 case ypa0=>(intro W hW;obtain⟨h0,h1,h2,h3,h4⟩:=hW;go_simp;first | done | with_reducible rfl)
 try simp only[SL,Act.put]
 refine WTH (i:=1) (v:=?vpa1) ?ypa1 hHeld ?rpa1
 case ypa1=>(intro W hW;obtain⟨h0,h1,h2,h3,h4⟩:=hW;go_simp;first | done | with_reducible rfl)
 try simp only[SL,Act.put]
 refine WTH (i:=2) (v:=?vpa2) ?ypa2 hHeld ?rpa2
 case ypa2=>(intro W hW;obtain⟨h0,h1,h2,h3,h4⟩:=hW;go_simp;first | done | with_reducible rfl)
 try simp only[SL,Act.put]
 refine WTH (i:=3) (v:=?vpa3) ?ypa3 hHeld ?rpa3
 case ypa3=>(intro W hW;obtain⟨h0,h1,h2,h3,h4⟩:=hW;go_simp;first | done | with_reducible rfl)
 try simp only[SL,Act.put]
 refine WTH (i:=4) (v:=?vpa4) ?ypa4 hHeld ?rpa4
 case ypa4=>(intro W hW;obtain⟨h0,h1,h2,h3,h4⟩:=hW;go_simp;first | done | with_reducible rfl)
 try simp only[SL,Act.put]
 refine WTH (i:=5) (v:=?vpa5) ?ypa5 hHeld ?rpa5
 case ypa5=>(intro W hW;obtain⟨h0,h1,h2,h3,h4⟩:=hW;go_simp;first | done | with_reducible rfl)
 try simp only[SL,Act.put]
 refine WTH (i:=6) (v:=?vpa6) ?ypa6 hHeld ?rpa6
 case ypa6=>(intro W hW;obtain⟨h0,h1,h2,h3,h4⟩:=hW;go_simp;first | done | with_reducible rfl)
 try simp only[SL,Act.put]
 refine WTH (i:=7) (v:=?vpa7) ?ypa7 hHeld ?rpa7
 case ypa7=>(intro W hW;obtain⟨h0,h1,h2,h3,h4⟩:=hW;go_simp;first | done | with_reducible rfl)
 try simp only[SL,Act.put]
 refine WTH (i:=8) (v:=?vpa8) ?ypa8 hHeld ?rpa8
 case ypa8=>(intro W hW;obtain⟨h0,h1,h2,h3,h4⟩:=hW;go_simp;first | done | with_reducible rfl)
 try simp only[SL,Act.put]
 refine WTH (i:=9) (v:=?vpa9) ?ypa9 hHeld ?rpa9
 case ypa9=>(intro W hW;obtain⟨h0,h1,h2,h3,h4⟩:=hW;go_simp;first | done | with_reducible rfl)
 try simp only[SL,Act.put]
 refine wpAnyH_ready (rs:=[10]) (by kernel_rfl) (by simp) ?_
 refine AllReadyH.cons rfl (fun K hK=>?_) (AllReadyH.nil)
 go_simp
 refine (HCM.out w2.drew).mono ?_
 rintro e9 w9 ⟨rfl,rfl⟩
 refine hK.out _ _ (hHeld) (fun hHeld=>?_)
 clear hK K
 try simp only[SL,Act.put]
 refine WTH (i:=11) (v:=?vpa11) ?ypa11 hHeld ?rpa11
 case ypa11=>(intro W hW;obtain⟨h0,h1,h2,h3,h4⟩:=hW;go_simp;first | done | with_reducible rfl)
 try simp only[SL,Act.put]
 refine wpAnyH_done (by kernel_rfl) ?_ _
 clear hHeld
 go_wp2
 go_ret
 obtain⟨os,hos⟩:=HG.out
 refine⟨rfl,1,os,?_⟩
 rw[hos];rfl
abbrev SP (Q:V5 × Cel→Prop):={ p:V5 × Cel // Q p }
def encS {Q:V5 × Cel→Prop} (p:SP Q):List Value:=p.1.1.l
theorem flat_atS {Q:V5 × Cel→Prop} [Inhabited (SP Q)] (d:Array (SP Q)) (j:Nat) (u:Value) (h:(flatV (d.toList.map fun p=>p.1.1))[j]? = some u):j<d.size*5∧(flatK encS 5 d)[j]! = u:=by
 have hj:j<d.size*5:=by
  have:=(List.getElem?_eq_some_iff.1 h).1
  rw[flatV_len] at this
  simpa using this
 refine⟨hj,?_⟩
 rw[get_flatK _ _ _ _ hj]
 have hi:j / 5<d.size:=by omega
 have hv:(d.toList.map fun p=>p.1.1)[j / 5]? = some (d[j / 5]!).1.1:=by
  rw[getElem!_pos d (j / 5) hi]
  simp[hi]
 obtain⟨f0,f1,f2,f3,f4⟩:=flatV_at hv
 unfold encS V5.l
 rcases (by omega:j % 5=0∨j % 5=1∨j % 5=2∨j % 5=3∨j % 5=4) with e | e | e | e | e <;> rw[e]
 ·rw[show j / 5*5=j by omega,h] at f0;injection f0 with f0;simp[f0]
 ·rw[show j / 5*5+1=j by omega,h] at f1;injection f1 with f1;simp[f1]
 ·rw[show j / 5*5+2=j by omega,h] at f2;injection f2 with f2;simp[f2]
 ·rw[show j / 5*5+3=j by omega,h] at f3;injection f3 with f3;simp[f3]
 ·rw[show j / 5*5+4=j by omega,h] at f4;injection f4 with f4;simp[f4]
theorem flat_someS {Q:V5 × Cel→Prop} [Inhabited (SP Q)] (d:Array (SP Q)) (j:Nat) (h:j<d.size*5):(flatV (d.toList.map fun p=>p.1.1))[j]? = some (flatK encS 5 d)[j]!:=by
 obtain⟨u,hu⟩:∃ u,(flatV (d.toList.map fun p=>p.1.1))[j]? = some u:=⟨_,List.getElem?_eq_getElem (by rw[flatV_len];simpa using h)⟩
 rw[hu,(flat_atS d j u hu).2]
def HoldsL (w:World) (blk off:Nat) (vs:List V5):Prop:=∀ j u,(flatV vs)[j]? = some u→w.cell? ⟨blk,off+j,none⟩=some u∧w.frozen? ⟨blk,off+j,none⟩=false
def Else (blk off n:Nat) (w w':World):Prop:=∀ p:Addr,p.block<w.heap.size→(p.block ≠ blk∨p.off<off∨off+n*5≤p.off)→w'.cell? p=w.cell? p∧w'.frozen? p=w.frozen? p
theorem sortWorld_else {α:Type} [Inhabited α] (enc:α→List Value) (blk off m:Nat) (d:Array α) (os:Array Obj) (w:World):Else blk off d.size w (sortWorldK enc 5 w blk off m d os):=fun p hp hc=>by
 unfold sortWorldK
 rw[cell?_grow _ _ _ (by rw[size_putRowK];exact hp),frozen?_grow _ _ _ (by rw[size_putRowK];exact hp)]
 unfold putRowK
 rw[frozen?_putRow,cell?_putRow_other _ _ _ _ _ _ (by rw[size_flatK];exact hc)]
 exact⟨rfl,rfl⟩
theorem tch_sortWorld {α:Type} [Inhabited α] (enc:α→List Value) (blk off m:Nat) (d:Array α) (os:Array Obj) (w:World):Tch (fun b=>b=blk) w (sortWorldK enc 5 w blk off m d os):=by
 unfold sortWorldK
 refine⟨rfl,rfl,rfl,?_,fun q hq hn=>?_⟩
 ·rw[size_grow,size_putRowK];exact Nat.le_add_right _ _
 ·rw[heap_grow_old _ _ (by rw[size_putRowK];exact hq)]
  simp only[putRowK,putRow,mapBlock,Array.getElem?_modify]
  rw[if_neg (fun e=>hn e.symm)]
  rfl
def TyC (w:World) (blk:Nat):Prop:=∃ cur,w.heap[blk]? = some (.cells cur 46 (0,0))
theorem TyC.of {w w':World} {blk:Nat} (h:TyC w blk) (e:w'.heap[blk]? = w.heap[blk]?):TyC w' blk:=by obtain⟨cur,hc⟩:=h;exact⟨cur,e.trans hc⟩
theorem TyC.lt {w:World} {blk:Nat} (h:TyC w blk):blk<w.heap.size:=by
 obtain⟨cur,hc⟩:=h
 exact (Array.getElem?_eq_some_iff.1 hc).1
theorem ty_sortWorld {α:Type} [Inhabited α] (enc:α→List Value) (blk off m:Nat) (d:Array α) (os:Array Obj) (w:World) (h:TyC w blk):TyC (sortWorldK enc 5 w blk off m d os) blk:=by
 have hl:=h.lt
 obtain⟨cur,hc⟩:=h
 unfold TyC sortWorldK
 rw[heap_grow_old _ _ (by rw[size_putRowK];exact hl)]
 have hc2:(Sort.ahead w m).heap[blk]? = some (.cells cur 46 (0,0)):=hc
 simp only[putRowK,putRow,mapBlock,Array.getElem?_modify,if_true,hc2,Option.map_some]
 exact⟨_,rfl⟩
abbrev QR (w0:World) (dd:Nat):V5 × Cel→Prop:=fun p=>Reads w0 p.1 p.2∧p.2.key.length=dd
theorem mk_sp {Q:V5 × Cel→Prop}:∀ {D:List (V5 × Cel)},(∀ p ∈ D,Q p)→∃ d:List (SP Q),d.map (fun p=>p.1)=D
 | [],_=>⟨[],rfl⟩
 | p :: D,h=>by
  obtain⟨d,hd⟩:=mk_sp (D:=D) fun q hq=>h q (by simp[hq])
  exact⟨⟨p,h p (by simp)⟩ :: d,by simp[hd]⟩
def cfS {Q:V5 × Cel→Prop} (a:Nat) (p q:SP Q):Int:=cmpI (valK p.1.2 a) (valK q.1.2 a)
theorem swoS {Q:V5 × Cel→Prop} (a:Nat):SWO (ltOf (cfS (Q:=Q) a)) where
 irrefl x:=by simp[ltOf,cfS,cmpI_self]
 trans x y z h1 h2:=by
  have a1:=cmpI_lt.1 (of_decide_eq_true h1)
  have b1:=cmpI_lt.1 (of_decide_eq_true h2)
  exact decide_eq_true (cmpI_lt.2 (by omega))
 ntrans x y z h1 h2:=by
  have a1:¬ valK x.1.2 a<valK y.1.2 a:=fun h=>of_decide_eq_false h1 (cmpI_lt.2 h)
  have b1:¬ valK y.1.2 a<valK z.1.2 a:=fun h=>of_decide_eq_false h2 (cmpI_lt.2 h)
  exact decide_eq_false fun h=>by have:=cmpI_lt.1 (show cmpI (valK x.1.2 a) (valK z.1.2 a)<0 from h);omega
set_option maxRecDepth 100000 in
set_option maxHeartbeats 1000000 in
theorem apsort_any (blk off n c a dd:Nat) (atp:Addr) (D:List (V5 × Cel)) (w0 w:World) (hQ:∀ p ∈ D,Reads w0 p.1 p.2∧p.2.key.length=dd) (hk:Keeps w0 w) (hD:D.length=n) (hn1:1≤n) (hn:n≤60) (hH:HoldsL w blk off (D.map (·.1))) (hb0:w0.heap.size≤blk)
  (ha:a<dd) (hat:w.cell? atp=some (.int .i64 a)) (hne:atp.block ≠ blk) :
  Calls Tryz.prog 130 #[.slice (some ⟨blk,off,none⟩) n c,.func (.func 131) #[] #[.pointer (some atp)]] w fun e w'=>(∃ v,e=.returned v)∧∃ mid:List (V5 × Cel),mid.Perm D∧RiseV a (mid.map (·.2))∧HoldsL w' blk off (mid.map (·.1))∧Else blk off n w w'∧Tch (fun b=>b=blk) w w'∧(TyC w blk→TyC w' blk):=by
 obtain⟨dl,hd1⟩:=mk_sp (Q:=QR w0 dd) hQ
 have hpos:0<dl.length:=by rw[← List.length_map (f:=fun p:SP _=>p.1),hd1,hD];exact hn1
 haveI:Inhabited (SP (QR w0 dd)):=⟨dl[0]⟩
 obtain⟨d,rfl⟩:∃ d:Array (SP (QR w0 dd)),dl=d.toList:=⟨dl.toArray,by simp⟩
 have hsz:d.size=n:=by rw[← hD,← hd1];simp
 have hv1:D.map (·.1)=d.toList.map fun p=>p.1.1:=by rw[← hd1,List.map_map];rfl
 have hHK:HoldsK encS 5 w blk off d:=fun j hj=>by
  rw[size_flatK] at hj
  exact hH j _ (by rw[hv1];exact flat_someS d j hj)
 have hgs:blk<w.heap.size:=by
  have:=(hHK 0 (by rw[size_flatK];omega)).1
  exact cell_lt this
 have hkX:∀ (m:Nat) (dk:Array (SP (QR w0 dd))) (os:Array Obj),Keeps w0 (sortWorldK encS 5 w blk off m dk os):=fun m dk os p v hp=>by
  have hlt:=cell_lt hp
  have hlw:=cell_lt (hk p v hp)
  rw[(sortWorld_else encS blk off m dk os w p hlw (.inl (by omega))).1]
  exact hk p v hp
 have hcmp:CmpLays Tryz.prog 131 #[.pointer (some atp)] encS 5 (cfS a) blk off d.size w:=fun m os dk _ (x y:SP (QR w0 dd))=>by
  obtain⟨⟨⟨a1,b1,s,n,mm⟩,cx⟩,⟨h1,h2,h3⟩,hx⟩:=x
  obtain⟨⟨⟨a',b',s',n',mm'⟩,cy⟩,⟨h1',h2',h3'⟩,hy⟩:=y
  dsimp only at h1 h2 h1' h2' hx hy
  subst h1 h1'
  exact apcmp_any a1 s n mm a' s' n' mm' cx cy atp a dd (sortWorldK encS 5 w blk off m dk os) (h2.keep (hkX _ _ _)) (h2'.keep (hkX _ _ _)) hx hy ha (by rw[(sortWorld_else encS blk off m dk os w atp (cell_lt hat) (.inl hne)).1];exact hat)
 have hR:RowK encS 5 w blk off d:=⟨fun x=>rfl,fun x v hv=>x.2.1.one v hv,hHK,hgs⟩
 have hs:=Stab.stableP_any encS (cfS a) (swoS a) 131 #[.pointer (some atp)] blk off c d w (enters_of Tryz.func131 (by kernel_rfl) rfl) hcmp hR (by omega)
 rw[hsz] at hs
 have HI:=Lib.hid hs
 have FIN:=Lib.hid (fun (d':Array (SP (QR w0 dd))) (w3:World) (S:SWK encS 5 w blk off d' w3) (P:PermIn 0 n d d') (Q:SortedIn (ltOf (cfS a)) 0 n d')=>(show ∃ mid:List (V5 × Cel),mid.Perm D∧RiseV a (mid.map (·.2))∧HoldsL w3 blk off (mid.map (·.1))∧Else blk off n w w3∧Tch (fun b=>b=blk) w w3∧(TyC w blk→TyC w3 blk) from by
  have hs':d'.size=d.size:=P.1
  have hH':=S.holds hgs hHK hs'
  obtain⟨q,os,rfl⟩:=S
  refine⟨d'.toList.map fun p=>p.1,?_,?_,?_,by have:=sortWorld_else encS blk off q d' os w;rwa [hs',hsz] at this,tch_sortWorld encS blk off q d' os w,ty_sortWorld encS blk off q d' os w⟩
  ·rw[← hd1]
   have hp:=P.2.2
   rw[show n=d.size from hsz.symm] at hp
   have e1:(d.extract 0 d.size).toList=d.toList:=by simp
   have e2:(d'.extract 0 d.size).toList=d'.toList:=by rw[← hs'];simp
   rw[e1,e2] at hp
   exact hp.map _
  ·unfold RiseV
   rw[List.pairwise_iff_getElem]
   intro i j hi hj hij
   simp only[List.length_map,Array.length_toList] at hi hj
   have h:=Q i j (Nat.zero_le _) hij (by omega)
   rw[getElem!_pos d' i hi,getElem!_pos d' j hj] at h
   have h2:=of_decide_eq_false h
   unfold cfS at h2
   rw[cmpI_lt] at h2
   simp only[List.getElem_map,Array.getElem_toList]
   omega
  ·intro j u hu
   rw[List.map_map] at hu
   obtain⟨hj,e⟩:=flat_atS d' j u hu
   obtain⟨h1,h2⟩:=hH' j (by rw[size_flatK];exact hj)
   exact⟨by rw[h1,e];rfl,h2⟩))
 clear hs hk hQ hH hHK hgs hkX hcmp hR hd1 hv1 hsz
 go_enter Tryz.func130,Tryz.ntmps130
 go_wp2_with fail
 refine HI.out.mono ?_
 rintro e w3 ⟨rfl,d',S,P,Q⟩
 have F:=Lib.hid (FIN.out d' w3 S P Q)
 clear S P Q HI FIN
 go_wp2
 go_end0
 exact⟨⟨_,rfl⟩,F.out⟩
end Go.Proofs.YtnjlkhhcfiedbaaGreatDoor

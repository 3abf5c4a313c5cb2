import Derived.Deep.Onto
import Derived.IntWalk
import Derived.Test.YtnjlkhhcfiedbaaGreatDoorSl
import Derived.Test.YtnjlkhhcfiedbaaGreatDoorHshd
namespace Go.Proofs.YtnjlkhhcfiedbaaGreatDoor
open Go.RowKit
attribute [local go_sem] Oper.semAt_some
def cuts:List Nat→List Cel→List (List Cel)
 | [],_=>[]
 | n :: ns,L=>L.take n :: cuts ns (L.drop n)
def rowP (blk off c:Nat) (q:Int):Nat→List Nat→List Value
 | _,[]=>[]
 | s,n :: ns=>.slice (some ⟨blk,off+s*5,none⟩) n (c - s) :: .int .i64 q :: rowP blk off c q (s+n) ns
theorem rowP_len (blk off c:Nat) (q:Int):∀ (ns:List Nat) (s:Nat),(rowP blk off c q s ns).length=ns.length*2
 | [],_=>rfl
 | n :: ns,s=>by simp only[rowP,List.length_cons,rowP_len];omega
theorem rowP_snoc (blk off c:Nat) (q:Int) (m:Nat):∀ (ns:List Nat) (s:Nat),rowP blk off c q s (ns ++ [m])=rowP blk off c q s ns ++ [.slice (some ⟨blk,off+(s+ns.sum)*5,none⟩) m (c - (s+ns.sum)),.int .i64 q]
 | [],s=>by simp[rowP]
 | n :: ns,s=>by
  simp only[List.cons_append,rowP,List.sum_cons]
  rw[rowP_snoc blk off c q m ns (s+n),Nat.add_assoc]
theorem cuts_snoc (m:Nat):∀ (ns:List Nat) (L:List Cel),cuts (ns ++ [m]) L=cuts ns L ++ [(L.drop ns.sum).take m]
 | [],L=>by simp[cuts]
 | n :: ns,L=>by simp only[List.cons_append,cuts,cuts_snoc m ns,List.sum_cons,List.drop_drop]
theorem while_is {α:Type} (p:α→Bool):∀ (t:List α) (m:Nat),m≤t.length→(∀ j x,j<m→t[j]? = some x→p x=true)→(∀ x,t[m]? = some x→p x=false)→t.takeWhile p=t.take m∧t.dropWhile p=t.drop m
 | [],m,h,_,_=>by simp at h;subst h;simp
 | x :: t,0,_,_,h2=>by
  have:=h2 x rfl
  simp[this]
 | x :: t,m+1,h,h1,h2=>by
  have hx:=h1 0 x (by omega) rfl
  obtain⟨i1,i2⟩:=while_is p t m (by simpa using h) (fun j y hj hy=>h1 (j+1) y (by omega) (by simpa using hy)) (fun y hy=>h2 y (by simpa using hy))
  simp[hx,i1,i2]
theorem runs_step {a f m:Nat} {l:List Cel} {c:Cel} (hl:l[0]? = some c) (hm1:1≤m) (hm:m≤l.length) (h1:∀ j x,j<m→l[j]? = some x→valK x a=valK c a) (h2:∀ x,l[m]? = some x→valK x a ≠ valK c a):runsK a (f+1) l=l.take m :: runsK a f (l.drop m):=by
 match l,hl with
 | y :: t,hl =>
  simp only[List.getElem?_cons_zero,Option.some.injEq] at hl
  subst hl
  obtain⟨k,rfl⟩:∃ k,m=k+1:=⟨m - 1,by omega⟩
  obtain⟨i1,i2⟩:=while_is (fun x=>valK x a == valK y a) t k (by simpa using hm) (fun j x hj hx=>by rw[beq_iff_eq];exact h1 (j+1) x (by omega) (by simpa using hx)) (fun x hx=>by rw[beq_eq_false_iff_ne];exact h2 x (by simpa using hx))
  simp only[runsK,i1,i2,List.take_succ_cons,List.drop_succ_cons]
theorem runs_nilH (a:Nat):∀ f,runsK a f []=[]
 | 0=>rfl
 | _+1=>rfl
theorem infoPt:(Tryz.prog.info? 104).map (fun i=>(i.zero,i.size,i.bytes))=some (some (.agg #[.slice none 0 0,.int .i64 0]),2,32):=by kernel_rfl
theorem addO (b o j:Nat):(Addr.add ⟨b,o,none⟩ j)=⟨b,o+j,none⟩:=by
 unfold Addr.add
 split
 ·simp[*]
 ·simp
theorem HoldsL.cellsR {w:World} {blk off:Nat} {D:List (V5 × Cel)} (h:HoldsL w blk off (D.map (·.1))) (hQ:∀ p ∈ D,Reads w p.1 p.2):CellsR w ⟨blk,off,none⟩ (D.map (·.2)) :=
 cells_of_vals (vs:=D.map (·.1)) ⟨by simp,fun i v x hv hx=>by
  simp only[List.getElem?_map,Option.map_eq_some_iff] at hv hx
  obtain⟨p,hp,rfl⟩:=hv
  obtain⟨p',hp',rfl⟩:=hx
  rw[hp] at hp'
  injection hp' with hp'
  subst hp'
  exact hQ p (List.mem_of_getElem? hp)⟩ fun j u hu=>by
  rw[addO]
  exact (h j u hu).1
theorem append_pt {B1:Nat} {X:World} {v a b:Value} {xs:List Value} {k:Nat} (ho:X.ownsRow B1 104 2 v k xs) (ha:a.oneCell'=true) (hb1:b.oneCell'=true) (hl:k+1≤1000000) (hB:B1≤X.heap.size) :
  ∃ g c X3,(Builtin.append_ #[132,132] 132 #[v,.slice (some ⟨X.heap.size,0,none⟩) 1 1]).run Tryz.prog (X.alloc (.cells #[a,b] 104))=.ok (.slice (some ⟨g,0,none⟩) (k+1) c) X3∧X3.ownsRow B1 104 2 (.slice (some ⟨g,0,none⟩) (k+1) c) (k+1) (xs ++ [a,b]) ∧
   Below B1 X X3:=by
 have hb:Below X.heap.size X (X.alloc (.cells #[a,b] 104)):=(Below.refl _ _).alloc (Nat.le_refl _) _
 obtain⟨i0,hi,hz0,hz1,hz2⟩:=info_parts infoPt
 have ho2:=own_below ho hb (Nat.le_refl _)
 obtain⟨v',X3,hrun,hr,hg,-,-⟩:=run_append_own_at (P:=Tryz.prog) (X.alloc (.cells #[a,b] 104)) B1 132 132 104 i0 _ 2 32 Tryz.underlying132 hi hz0 hz1 hz2 rfl (by omega) v k xs ho2 ⟨X.heap.size,0,none⟩ 1 1 [a,b] rfl
  (fun j w hw=>by
   rw[add0,show (X.alloc (.cells #[a,b] 104)).cell? ⟨X.heap.size,j,none⟩=#[a,b][j]? from cell_of_row _ _ _ _ 104 (0,0) (heap_alloc_new X _)]
   simpa using hw) (by intro u hu;simp only[List.mem_cons,List.mem_nil_iff,or_false] at hu;rcases hu with rfl | rfl <;> assumption) (by simp only[maxLen];omega) (by omega) (by simp;omega)
 obtain⟨g,c,e⟩:=ownsRow_succ hr
 subst e
 refine⟨g,c,X3,hrun,hr,(hb.mono hB).grown hg (by simp;omega) fun j e=>?_⟩
 have:=(ho.lt j e).1
 omega
set_option maxRecDepth 100000 in
set_option maxHeartbeats 4000000 in
theorem hapart_any (blk off n c a q dd:Nat) (D:List (V5 × Cel)) (w0 w:World) (hQ:∀ p ∈ D,Reads w0 p.1 p.2∧p.2.key.length=dd) (hk:Keeps w0 w) (hD:D.length=n) (hn1:1≤n) (hn:n≤60) (hc:n≤c) (hH:HoldsL w blk off (D.map (·.1))) (hb0:w0.heap.size≤blk)
  (haq:a≤q) (hqd:q<dd) (hdd:dd≤1000) (hal:∀ p,a≤p→p<q→alikeB (D.map (·.2)) p=true) (hno:alikeB (D.map (·.2)) q=false) :
  Calls Tryz.prog 104 #[.agg #[.slice (some ⟨blk,off,none⟩) n c,.int .i64 a]] w fun e w'=>∃ (v:Value) (ns:List Nat) (mid:List (V5 × Cel)),e=.returned v∧mid.Perm D∧RiseV q (mid.map (·.2))∧cuts ns (mid.map (·.2))=runsK q n (mid.map (·.2))∧ns.sum=n∧(∀ m ∈ ns,1≤m)∧w'.ownsRow w.heap.size 104 2 v ns.length (rowP blk off c ((q:Int)+1) 0 ns)∧HoldsL w' blk off (mid.map (·.1))∧Else blk off n w w'∧Tch (fun b=>b=blk) w w'∧(TyC w blk→TyC w' blk):=by
 have hlt0:blk<w.heap.size:=by
  obtain⟨u,hu⟩:∃ u,(flatV (D.map (·.1)))[0]? = some u:=⟨_,List.getElem?_eq_getElem (by rw[flatV_len,List.length_map];omega)⟩
  exact block_lt (hH 0 u hu).1
 obtain⟨w1,hw1⟩:∃ w1,w1=w.alloc (.cells #[.slice (some ⟨blk,off,none⟩) n c,.int .i64 a] 104):=⟨_,rfl⟩
 have o1:Own 104 w1 w.heap.size [.slice (some ⟨blk,off,none⟩) n c,.int .i64 a]:=by rw[hw1];exact heap_alloc_new w _
 have hb1:Below w.heap.size w w1:=by rw[hw1];exact (Below.refl _ w).alloc (Nat.le_refl _) _
 have stH:∀ (W W':World) (vs:List V5),Below W.heap.size W W'→HoldsL W blk off vs→HoldsL W' blk off vs:=fun W W' vs hb h j u hu=>by
  have hl:=block_lt (h j u hu).1
  exact⟨by rw[hb.cell (by exact hl)];exact (h j u hu).1,by rw[hb.frozen (by exact hl)];exact (h j u hu).2⟩
 have elO:∀ (W W':World),Below W.heap.size W W'→Else blk off n W W':=fun W W' hb p hp _=>⟨hb.cell hp,hb.frozen hp⟩
 have HPT:=Lib.hid (hparting_any ⟨blk,off,none⟩ c n (D.map (·.2)) dd a q w1 ((stH _ _ _ hb1 hH).cellsR fun p hp=>(hQ p hp).1.keep (hk.trans (Keeps.of_below hb1))) (by rw[List.length_map,hD]) (fun x hx=>by obtain⟨p,hp,rfl⟩:=List.mem_map.1 hx;exact (hQ p hp).2) haq hqd hdd (by omega) hal hno)
 have HST:=Lib.hid (fun (W:World) (hb:Below w.heap.size w W) (atp:Addr) (hat:W.cell? atp=some (.int .i64 q)) (hne:atp.block ≠ blk)=>apsort_any blk off n c q dd atp D w0 W hQ (hk.trans (Keeps.of_below hb)) hD hn1 hn (stH _ _ _ hb hH) hb0 hqd hat hne)
 have HB1:=Lib.hid hb1
 have HQ:=Lib.hid hQ
 have HK:=Lib.hid hk
 have HD:=Lib.hid hD
 have HSH:=Lib.hid stH
 have HEO:=Lib.hid elO
 obtain⟨b,eb⟩:∃ b,b=w.heap.size:=⟨_,rfl⟩
 rw[← eb] at o1
 have O1:=Lib.hid o1
 have Eb:=Lib.hid eb
 have hbb:b ≠ blk:=by omega
 clear stH elO hQ hk hD hH hal hno hb1 o1
 go_enter Tryz.func104,Tryz.ntmps104
 go_upto_region 1 with (fail)
 rw[← hw1,← eb]
 clear hw1 eb
 have s0:=O1.out.cell (i:=0) rfl
 have s1:=O1.out.cell (i:=1) rfl
 go_wp2_with fail
 clear s0 s1
 refine HPT.out.mono ?_
 rintro e w2 ⟨rfl,hb2⟩
 obtain⟨w3,hw3⟩:∃ w3,w3=w2.alloc (.cells #[.int .i64 (q:Int)] 3):=⟨_,rfl⟩
 have o3:Own 3 w3 w2.heap.size [.int .i64 (q:Int)]:=by rw[hw3];exact heap_alloc_new w2 _
 have hb3:Below w2.heap.size w2 w3:=by rw[hw3];exact (Below.refl _ w2).alloc (Nat.le_refl _) _
 have Hb03:=Lib.hid ((HB1.out.trans (hb2.mono HB1.out.size)).trans (hb3.mono (Nat.le_trans HB1.out.size hb2.size)))
 have hlt2:blk<w2.heap.size:=Nat.lt_of_lt_of_le hlt0 (Nat.le_trans HB1.out.size hb2.size)
 have Ob3:=Lib.hid ((O1.out.below hb2 O1.out.lt).below hb3 (Nat.lt_of_lt_of_le O1.out.lt hb2.size))
 have Z2:Hid (w1.heap.size≤w2.heap.size):=Lib.hid hb2.size
 obtain⟨atb,eat⟩:∃ atb,atb=w2.heap.size:=⟨_,rfl⟩
 have hab:atb ≠ blk:=by omega
 rw[← eat] at o3
 have Oa3:=Lib.hid o3
 have q0:=o3.cell (i:=0) rfl
 have HS3:=Lib.hid (HST.out w3 Hb03.out ⟨atb,0,none⟩ q0 hab)
 clear hb2 hb3 o3 HST HPT
 go_upto_region 2 with (fail)
 rw[← hw3,← eat]
 have Eat:=Lib.hid eat
 clear hw3 eat
 have s0:=Ob3.out.cell (i:=0) rfl
 go_wp2_with fail
 clear s0 q0
 refine HS3.out.mono ?_
 rintro e w4 ⟨⟨v0,rfl⟩,mid,hperm,hrise,hH4,hel,htc,hty⟩
 have hQm:∀ p ∈ mid,Reads w0 p.1 p.2∧p.2.key.length=dd:=fun p hp=>HQ.out p (hperm.mem_iff.1 hp)
 have ml:mid.length=n:=by rw[hperm.length_eq,HD.out]
 have HL4:Hid (CellsR w4 ⟨blk,off,none⟩ (mid.map (·.2))):=Lib.hid (hH4.cellsR fun p hp=>(hQm p hp).1.keep (fun p v hv=>by
  have h1:=HK.out p v hv
  have h2:=Keeps.of_below Hb03.out p v h1
  rw[World.cell?_of_block (htc.block p.block (block_lt h2) (by have:=block_lt hv;omega))]
  exact h2))
 have HDL:Hid (∀ x ∈ mid.map (·.2),x.key.length=dd):=Lib.hid (fun x hx=>by obtain⟨p,hp,rfl⟩:=List.mem_map.1 hx;exact (hQm p hp).2)
 obtain⟨L,hL⟩:∃ L,L=mid.map (·.2):=⟨_,rfl⟩
 have hLn:L.length=n:=by rw[hL,List.length_map,ml]
 rw[← hL] at HL4 HDL hrise
 have HLN:=Lib.hid hLn
 have Ob4:Hid (Own 104 w4 b [.slice (some ⟨blk,off,none⟩) n c,.int .i64 a]):=Lib.hid ((htc.block b Ob3.out.lt hbb).trans Ob3.out)
 have Oa4:Hid (Own 3 w4 atb [.int .i64 (q:Int)]):=Lib.hid ((htc.block atb Oa3.out.lt hab).trans Oa3.out)
 have Z4:Hid (w.heap.size≤w4.heap.size):=Lib.hid (Nat.le_trans Hb03.out.size htc.size)
 have HPE:=Lib.hid hperm
 have HRI:=Lib.hid hrise
 have HH4:=Lib.hid hH4
 have HEL:Hid (Else blk off n w w4):=Lib.hid (fun p hp hc=>by
  obtain⟨e1,e2⟩:=HEO.out _ _ Hb03.out p hp hc
  obtain⟨f1,f2⟩:=hel p (Nat.lt_of_lt_of_le hp Hb03.out.size) hc
  exact⟨f1.trans e1,f2.trans e2⟩)
 have HTC:Hid (Tch (fun b=>b=blk) w w4):=Lib.hid ((Tch.of_below _ Hb03.out).same htc)
 have HML:=Lib.hid hL
 have HTY:Hid (TyC w blk→TyC w4 blk):=Lib.hid (fun h=>hty (h.of (Hb03.out.block blk hlt0)))
 clear hty hperm hrise hH4 hel htc hQm ml hL hLn HS3
 have s0:=Ob4.out.cell (i:=0) rfl
 go_wp2_with fail
 clear s0
 go_loopw [4,5] (fun ps rs wr=>∃ (ns:List Nat) (s r cr:Nat) (ad:Addr),s=ns.sum∧s+r=n∧s+cr=c∧ns.length≤s∧rs=.slice (some ad) r cr∧(0<r→ad=⟨blk,off+s*5,none⟩)∧(∀ m ∈ ns,1≤m)∧wr.ownsRow w4.heap.size 104 2 ps ns.length (rowP blk off c ((q:Int)+1) 0 ns)∧cuts ns L ++ runsK q (n - ns.length) (L.drop s)=runsK q n L∧Below w4.heap.size w4 wr) (fun _ rs _=>match rs with | .slice _ r _=>r | _=>0)
 case atStart =>
  exact⟨[],0,n,c,⟨blk,off,none⟩,rfl,by omega,by omega,by simp,rfl,fun _=>by simp,by simp,World.ownsRow_nil _ _ _ _,by simp[cuts],Below.refl _ _⟩
 case round =>
  obtain⟨ns,s,r,cr,ad,hs,hsr,hsc,hnl,rfl,had,hm1,ho,hcu,hb⟩:=hrel
  rename World=>wr
  by_cases hr0:0<r
  ·have r0:(0:Int)<(r:Int):=by omega
   have d0:decide ((0:Int)<(r:Int))=true:=decide_eq_true r0
   have d0':decide (0<r)=true:=decide_eq_true hr0
   obtain⟨c0,hc0⟩:∃ c0,(L.drop s)[0]? = some c0:=⟨_,List.getElem?_eq_getElem (by rw[List.length_drop,HLN.out];omega)⟩
   have HC0:=Lib.hid hc0
   have HLD:Hid (CellsR w4 ad (L.drop s)):=Lib.hid (by
    have:=HL4.out.drop s
    rw[addO] at this
    rw[had hr0]
    exact this)
   have HLDl:Hid ((L.drop s).length=r):=Lib.hid (by rw[List.length_drop,HLN.out];omega)
   have HAD:=Lib.hid (had hr0)
   have Hs:=Lib.hid hs
   have Ho:=Lib.hid ho
   have Hcu:=Lib.hid hcu
   have Hb:=Lib.hid hb
   have Hm1:=Lib.hid hm1
   obtain⟨R,hR⟩:∃ R,R=L.drop s:=⟨_,rfl⟩
   rw[← hR] at HC0 HLD HLDl
   have HR:=Lib.hid hR
   clear hc0 had ho hcu hb hs hm1 hR
   go_upto_block 2 with (fail)
   go_cut [6] (fun s6 wx=>∃ m:Nat,s6=.int .i64 m∧1≤m∧m≤r∧(∀ j x,j<m→R[j]? = some x→valK x q=valK c0 q)∧(∀ x,R[m]? = some x→valK x q ≠ valK c0 q)∧Below wr.heap.size wr wx)
   case first =>
    --<<
    go_wp2_with fail
    go_loopw [6] (fun s6 wx=>∃ m:Nat,s6=.int .i64 m∧1≤m∧m≤r∧(∀ j x,j<m→R[j]? = some x→valK x q=valK c0 q)∧Below wr.heap.size wr wx) (fun s6 _=>r - (intOf s6).toNat)
    case atStart=>exact⟨1,rfl,Nat.le_refl _,by omega,fun j x hj hx=>by
     obtain rfl:j=0:=by omega
     rw[HC0.out] at hx
     injection hx with hx
     rw[hx],Below.refl _ _⟩
    case round =>
     obtain⟨m,rfl,hm,hmr,hall,hbx⟩:=hrel
     rename World=>wx
     have HALL:=Lib.hid hall
     have Hbx:=Lib.hid hbx
     have q4:=Oa4.out.cell (i:=0) rfl
     have kx:=(Keeps.of_below Hb.out).trans (Keeps.of_below hbx)
     have qx:=kx _ _ q4
     have i0:(0:Int)≤(m:Int):=by omega
     by_cases hlt:m<r
     ·have i1:(m:Int)<(r:Int):=by omega
      have d1:decide ((m:Int)<(r:Int))=true:=decide_eq_true i1
      have d2:decide (m<r)=true:=decide_eq_true hlt
      obtain⟨x,hx⟩:∃ x,R[m]? = some x:=⟨_,List.getElem?_eq_getElem (by rw[HLDl.out];exact hlt)⟩
      have hc0:=HC0.out
      have hdx:=HDL.out x (List.mem_of_mem_drop (by rw[← HR.out];exact List.mem_of_getElem? hx))
      have hdy:=HDL.out c0 (List.mem_of_mem_drop (by rw[← HR.out];exact List.mem_of_getElem? hc0))
      obtain⟨vk,vs,vn,vm,p0,-,-,-,-,⟨⟨Pk,ck,rfl,nk,-⟩,-,-,-⟩,-⟩:=(HLD.out m x hx).keep kx
      have hy0:=(HLD.out 0 c0 hc0).keep kx
      rw[show ad.add (0*5)=ad from by simp[Addr.add]] at hy0
      obtain⟨uk,us,un,um,y0,-,-,-,-,⟨⟨Qk,dk,rfl,mk,-⟩,-,-,-⟩,-⟩:=hy0
      rw[hdx] at p0 nk
      rw[hdy] at y0 mk
      obtain⟨A1,v1,rfl,hv1,-,g1⟩:=nk.at_ (k:=q) hqd
      obtain⟨A2,v2,rfl,hv2,-,g2⟩:=mk.at_ (k:=q) hqd
      have e1:valK x q=v1:=by unfold valK;rw[hv1];rfl
      have e2:valK c0 q=v2:=by unfold valK;rw[hv2];rfl
      have j0:(0:Int)≤(q:Int):=by omega
      have j1:(q:Int)<(dd:Int):=by omega
      clear hv1 hv2 nk mk hdx hdy kx hbx hall hc0 q4
      by_cases hv:v1=v2
      ·have dv:(v1 == v2)=true:=by simp[hv]
       have HX:Hid (∀ j y,j<m+1→R[j]? = some y→valK y q=valK c0 q):=Lib.hid (fun j y hj hy=>by
        by_cases h:j<m
        ·exact HALL.out j y h hy
        ·obtain rfl:j=m:=by omega
         rw[hx] at hy
         injection hy with hy
         rw[← hy,e1,e2,hv])
       clear hx e1 e2 hv
       go_upto_region 7 with (fail)
       refine wp_region_held_drew (S:=fun W=>W.cell? (ad.add (m*5))=some (.slice (some A1) dd ck)∧W.cell? ad=some (.slice (some A2) dd dk)∧W.cell? ⟨atb,0,none⟩=some (.int .i64 (q:Int))∧W.cell? (A1.add q)=some (.int .i64 v1)∧W.cell? (A2.add q)=some (.int .i64 v2)) (by kernel_rfl) ⟨p0,y0,qx,g1,g2⟩ (fun hHeld=>?_)
       refine WTH (i:=0) (v:=?vpa0) ?ypa0 hHeld ?rpa0
       case ypa0=>(intro W hW;obtain⟨h0,h1,h2,h3,h4⟩:=hW;go_simp;first | done | with_reducible rfl)
       try simp only[SL,Act.put]
       refine WTH (i:=1) (v:=?vpa1) ?ypa1 hHeld ?rpa1
       case ypa1=>(intro W hW;obtain⟨h0,h1,h2,h3,h4⟩:=hW;go_simp;first | done | with_reducible rfl)
       try simp only[SL,Act.put]
       refine WTH (i:=2) (v:=?vpa2) ?ypa2 hHeld ?rpa2
       case ypa2=>(intro W hW;obtain⟨h0,h1,h2,h3,h4⟩:=hW;go_simp;first | done | with_reducible rfl)
       try simp only[SL,Act.put]
       refine WTH (i:=3) (v:=?vpa3) ?ypa3 hHeld ?rpa3
       case ypa3=>(intro W hW;obtain⟨h0,h1,h2,h3,h4⟩:=hW;go_simp;first | done | with_reducible rfl)
       try simp only[SL,Act.put]
       refine WTH (i:=4) (v:=?vpa4) ?ypa4 hHeld ?rpa4
       case ypa4=>(intro W hW;obtain⟨h0,h1,h2,h3,h4⟩:=hW;go_simp;first | done | with_reducible rfl)
       try simp only[SL,Act.put]
       refine WTH (i:=5) (v:=?vpa5) ?ypa5 hHeld ?rpa5
       case ypa5=>(intro W hW;obtain⟨h0,h1,h2,h3,h4⟩:=hW;go_simp;first | done | with_reducible rfl)
       try simp only[SL,Act.put]
       refine WTH (i:=6) (v:=?vpa6) ?ypa6 hHeld ?rpa6
       case ypa6=>(intro W hW;obtain⟨h0,h1,h2,h3,h4⟩:=hW;go_simp;first | done | with_reducible rfl)
       try simp only[SL,Act.put]
       refine WTH (i:=7) (v:=?vpa7) ?ypa7 hHeld ?rpa7
       case ypa7=>(intro W hW;obtain⟨h0,h1,h2,h3,h4⟩:=hW;go_simp;first | done | with_reducible rfl)
       try simp only[SL,Act.put]
       refine WTH (i:=8) (v:=?vpa8) ?ypa8 hHeld ?rpa8
       case ypa8=>(intro W hW;obtain⟨h0,h1,h2,h3,h4⟩:=hW;go_simp;first | done | with_reducible rfl)
       try simp only[SL,Act.put]
       refine WTH (i:=9) (v:=?vpa9) ?ypa9 hHeld ?rpa9
       case ypa9=>(intro W hW;obtain⟨h0,h1,h2,h3,h4⟩:=hW;go_simp;first | done | with_reducible rfl)
       try simp only[SL,Act.put]
       refine WTH (i:=10) (v:=?vpa10) ?ypa10 hHeld ?rpa10
       case ypa10=>(intro W hW;obtain⟨h0,h1,h2,h3,h4⟩:=hW;go_simp;first | done | with_reducible rfl)
       try simp only[SL,Act.put]
       refine WTH (i:=11) (v:=?vpa11) ?ypa11 hHeld ?rpa11
       case ypa11=>(intro W hW;obtain⟨h0,h1,h2,h3,h4⟩:=hW;go_simp;first | done | with_reducible rfl)
       try simp only[SL,Act.put]
       refine WTH (i:=12) (v:=?vpa12) ?ypa12 hHeld ?rpa12
       case ypa12=>(intro W hW;obtain⟨h0,h1,h2,h3,h4⟩:=hW;go_simp;first | done | with_reducible rfl)
       try simp only[SL,Act.put]
       refine WTH (i:=13) (v:=?vpa13) ?ypa13 hHeld ?rpa13
       case ypa13=>(intro W hW;obtain⟨h0,h1,h2,h3,h4⟩:=hW;go_simp;first | done | with_reducible rfl)
       try simp only[SL,Act.put]
       refine WTH (i:=14) (v:=?vpa14) ?ypa14 hHeld ?rpa14
       case ypa14=>(intro W hW;obtain⟨h0,h1,h2,h3,h4⟩:=hW;go_simp;first | done | with_reducible rfl)
       try simp only[SL,Act.put]
       refine WTH (i:=15) (v:=?vpa15) ?ypa15 hHeld ?rpa15
       case ypa15=>(intro W hW;obtain⟨h0,h1,h2,h3,h4⟩:=hW;go_simp;first | done | with_reducible rfl)
       try simp only[SL,Act.put]
       refine WTH (i:=16) (v:=?vpa16) ?ypa16 hHeld ?rpa16
       case ypa16=>(intro W hW;obtain⟨h0,h1,h2,h3,h4⟩:=hW;go_simp;first | done | with_reducible rfl)
       try simp only[SL,Act.put]
       refine WTH (i:=17) (v:=?vpa17) ?ypa17 hHeld ?rpa17
       case ypa17=>(intro W hW;obtain⟨h0,h1,h2,h3,h4⟩:=hW;go_simp;first | done | with_reducible rfl)
       try simp only[SL,Act.put]
       refine WTH (i:=18) (v:=?vpa18) ?ypa18 hHeld ?rpa18
       case ypa18=>(intro W hW;obtain⟨h0,h1,h2,h3,h4⟩:=hW;go_simp;first | done | with_reducible rfl)
       try simp only[SL,Act.put]
       refine WTH (i:=19) (v:=?vpa19) ?ypa19 hHeld ?rpa19
       case ypa19=>(intro W hW;obtain⟨h0,h1,h2,h3,h4⟩:=hW;go_simp;first | done | with_reducible rfl)
       try simp only[SL,Act.put]
       refine WTH (i:=20) (v:=?vpa20) ?ypa20 hHeld ?rpa20
       case ypa20=>(intro W hW;obtain⟨h0,h1,h2,h3,h4⟩:=hW;go_simp;first | done | with_reducible rfl)
       try simp only[SL,Act.put]
       refine WTH (i:=21) (v:=?vpa21) ?ypa21 hHeld ?rpa21
       case ypa21=>(intro W hW;obtain⟨h0,h1,h2,h3,h4⟩:=hW;go_simp;first | done | with_reducible rfl)
       try simp only[SL,Act.put]
       refine wpAnyH_done (by kernel_rfl) ?_ _
       clear hHeld p0 y0 qx g1 g2
       go_wp2
       go_roundw
       case rel=>exact⟨m+1,by go_num,by omega,by omega,HX.out,Hbx.out.drew⟩
       case measure=>simp[intOf];omega
      ·have dv:(v1 == v2)=false:=by simp[hv]
       have HX:Hid (∀ y,R[m]? = some y→valK y q ≠ valK c0 q):=Lib.hid (fun y hy=>by
        rw[hx] at hy
        injection hy with hy
        rw[← hy,e1,e2]
        exact hv)
       clear hx e1 e2 hv
       go_upto_region 7 with (fail)
       refine wp_region_held_drew (S:=fun W=>W.cell? (ad.add (m*5))=some (.slice (some A1) dd ck)∧W.cell? ad=some (.slice (some A2) dd dk)∧W.cell? ⟨atb,0,none⟩=some (.int .i64 (q:Int))∧W.cell? (A1.add q)=some (.int .i64 v1)∧W.cell? (A2.add q)=some (.int .i64 v2)) (by kernel_rfl) ⟨p0,y0,qx,g1,g2⟩ (fun hHeld=>?_)
       refine WTH (i:=0) (v:=?vpb0) ?ypb0 hHeld ?rpb0
       case ypb0=>(intro W hW;obtain⟨h0,h1,h2,h3,h4⟩:=hW;go_simp;first | done | with_reducible rfl)
       try simp only[SL,Act.put]
       refine WTH (i:=1) (v:=?vpb1) ?ypb1 hHeld ?rpb1
       case ypb1=>(intro W hW;obtain⟨h0,h1,h2,h3,h4⟩:=hW;go_simp;first | done | with_reducible rfl)
       try simp only[SL,Act.put]
       refine WTH (i:=2) (v:=?vpb2) ?ypb2 hHeld ?rpb2
       case ypb2=>(intro W hW;obtain⟨h0,h1,h2,h3,h4⟩:=hW;go_simp;first | done | with_reducible rfl)
       try simp only[SL,Act.put]
       refine WTH (i:=3) (v:=?vpb3) ?ypb3 hHeld ?rpb3
       case ypb3=>(intro W hW;obtain⟨h0,h1,h2,h3,h4⟩:=hW;go_simp;first | done | with_reducible rfl)
       try simp only[SL,Act.put]
       refine WTH (i:=4) (v:=?vpb4) ?ypb4 hHeld ?rpb4
       case ypb4=>(intro W hW;obtain⟨h0,h1,h2,h3,h4⟩:=hW;go_simp;first | done | with_reducible rfl)
       try simp only[SL,Act.put]
       refine WTH (i:=5) (v:=?vpb5) ?ypb5 hHeld ?rpb5
       case ypb5=>(intro W hW;obtain⟨h0,h1,h2,h3,h4⟩:=hW;go_simp;first | done | with_reducible rfl)
       try simp only[SL,Act.put]
       refine WTH (i:=6) (v:=?vpb6) ?ypb6 hHeld ?rpb6
       case ypb6=>(intro W hW;obtain⟨h0,h1,h2,h3,h4⟩:=hW;go_simp;first | done | with_reducible rfl)
       try simp only[SL,Act.put]
       refine WTH (i:=7) (v:=?vpb7) ?ypb7 hHeld ?rpb7
       case ypb7=>(intro W hW;obtain⟨h0,h1,h2,h3,h4⟩:=hW;go_simp;first | done | with_reducible rfl)
       try simp only[SL,Act.put]
       refine WTH (i:=8) (v:=?vpb8) ?ypb8 hHeld ?rpb8
       case ypb8=>(intro W hW;obtain⟨h0,h1,h2,h3,h4⟩:=hW;go_simp;first | done | with_reducible rfl)
       try simp only[SL,Act.put]
       refine WTH (i:=9) (v:=?vpb9) ?ypb9 hHeld ?rpb9
       case ypb9=>(intro W hW;obtain⟨h0,h1,h2,h3,h4⟩:=hW;go_simp;first | done | with_reducible rfl)
       try simp only[SL,Act.put]
       refine WTH (i:=10) (v:=?vpb10) ?ypb10 hHeld ?rpb10
       case ypb10=>(intro W hW;obtain⟨h0,h1,h2,h3,h4⟩:=hW;go_simp;first | done | with_reducible rfl)
       try simp only[SL,Act.put]
       refine WTH (i:=11) (v:=?vpb11) ?ypb11 hHeld ?rpb11
       case ypb11=>(intro W hW;obtain⟨h0,h1,h2,h3,h4⟩:=hW;go_simp;first | done | with_reducible rfl)
       try simp only[SL,Act.put]
       refine WTH (i:=12) (v:=?vpb12) ?ypb12 hHeld ?rpb12
       case ypb12=>(intro W hW;obtain⟨h0,h1,h2,h3,h4⟩:=hW;go_simp;first | done | with_reducible rfl)
       try simp only[SL,Act.put]
       refine WTH (i:=13) (v:=?vpb13) ?ypb13 hHeld ?rpb13
       case ypb13=>(intro W hW;obtain⟨h0,h1,h2,h3,h4⟩:=hW;go_simp;first | done | with_reducible rfl)
       try simp only[SL,Act.put]
       refine WTH (i:=14) (v:=?vpb14) ?ypb14 hHeld ?rpb14
       case ypb14=>(intro W hW;obtain⟨h0,h1,h2,h3,h4⟩:=hW;go_simp;first | done | with_reducible rfl)
       try simp only[SL,Act.put]
       refine WTH (i:=15) (v:=?vpb15) ?ypb15 hHeld ?rpb15
       case ypb15=>(intro W hW;obtain⟨h0,h1,h2,h3,h4⟩:=hW;go_simp;first | done | with_reducible rfl)
       try simp only[SL,Act.put]
       refine WTH (i:=16) (v:=?vpb16) ?ypb16 hHeld ?rpb16
       case ypb16=>(intro W hW;obtain⟨h0,h1,h2,h3,h4⟩:=hW;go_simp;first | done | with_reducible rfl)
       try simp only[SL,Act.put]
       refine WTH (i:=17) (v:=?vpb17) ?ypb17 hHeld ?rpb17
       case ypb17=>(intro W hW;obtain⟨h0,h1,h2,h3,h4⟩:=hW;go_simp;first | done | with_reducible rfl)
       try simp only[SL,Act.put]
       refine WTH (i:=18) (v:=?vpb18) ?ypb18 hHeld ?rpb18
       case ypb18=>(intro W hW;obtain⟨h0,h1,h2,h3,h4⟩:=hW;go_simp;first | done | with_reducible rfl)
       try simp only[SL,Act.put]
       refine WTH (i:=19) (v:=?vpb19) ?ypb19 hHeld ?rpb19
       case ypb19=>(intro W hW;obtain⟨h0,h1,h2,h3,h4⟩:=hW;go_simp;first | done | with_reducible rfl)
       try simp only[SL,Act.put]
       refine WTH (i:=20) (v:=?vpb20) ?ypb20 hHeld ?rpb20
       case ypb20=>(intro W hW;obtain⟨h0,h1,h2,h3,h4⟩:=hW;go_simp;first | done | with_reducible rfl)
       try simp only[SL,Act.put]
       refine WTH (i:=21) (v:=?vpb21) ?ypb21 hHeld ?rpb21
       case ypb21=>(intro W hW;obtain⟨h0,h1,h2,h3,h4⟩:=hW;go_simp;first | done | with_reducible rfl)
       try simp only[SL,Act.put]
       refine wpAnyH_done (by kernel_rfl) ?_ _
       clear hHeld p0 y0 qx g1 g2
       go_wp2
       go_meet
       exact⟨m,rfl,hm,hmr,HALL.out,HX.out,Hbx.out.drew⟩
     ·obtain rfl:m=r:=by omega
      have d1:decide ((m:Int)<(m:Int))=false:=by simp
      have d2:decide (m<m)=false:=by simp
      have HX:Hid (∀ y,R[m]? = some y→valK y q ≠ valK c0 q):=Lib.hid (fun y hy=>by
       have:=(List.getElem?_eq_some_iff.1 hy).1
       rw[HLDl.out] at this
       omega)
      clear q4 kx qx hbx hall
      go_upto_region 7 with (fail)
      refine wp_region_held_drew (S:=fun _=>True) (by kernel_rfl) trivial (fun hHeld=>?_)
      refine WTH (i:=0) (v:=?vpc0) ?ypc0 hHeld ?rpc0
      case ypc0=>(intro W hW;obtain hW:=hW;go_simp;first | done | with_reducible rfl)
      try simp only[SL,Act.put]
      refine WTH (i:=1) (v:=?vpc1) ?ypc1 hHeld ?rpc1
      case ypc1=>(intro W hW;obtain hW:=hW;go_simp;first | done | with_reducible rfl)
      try simp only[SL,Act.put]
      refine WTH (i:=2) (v:=?vpc2) ?ypc2 hHeld ?rpc2
      case ypc2=>(intro W hW;obtain hW:=hW;go_simp;first | done | with_reducible rfl)
      try simp only[SL,Act.put]
      refine WTH (i:=3) (v:=?vpc3) ?ypc3 hHeld ?rpc3
      case ypc3=>(intro W hW;obtain hW:=hW;go_simp;first | done | with_reducible rfl)
      try simp only[SL,Act.put]
      refine WTH (i:=4) (v:=?vpc4) ?ypc4 hHeld ?rpc4
      case ypc4=>(intro W hW;obtain hW:=hW;go_simp;first | done | with_reducible rfl)
      try simp only[SL,Act.put]
      refine wpAnyH_take (i:=5) (v:=undef) rfl (by kernel_rfl) (by kernel_rfl) (by kernel_rfl) (fun _ _ _ h=>h) (Or.inr ⟨by rfl,rfl⟩) hHeld ?rpc5
      try simp only[SL,Act.put]
      refine wpAnyH_take (i:=6) (v:=undef) rfl (by kernel_rfl) (by kernel_rfl) (by kernel_rfl) (fun _ _ _ h=>h) (Or.inr ⟨by rfl,rfl⟩) hHeld ?rpc6
      try simp only[SL,Act.put]
      refine wpAnyH_take (i:=7) (v:=undef) rfl (by kernel_rfl) (by kernel_rfl) (by kernel_rfl) (fun _ _ _ h=>h) (Or.inr ⟨by rfl,rfl⟩) hHeld ?rpc7
      try simp only[SL,Act.put]
      refine wpAnyH_take (i:=8) (v:=undef) rfl (by kernel_rfl) (by kernel_rfl) (by kernel_rfl) (fun _ _ _ h=>h) (Or.inr ⟨by rfl,rfl⟩) hHeld ?rpc8
      try simp only[SL,Act.put]
      refine wpAnyH_take (i:=9) (v:=undef) rfl (by kernel_rfl) (by kernel_rfl) (by kernel_rfl) (fun _ _ _ h=>h) (Or.inr ⟨by rfl,rfl⟩) hHeld ?rpc9
      try simp only[SL,Act.put]
      refine wpAnyH_take (i:=10) (v:=undef) rfl (by kernel_rfl) (by kernel_rfl) (by kernel_rfl) (fun _ _ _ h=>h) (Or.inr ⟨by rfl,rfl⟩) hHeld ?rpc10
      try simp only[SL,Act.put]
      refine wpAnyH_take (i:=11) (v:=undef) rfl (by kernel_rfl) (by kernel_rfl) (by kernel_rfl) (fun _ _ _ h=>h) (Or.inr ⟨by rfl,rfl⟩) hHeld ?rpc11
      try simp only[SL,Act.put]
      refine wpAnyH_take (i:=12) (v:=undef) rfl (by kernel_rfl) (by kernel_rfl) (by kernel_rfl) (fun _ _ _ h=>h) (Or.inr ⟨by rfl,rfl⟩) hHeld ?rpc12
      try simp only[SL,Act.put]
      refine wpAnyH_take (i:=13) (v:=undef) rfl (by kernel_rfl) (by kernel_rfl) (by kernel_rfl) (fun _ _ _ h=>h) (Or.inr ⟨by rfl,rfl⟩) hHeld ?rpc13
      try simp only[SL,Act.put]
      refine wpAnyH_take (i:=14) (v:=undef) rfl (by kernel_rfl) (by kernel_rfl) (by kernel_rfl) (fun _ _ _ h=>h) (Or.inr ⟨by rfl,rfl⟩) hHeld ?rpc14
      try simp only[SL,Act.put]
      refine wpAnyH_take (i:=15) (v:=undef) rfl (by kernel_rfl) (by kernel_rfl) (by kernel_rfl) (fun _ _ _ h=>h) (Or.inr ⟨by rfl,rfl⟩) hHeld ?rpc15
      try simp only[SL,Act.put]
      refine wpAnyH_take (i:=16) (v:=undef) rfl (by kernel_rfl) (by kernel_rfl) (by kernel_rfl) (fun _ _ _ h=>h) (Or.inr ⟨by rfl,rfl⟩) hHeld ?rpc16
      try simp only[SL,Act.put]
      refine wpAnyH_take (i:=17) (v:=undef) rfl (by kernel_rfl) (by kernel_rfl) (by kernel_rfl) (fun _ _ _ h=>h) (Or.inr ⟨by rfl,rfl⟩) hHeld ?rpc17
      try simp only[SL,Act.put]
      refine wpAnyH_take (i:=18) (v:=undef) rfl (by kernel_rfl) (by kernel_rfl) (by kernel_rfl) (fun _ _ _ h=>h) (Or.inr ⟨by rfl,rfl⟩) hHeld ?rpc18
      try simp only[SL,Act.put]
      refine wpAnyH_take (i:=19) (v:=undef) rfl (by kernel_rfl) (by kernel_rfl) (by kernel_rfl) (fun _ _ _ h=>h) (Or.inr ⟨by rfl,rfl⟩) hHeld ?rpc19
      try simp only[SL,Act.put]
      refine wpAnyH_take (i:=20) (v:=undef) rfl (by kernel_rfl) (by kernel_rfl) (by kernel_rfl) (fun _ _ _ h=>h) (Or.inr ⟨by rfl,rfl⟩) hHeld ?rpc20
      try simp only[SL,Act.put]
      refine WTH (i:=21) (v:=?vpc21) ?ypc21 hHeld ?rpc21
      case ypc21=>(intro W hW;obtain hW:=hW;go_simp;first | done | with_reducible rfl)
      try simp only[SL,Act.put]
      refine wpAnyH_done (by kernel_rfl) ?_ _
      clear hHeld
      go_wp2
      go_meet
      exact⟨m,rfl,hm,hmr,HALL.out,HX.out,Hbx.out.drew⟩
    -->>
   case rest =>
    obtain⟨m,rfl,hm,hmr,hall,hex,hbx⟩:=hcut
    rename World=>wx
    obtain⟨f,hf⟩:∃ f,n - ns.length=f+1:=⟨n - ns.length - 1,by omega⟩
    have hcu2:cuts (ns ++ [m]) L ++ runsK q (n - (ns ++ [m]).length) (L.drop (s+m))=runsK q n L:=by
     have h1:=Hcu.out
     have h2:runsK q (f+1) R=R.take m :: runsK q f (R.drop m):=runs_step HC0.out hm (by rw[HLDl.out];exact hmr) hall hex
     rw[hf,← HR.out,h2] at h1
     rw[cuts_snoc,← Hs.out,← HR.out,← h1,List.length_append,List.length_singleton,show n - (ns.length+1)=f by omega,← List.drop_drop,← HR.out,List.append_assoc]
     rfl
    have hsum:s+m=(ns ++ [m]).sum:=by rw[List.sum_append,← Hs.out];simp
    have hm12:∀ k ∈ ns ++ [m],1≤k:=fun k hk=>by
     rcases List.mem_append.1 hk with h | h
     ·exact Hm1.out k h
     ·rw[List.mem_singleton] at h;omega
    have hro:rowP blk off c ((q:Int)+1) 0 (ns ++ [m])=rowP blk off c ((q:Int)+1) 0 ns ++ [.slice (some ad) m cr,.int .i64 ((q:Int)+1)]:=by
     rw[rowP_snoc,← Hs.out,Nat.zero_add,← HAD.out,show c - s=cr by omega]
    have ho:=own_below Ho.out hbx.drew (Nat.le_refl _)
    obtain⟨g,cp,X3,hrun,hr3,hb3⟩:=append_pt (a:=.slice (some ad) m cr) (b:=.int .i64 ((q:Int)+1)) ho rfl rfl (by omega) (Nat.le_trans Hb.out.size hbx.size)
    rw[← hro] at hr3
    have hwr:IntKind.i64.wrap ((q:Int)+1)=(q:Int)+1:=IntWalk.i64_in _ (by omega)
    have q4:=Oa4.out.cell (i:=0) rfl
    have qx:=(Keeps.of_below hbx) _ _ ((Keeps.of_below Hb.out) _ _ q4)
    have q3:X3.cell? ⟨atb,0,none⟩=some (.int .i64 (q:Int)):=by rw[hb3.cell (block_lt q4)];exact qx
    have hcm:m≤cr:=by omega
    have m0:(0:Int)≤(m:Int):=by omega
    have m1:(m:Int)≤(cr:Int):=by omega
    have m2:(m:Int)≤(r:Int):=by omega
    have Hrun:=Lib.hid (show (Builtin.append_ #[132,132] 132 #[u4,.slice (some ⟨wx.heap.size,0,none⟩) 1 1]).run Tryz.prog (wx.drew.alloc (.cells #[.slice (some ad) m cr,.int .i64 ((q:Int)+1)] 104))=.ok (.slice (some ⟨g,0,none⟩) (ns.length+1) cp) X3 from hrun)
    have Hr3:=Lib.hid hr3
    have Hb3:=Lib.hid ((Hb.out.trans (hbx.drew.mono Hb.out.size)).trans hb3)
    have Hcu2:=Lib.hid hcu2
    have Hsum:=Lib.hid hsum
    have Hm12:=Lib.hid hm12
    clear hcu2 hsum hm12 hro ho hrun hr3 hb3 q4 hall hex hbx hf
    go_upto_region 9 with (fail)
    refine wp_region_held_drew (S:=fun W=>W.cell? ⟨atb,0,none⟩=some (.int .i64 (q:Int))) (by kernel_rfl) qx (fun hHeld=>?_)
    refine WTH (i:=0) (v:=?vpd0) ?ypd0 hHeld ?rpd0
    case ypd0=>(intro W hW;obtain hW:=hW;go_simp;first | done | with_reducible rfl)
    try simp only[SL,Act.put]
    refine WTH (i:=1) (v:=?vpd1) ?ypd1 hHeld ?rpd1
    case ypd1=>(intro W hW;obtain hW:=hW;go_simp;first | done | with_reducible rfl)
    try simp only[SL,Act.put]
    refine WTH (i:=2) (v:=?vpd2) ?ypd2 hHeld ?rpd2
    case ypd2=>(intro W hW;obtain hW:=hW;go_simp;first | done | with_reducible rfl)
    try simp only[SL,Act.put]
    refine WTH (i:=3) (v:=?vpd3) ?ypd3 hHeld ?rpd3
    case ypd3=>(intro W hW;obtain hW:=hW;go_simp;first | done | with_reducible rfl)
    try simp only[SL,Act.put]
    refine WTH (i:=4) (v:=?vpd4) ?ypd4 hHeld ?rpd4
    case ypd4=>(intro W hW;obtain hW:=hW;go_simp;first | done | with_reducible rfl)
    try simp only[SL,Act.put]
    refine WTH (i:=5) (v:=?vpd5) ?ypd5 hHeld ?rpd5
    case ypd5=>(intro W hW;obtain hW:=hW;go_simp;first | done | with_reducible rfl)
    try simp only[SL,Act.put]
    refine WTH (i:=6) (v:=?vpd6) ?ypd6 hHeld ?rpd6
    case ypd6=>(intro W hW;obtain hW:=hW;go_simp;first | done | with_reducible rfl)
    try simp only[SL,Act.put]
    refine wpAnyH_ready (rs:=[7]) (by kernel_rfl) (by simp) ?_
    refine AllReadyH.cons rfl (fun K hK=>?_) (AllReadyH.nil)
    go_simp
    refine hK.out _ _ (((Keeps.refl wx.drew).alloc _) _ _ hHeld) (fun hHeld=>?_)
    clear hK K
    try simp only[SL,Act.put]
    refine wpAnyH_ready (rs:=[8]) (by kernel_rfl) (by simp) ?_
    refine AllReadyH.cons rfl (fun K hK=>?_) (AllReadyH.nil)
    refine step_append_eq (by rfl) (.tmp 42) (.tmp 49) 132 (by rfl) u4 (.slice (some ⟨wx.heap.size,0,none⟩) 1 1) (.slice (some ⟨g,0,none⟩) (ns.length+1) cp) X3 (by rfl) (by rfl) Hrun.out ?_
    refine hK.out _ _ (q3) (fun hHeld=>?_)
    clear hK K
    try simp only[SL,Act.put]
    refine WTH (i:=9) (v:=?vpd9) ?ypd9 hHeld ?rpd9
    case ypd9=>(intro W hW;obtain hW:=hW;go_simp;first | done | with_reducible rfl)
    try simp only[SL,Act.put]
    refine wpAnyH_done (by kernel_rfl) ?_ _
    clear hHeld q3 qx
    by_cases hmr2:m=r
    ·by_cases hmc:m=cr
     ·go_wp2
      exact⟨⟨ns ++ [m],s+m,0,cr - r,ad,Hsum.out,by omega,by omega,by rw[List.length_append,List.length_singleton];omega,rfl,fun h=>absurd h (by omega),Hm12.out,by rw[List.length_append];exact Hr3.out,Hcu2.out,Hb3.out⟩,by show 0<r;omega⟩
     ·go_wp2
      exact⟨⟨ns ++ [m],s+m,0,cr - r,_,Hsum.out,by omega,by omega,by rw[List.length_append,List.length_singleton];omega,rfl,fun h=>absurd h (by omega),Hm12.out,by rw[List.length_append];exact Hr3.out,Hcu2.out,Hb3.out⟩,by show 0<r;omega⟩
    ·have hmc:¬ m=cr:=by omega
     go_wp2
     exact⟨⟨ns ++ [m],s+m,r - m,cr - m,_,Hsum.out,by omega,by omega,by rw[List.length_append,List.length_singleton];omega,rfl,fun _=>by rw[HAD.out,addO];congr 1;omega,Hm12.out,by rw[List.length_append];exact Hr3.out,Hcu2.out,Hb3.out⟩,by show r - m<r;omega⟩
  ·obtain rfl:r=0:=by omega
   obtain rfl:s=n:=by omega
   have hfin:cuts ns L=runsK q s L:=by
    rw[List.drop_of_length_le (Nat.le_of_eq HLN.out),runs_nilH,List.append_nil] at hcu
    exact hcu
   have d0:decide ((0:Int)<(0:Int))=false:=by simp
   have Hfin:=Lib.hid hfin
   have Ho:=Lib.hid (own_mono ho Z4.out)
   have Hb:=Lib.hid hb
   have Hs:=Lib.hid hs
   have Hm1:=Lib.hid hm1
   clear hfin ho hb hcu hs hm1 had
   have hfe:Else blk off s w wr:=fun p hp hc=>by
    obtain⟨e1,e2⟩:=HEL.out p hp hc
    obtain⟨f1,f2⟩:=HEO.out _ _ Hb.out p (Nat.lt_of_lt_of_le hp Z4.out) hc
    exact⟨f1.trans e1,f2.trans e2⟩
   have Hfe:=Lib.hid hfe
   clear hfe
   go_wp2
   go_ret
   exact⟨_,ns,mid,rfl,HPE.out,HML.out ▸ HRI.out,HML.out ▸ Hfin.out,Hs.out.symm,Hm1.out,Ho.out,HSH.out _ _ _ Hb.out HH4.out,Hfe.out,HTC.out.same (Tch.of_below _ Hb.out),fun h=>(HTY.out h).of (Hb.out.block blk (HTY.out h).lt)⟩
end Go.Proofs.YtnjlkhhcfiedbaaGreatDoor

import Derived.Laws.EntriesVeiled
import Derived.IntWalk
import Derived.Test.YtnjlkhhcfiedbaaGreatDoorSl
import Derived.Test.YtnjlkhhcfiedbaaGreatDoorExC
import Derived.Test.YtnjlkhhcfiedbaaGreatDoorCel9
namespace Go.Proofs.YtnjlkhhcfiedbaaGreatDoor
open Go.RowKit Go.Shelf
attribute [local go_sem] Oper.semAt_some
abbrev SegX:=Nat × Nat × Nat × List Cel
def segK (a:Nat):Nat→Nat→Nat→List Cel→List SegX
 | 0,_,_,_=>[]
 | _+1,_,_,[]=>[]
 | f+1,off,c,x :: t =>
  (off,(t.takeWhile fun y=>valK y a == valK x a).length+1,c,x :: t.takeWhile fun y=>valK y a == valK x a) ::
   segK a f (off+((t.takeWhile fun y=>valK y a == valK x a).length+1)*5) (c - ((t.takeWhile fun y=>valK y a == valK x a).length+1)) (t.dropWhile fun y=>valK y a == valK x a)
theorem segK_runs (a:Nat):∀ (f off c:Nat) (l:List Cel),(segK a f off c l).map (·.2.2.2)=runsK a f l
 | 0,_,_,_=>rfl
 | _+1,_,_,[]=>rfl
 | f+1,off,c,x :: t=>by
  unfold segK runsK
  rw[List.map_cons,segK_runs a f]
def segV (blk a:Nat) (x:SegX):Value:=.agg #[.slice (some ⟨blk,x.1,none⟩) x.2.1 x.2.2.1,.func (.func 73) #[] #[],.int .i64 (a:Nat)]
set_option maxRecDepth 100000 in
set_option maxHeartbeats 4000000 in
theorem xval_any (k s n m:Value) (x:Cel) (a:Nat) (w:World) (hx:CR w k s n m x) (ha:a<x.key.length) :
  Calls Tryz.prog 73 #[.agg #[k,.int .i64 x.cnt,s,n,m],.int .i64 (a:Nat)] w fun e w'=>e=.returned (.int .i64 (valK x a))∧Below w.heap.size w w':=by
 obtain⟨⟨Pk,ck,rfl,nk,-⟩,⟨Ps,cs,rfl,-⟩,⟨Pn,cn,rfl,-⟩,⟨Pm,cm,rfl,-⟩⟩:=hx
 obtain⟨w1,hw1⟩:∃ w1,w1=w.alloc (.cells #[.slice Pk x.key.length ck,.int .i64 x.cnt,.slice Ps x.sum.length cs,.slice Pn x.mn.length cn,.slice Pm x.mx.length cm] 46):=⟨_,rfl⟩
 have o1:Own 46 w1 w.heap.size [.slice Pk x.key.length ck,.int .i64 x.cnt,.slice Ps x.sum.length cs,.slice Pn x.mn.length cn,.slice Pm x.mx.length cm]:=by rw[hw1];exact heap_alloc_new w _
 have hb1:Below w.heap.size w w1:=by rw[hw1];exact (Below.refl _ w).alloc (Nat.le_refl _) _
 obtain⟨ad,v,rfl,hv,-,hc⟩:=(nk.keep (Keeps.of_below hb1)).at_ ha
 have hvk:valK x a=v:=by unfold valK;rw[hv];rfl
 rw[hvk]
 obtain⟨K,hK⟩:∃ K,K=x.key.length:=⟨_,rfl⟩
 rw[← hK] at ha o1 hw1 ⊢
 have h0:=o1.cell (i:=0) rfl
 have i0:(0:Int)≤(a:Int):=by omega
 have i1:(a:Int)<(K:Int):=by omega
 have HB:=Lib.hid hb1
 have HW:=Lib.hid hw1
 clear hK hv hvk nk o1 hb1 hw1
 go_enter Tryz.func73,Tryz.ntmps73
 go_upto_region 1 with (fail)
 rw[← HW.out]
 go_wp2
 go_ret
 exact⟨rfl,HB.out⟩
set_option maxRecDepth 100000 in
set_option maxHeartbeats 4000000 in
theorem xown_any (v k s n m:Value) (x:Cel) (a:Nat) (w:World) (hx:CR w k s n m x) (ha:a<x.key.length) :
  Calls Tryz.prog 134 #[.agg #[v,.func (.func 73) #[] #[],.int .i64 (a:Nat)],.agg #[k,.int .i64 x.cnt,s,n,m]] w fun e w'=>e=.returned (.int .i64 (valK x a))∧Below w.heap.size w w':=by
 obtain⟨w1,hw1⟩:∃ w1,w1=w.alloc (.cells #[v,.func (.func 73) #[] #[],.int .i64 (a:Nat)] 76):=⟨_,rfl⟩
 have o1:Own 76 w1 w.heap.size [v,.func (.func 73) #[] #[],.int .i64 (a:Nat)]:=by rw[hw1];exact heap_alloc_new w _
 have hb1:Below w.heap.size w w1:=by rw[hw1];exact (Below.refl _ w).alloc (Nat.le_refl _) _
 have z1:w1.heap.size=w.heap.size+1:=by rw[hw1];simp
 obtain⟨w2,hw2⟩:∃ w2,w2=w1.alloc (.cells #[k,.int .i64 x.cnt,s,n,m] 46):=⟨_,rfl⟩
 have o2:Own 46 w2 (w.heap.size+1) [k,.int .i64 x.cnt,s,n,m]:=by rw[hw2,← z1];exact heap_alloc_new w1 _
 have hb2:Below w1.heap.size w1 w2:=by rw[hw2];exact (Below.refl _ w1).alloc (Nat.le_refl _) _
 have hb:Below w.heap.size w w2:=hb1.trans (hb2.mono hb1.size)
 have hv:=xval_any k s n m x a w2 (hx.keep (Keeps.of_below hb)) ha
 have o1':=o1.below hb2 o1.lt
 have q1:=o1'.cell (i:=1) rfl
 have q2:=o1'.cell (i:=2) rfl
 obtain⟨h0,h1,h2,h3,h4⟩:=o2.bx
 obtain⟨xc,hxc⟩:∃ z,z=x.cnt:=⟨_,rfl⟩
 rw[← hxc] at hw2 hv h1 ⊢
 have HV:=Lib.hid hv
 have HB:=Lib.hid hb
 have HW:=Lib.hid (hw2.trans (by rw[hw1]))
 clear hv hb hb1 hb2 o1 o2 o1' hw1 hw2 z1 hx ha hxc
 go_enter Tryz.func134,Tryz.ntmps134
 go_upto_region 1 with (fail)
 rw[← HW.out]
 go_wp2_with fail
 refine HV.out.mono ?_
 rintro e w' ⟨rfl,hb⟩
 have HB2:=Lib.hid (HB.out.trans (hb.mono HB.out.size))
 clear hb
 go_wp2
 go_ret
 exact⟨rfl,HB2.out⟩
theorem take_while_at {p:Cel→Bool}:∀ {m:Nat} {t:List Cel},(∀ y ∈ t.take m,p y=true)→(t.length≤m∨∃ y,t[m]? = some y∧p y=false)→t.takeWhile p=t.take m∧t.dropWhile p=t.drop m
 | _,[],_,_=>by simp
 | 0,y :: t,_,h=>by
  rcases h with h | ⟨z,hz,hp⟩
  ·simp at h
  ·simp only[List.getElem?_cons_zero,Option.some.injEq] at hz
   subst hz
   simp[hp]
 | m+1,y :: t,h1,h=>by
  have hy:p y=true:=h1 y (by simp)
  obtain⟨e1,e2⟩:=take_while_at (m:=m) (t:=t) (fun z hz=>h1 z (by simp[hz])) (by
   rcases h with h | ⟨z,hz,hp⟩
   ·exact .inl (by simpa using h)
   ·exact .inr ⟨z,by simpa using hz,hp⟩)
  rw[List.takeWhile_cons,List.dropWhile_cons,hy]
  simp[e1,e2]
theorem segK_step {a f off c j:Nat} {x:Cel} {l:List Cel} (h0:l[0]? = some x) (hj:1≤j) (hjl:j≤l.length) (h1:∀ y ∈ l.take j,valK y a=valK x a) (h2:j=l.length∨∃ y,l[j]? = some y∧valK y a ≠ valK x a) :
  segK a (f+1) off c l=(off,j,c,l.take j) :: segK a f (off+j*5) (c - j) (l.drop j):=by
 obtain⟨m,rfl⟩:∃ m,j=m+1:=⟨j - 1,by omega⟩
 cases l with
 | nil=>simp at h0
 | cons z t =>
  simp only[List.getElem?_cons_zero,Option.some.injEq] at h0
  subst h0
  obtain⟨e1,e2⟩:=take_while_at (p:=fun y=>valK y a == valK z a) (m:=m) (t:=t) (fun y hy=>by rw[beq_iff_eq];exact h1 y (by simp[hy])) (by
   rcases h2 with h2 | ⟨y,hy,hp⟩
   ·exact .inl (by simp at h2;omega)
   ·exact .inr ⟨y,by simpa using hy,by simpa using hp⟩)
  simp only[List.length_cons] at hjl
  have hl:(t.take m).length=m:=by rw[List.length_take];omega
  simp only[segK,e1,e2,hl,List.take_succ_cons,List.drop_succ_cons]
def partV (P:Option Addr) (N c a:Nat):List Value:=[.slice P N c,.func (.func 73) #[] #[],.int .i64 (a:Nat)]
set_option maxRecDepth 100000 in
set_option maxHeartbeats 8000000 in
theorem xapart_in (l bp a d blk off:Nat) (P:Option Addr) (c N:Nat) (G:List Cel) (w0 W:World) (hN:N=G.length) (hP:0<N→P=some ⟨blk,off,none⟩) (hG:CellsR w0 ⟨blk,off,none⟩ G) (hNc:N≤c) (hk:∀ x ∈ G,x.key.length=d) (ha:a<d) (hd:d≤1000) (hN1:N≤1000)
  (J:List SegX→World→Prop) (hJr:∀ pre X,J pre X→Below w0.heap.size w0 X∧Own 76 X bp (partV P N c a)) (hst:∀ pre A B,J pre A→Below A.heap.size A B→J pre B)
  (hY:∀ pre x W1,J pre W1→(∃ post,pre ++ x :: post=segK a N off c G)→YieldAt Fence.wide 0 Tryz.prog l #[segV blk (a+1) x] W1 fun e W'=>e=.returned (.bool true)∧J (pre ++ [x]) W')
  (h0:J [] W) :
  Calls Tryz.prog 133 #[.func (.yield l) #[] #[],.pointer (some ⟨bp,0,none⟩)] W fun e W'=>(∃ v,e=.returned v)∧J (segK a N off c G) W':=by
 refine callsIn_wide (n:=9).1 ?_
 obtain⟨hb0,ho0⟩:=hJr _ _ h0
 have c0:=ho0.cell (i:=0) rfl
 have HN:=Lib.hid hN
 have HP:=Lib.hid hP
 have HG:=Lib.hid hG
 have HK:=Lib.hid hk
 have HJR:=Lib.hid hJr
 have HST:=Lib.hid hst
 have HY:=Lib.hid hY
 have HNC:=Lib.hid hNc
 obtain⟨S,hS⟩:∃ S,S=segK a N off c G:=⟨_,rfl⟩
 have HS:=Lib.hid hS
 have HA:=Lib.hid (And.intro ha hd)
 obtain⟨a1,ha1⟩:∃ z,z=a+1:=⟨_,rfl⟩
 have wa1:IntKind.i64.wrap ((a:Int)+1)=(a1:Int):=by rw[IntWalk.i64_in _ (by omega),ha1];rfl
 have HA1:=Lib.hid ha1
 have HN1:=Lib.hid hN1
 rw[← hS]
 clear hN hP hG hk hJr hst hY hNc hS hb0 ho0 ha hd ha1 hN1
 refine callsIn_of_wp Tryz.func133 rfl trivial ?_ rfl
 simp only[Tryz.ntmps133,List.size_toArray,List.length_cons,List.length_nil,Nat.reduceAdd,Nat.reduceSub,Array.replicate_succ,Array.replicate_zero,List.push_toArray,List.append_toArray,List.nil_append,List.cons_append]
 gi_wp2_with fail
 clear c0
 gi_loopw [3] (fun s3 wr=>∃ (pre:List SegX) (Pr:Option Addr) (n k r f:Nat),s3=.slice Pr n r∧(n+k=N∧r+k=c∧n≤f)∧(0<n→Pr=some ⟨blk,off+k*5,none⟩)∧pre ++ segK a f (off+k*5) r (G.drop k)=S∧J pre wr) (fun s3 _=>lenOf s3)
 case atStart=>exact⟨[],P,N,0,c,N,rfl,⟨rfl,rfl,Nat.le_refl _⟩,by simpa using HP.out,by simpa using HS.out.symm,h0⟩
 case round =>
  obtain⟨pre,Pr,n,k,r,f,rfl,hnk,hPr,hsg,hJ⟩:=hrel
  rename World=>wr
  have HJ:=Lib.hid hJ
  have HNK:=Lib.hid hnk
  have HSG:=Lib.hid hsg
  clear hJ hsg h0
  by_cases hn:0<n
  ·obtain rfl:=hPr hn
   obtain⟨f',rfl⟩:∃ f',f=f'+1:=⟨f - 1,by omega⟩
   obtain⟨ok,hok⟩:∃ o,o=off+k*5:=⟨_,rfl⟩
   rw[← hok] at HSG ⊢
   have hnr:n≤r:=by have:=HNC.out;omega
   have hn1:n≤1000:=by have:=HN1.out;omega
   have hlen:(G.drop k).length=n:=by rw[List.length_drop,← HN.out];omega
   obtain⟨x,hx⟩:∃ x,(G.drop k)[0]? = some x:=⟨_,List.getElem?_eq_getElem (by omega)⟩
   have hcl:CellsR w0 ⟨blk,ok,none⟩ (G.drop k):=by
    have h:=HG.out.drop k
    rw[hok]
    have e:(⟨blk,off,none⟩:Addr).add (k*5)=⟨blk,off+k*5,none⟩:=by unfold Addr.add;split <;> simp_all
    rw[e] at h
    exact h
   have HX:=Lib.hid hx
   have HCL:=Lib.hid hcl
   have HLN:=Lib.hid hlen
   have HOK:=Lib.hid hok
   have HNR:=Lib.hid hnr
   have i0:(0:Int)<(n:Int):=by omega
   have d0:decide ((0:Int)<(n:Int))=true:=decide_eq_true i0
   clear hx hcl hlen hok hnr hnk hPr
   gi_wp2_with fail
   gi_loopw [4] (fun s4 wq=>∃ j:Nat,s4=.int .i64 j∧1≤j∧j≤n∧(∀ y ∈ (G.drop k).take j,valK y a=valK x a)∧J pre wq) (fun s4 _=>n - (intOf s4).toNat)
   case atStart=>exact⟨1,rfl,Nat.le_refl _,hn,(fun y hy=>by
    obtain⟨i,hi⟩:=List.getElem?_of_mem hy
    rw[List.getElem?_take] at hi
    split at hi
    ·obtain rfl:i=0:=by omega
     rw[HX.out] at hi
     cases hi;rfl
    ·cases hi),HJ.out⟩
   case round =>
    obtain⟨j,rfl,hj1,hjn,hall,hJq⟩:=hrel
    rename World=>wq
    have HALL:=Lib.hid hall
    clear hall
    by_cases hjl:j<n
    case pos =>
     obtain⟨y,hy⟩:∃ y,(G.drop k)[j]? = some y:=⟨_,List.getElem?_eq_getElem (by rw[HLN.out];exact hjl)⟩
     obtain⟨hbq,hoq⟩:=HJR.out _ _ hJq
     have kq:=Keeps.of_below hbq
     have q0:=hoq.cell (i:=0) rfl
     have q1:=hoq.cell (i:=1) rfl
     have q2:=hoq.cell (i:=2) rfl
     try dsimp only [partV] at q0 q1 q2
     have ej:(⟨blk,ok,none⟩:Addr).add (j*5)=⟨blk,ok+j*5,none⟩:=by rw[Addr.add,if_neg (by omega)]
     have e0:(⟨blk,ok,none⟩:Addr).add (0*5)=⟨blk,ok,none⟩:=by simp[Addr.add]
     obtain⟨vk,vs,vn,vm,p0,p1,p2,p3,p4,hcr,-⟩:=HCL.out j y hy
     obtain⟨uk,us,un,um,r0,r1,r2,r3,r4,hcx,-⟩:=HCL.out 0 x HX.out
     rw[ej] at p0 p1 p2 p3 p4
     rw[e0] at r0 r1 r2 r3 r4
     have hyd:=HK.out y (List.mem_of_mem_drop (List.mem_of_getElem? hy))
     have hxd:=HK.out x (List.mem_of_mem_drop (List.mem_of_getElem? HX.out))
     have HOY:=Lib.hid (fun (v:Value) (Z:World) (hz:Keeps w0 Z)=>xown_any v vk vs vn vm y a Z (hcr.keep hz) (by have:=HA.out;omega))
     have HOX:=Lib.hid (fun (v:Value) (Z:World) (hz:Keeps w0 Z)=>xown_any v uk us un um x a Z (hcx.keep hz) (by have:=HA.out;omega))
     obtain⟨⟨P1,c1,f1,-⟩,⟨P2,c2,f2,-⟩,⟨P3,c3,f3,-⟩,⟨P4,c4,f4,-⟩⟩:=hcr
     subst f1 f2 f3 f4
     obtain⟨⟨Q1,g1,f1,-⟩,⟨Q2,g2,f2,-⟩,⟨Q3,g3,f3,-⟩,⟨Q4,g4,f4,-⟩⟩:=hcx
     subst f1 f2 f3 f4
     replace p0:=kq _ _ p0
     replace p1:=kq _ _ p1
     replace p2:=kq _ _ p2
     replace p3:=kq _ _ p3
     replace p4:=kq _ _ p4
     replace r0:=kq _ _ r0
     replace r1:=kq _ _ r1
     replace r2:=kq _ _ r2
     replace r3:=kq _ _ r3
     replace r4:=kq _ _ r4
     obtain⟨yc,eyc⟩:∃ z,z=y.cnt:=⟨_,rfl⟩
     obtain⟨xc,exc⟩:∃ z,z=x.cnt:=⟨_,rfl⟩
     obtain⟨k1,hk1⟩:∃ z,z=y.key.length:=⟨_,rfl⟩
     obtain⟨k2,hk2⟩:∃ z,z=y.sum.length:=⟨_,rfl⟩
     obtain⟨k3,hk3⟩:∃ z,z=y.mn.length:=⟨_,rfl⟩
     obtain⟨k4,hk4⟩:∃ z,z=y.mx.length:=⟨_,rfl⟩
     obtain⟨j1,hj1'⟩:∃ z,z=x.key.length:=⟨_,rfl⟩
     obtain⟨j2,hj2⟩:∃ z,z=x.sum.length:=⟨_,rfl⟩
     obtain⟨j3,hj3⟩:∃ z,z=x.mn.length:=⟨_,rfl⟩
     obtain⟨j4,hj4⟩:∃ z,z=x.mx.length:=⟨_,rfl⟩
     obtain⟨vy,hvy⟩:∃ z,z=valK y a:=⟨_,rfl⟩
     obtain⟨vx,hvx⟩:∃ z,z=valK x a:=⟨_,rfl⟩
     rw[← eyc,← hk1,← hk2,← hk3,← hk4,← hvy] at HOY
     rw[← exc,← hj1',← hj2,← hj3,← hj4,← hvx] at HOX
     rw[← eyc] at p1
     rw[← hk1] at p0
     rw[← hk2] at p2
     rw[← hk3] at p3
     rw[← hk4] at p4
     rw[← exc] at r1
     rw[← hj1'] at r0
     rw[← hj2] at r2
     rw[← hj3] at r3
     rw[← hj4] at r4
     have HVY:=Lib.hid hvy
     have HVX:=Lib.hid hvx
     have HYJ:=Lib.hid hy
     have HKQ:=Lib.hid kq
     have HJQ:=Lib.hid hJq
     have i1:(0:Int)≤(j:Int):=by omega
     have i2:(j:Int)<(n:Int):=by omega
     have d1:decide ((j:Int)<(n:Int))=true:=decide_eq_true i2
     clear hy hbq hoq ej e0 hyd hxd eyc exc hk1 hk2 hk3 hk4 hj1' hj2 hj3 hj4 hvy hvx kq hJq
     gi_wp2_with fail
     refine region_NJ (S:=fun Z=>(Z.cell? ⟨bp,0,none⟩=some (.slice P N c)∧Z.cell? ⟨bp,1,none⟩=some (.func (.func 73) #[] #[])∧Z.cell? ⟨bp,2,none⟩=some (.int .i64 (a:Nat)))∧(Z.cell? ⟨blk,ok+j*5,none⟩=some (.slice P1 k1 c1)∧Z.cell? ⟨blk,ok+j*5+1,none⟩=some (.int .i64 yc)∧Z.cell? ⟨blk,ok+j*5+2,none⟩=some (.slice P2 k2 c2)∧Z.cell? ⟨blk,ok+j*5+3,none⟩=some (.slice P3 k3 c3)∧Z.cell? ⟨blk,ok+j*5+4,none⟩=some (.slice P4 k4 c4))∧Z.cell? ⟨blk,ok,none⟩=some (.slice Q1 j1 g1)∧Z.cell? ⟨blk,ok+1,none⟩=some (.int .i64 xc)∧Z.cell? ⟨blk,ok+2,none⟩=some (.slice Q2 j2 g2)∧Z.cell? ⟨blk,ok+3,none⟩=some (.slice Q3 j3 g3)∧Z.cell? ⟨blk,ok+4,none⟩=some (.slice Q4 j4 g4)) (kill:=[15,16,17]) (by kernel_rfl) ⟨⟨q0,q1,q2⟩,⟨p0,p1,p2,p3,p4⟩,r0,r1,r2,r3,r4⟩ (fun hHeld=>?_)
     clear q0 q1 q2 p0 p1 p2 p3 p4 r0 r1 r2 r3 r4
     refine WTN (i:=0) (v:=?vra0) ?yra0 hHeld ?rra0
     case yra0=>(intro W hW;obtain⟨⟨m0,m1,m2⟩,⟨g0,g1,g2,g3,g4⟩,h0,h1,h2,h3,h4⟩:=hW;go_simp;first | done | with_reducible rfl)
     try simp only[SL,Act.put]
     refine WTN (i:=1) (v:=?vra1) ?yra1 hHeld ?rra1
     case yra1=>(intro W hW;obtain⟨⟨m0,m1,m2⟩,⟨g0,g1,g2,g3,g4⟩,h0,h1,h2,h3,h4⟩:=hW;go_simp;first | done | with_reducible rfl)
     try simp only[SL,Act.put]
     refine WTN (i:=2) (v:=?vra2) ?yra2 hHeld ?rra2
     case yra2=>(intro W hW;obtain⟨⟨m0,m1,m2⟩,⟨g0,g1,g2,g3,g4⟩,h0,h1,h2,h3,h4⟩:=hW;go_simp;first | done | with_reducible rfl)
     try simp only[SL,Act.put]
     refine WTN (i:=3) (v:=?vra3) ?yra3 hHeld ?rra3
     case yra3=>(intro W hW;obtain⟨⟨m0,m1,m2⟩,⟨g0,g1,g2,g3,g4⟩,h0,h1,h2,h3,h4⟩:=hW;go_simp;first | done | with_reducible rfl)
     try simp only[SL,Act.put]
     refine WTN (i:=4) (v:=?vra4) ?yra4 hHeld ?rra4
     case yra4=>(intro W hW;obtain⟨⟨m0,m1,m2⟩,⟨g0,g1,g2,g3,g4⟩,h0,h1,h2,h3,h4⟩:=hW;go_simp;first | done | with_reducible rfl)
     try simp only[SL,Act.put]
     refine WTN (i:=5) (v:=?vra5) ?yra5 hHeld ?rra5
     case yra5=>(intro W hW;obtain⟨⟨m0,m1,m2⟩,⟨g0,g1,g2,g3,g4⟩,h0,h1,h2,h3,h4⟩:=hW;go_simp;first | done | with_reducible rfl)
     try simp only[SL,Act.put]
     refine WTN (i:=6) (v:=?vra6) ?yra6 hHeld ?rra6
     case yra6=>(intro W hW;obtain⟨⟨m0,m1,m2⟩,⟨g0,g1,g2,g3,g4⟩,h0,h1,h2,h3,h4⟩:=hW;go_simp;first | done | with_reducible rfl)
     try simp only[SL,Act.put]
     refine WTN (i:=7) (v:=?vra7) ?yra7 hHeld ?rra7
     case yra7=>(intro W hW;obtain⟨⟨m0,m1,m2⟩,⟨g0,g1,g2,g3,g4⟩,h0,h1,h2,h3,h4⟩:=hW;go_simp;first | done | with_reducible rfl)
     try simp only[SL,Act.put]
     refine WTN (i:=8) (v:=?vra8) ?yra8 hHeld ?rra8
     case yra8=>(intro W hW;obtain⟨⟨m0,m1,m2⟩,⟨g0,g1,g2,g3,g4⟩,h0,h1,h2,h3,h4⟩:=hW;go_simp;first | done | with_reducible rfl)
     try simp only[SL,Act.put]
     refine WTN (i:=9) (v:=?vra9) ?yra9 hHeld ?rra9
     case yra9=>(intro W hW;obtain⟨⟨m0,m1,m2⟩,⟨g0,g1,g2,g3,g4⟩,h0,h1,h2,h3,h4⟩:=hW;go_simp;first | done | with_reducible rfl)
     try simp only[SL,Act.put]
     refine WTN (i:=11) (v:=?vra11) ?yra11 hHeld ?rra11
     case yra11=>(intro W hW;obtain⟨⟨m0,m1,m2⟩,⟨g0,g1,g2,g3,g4⟩,h0,h1,h2,h3,h4⟩:=hW;go_simp;first | done | with_reducible rfl)
     try simp only[SL,Act.put]
     refine WTN (i:=12) (v:=?vra12) ?yra12 hHeld ?rra12
     case yra12=>(intro W hW;obtain⟨⟨m0,m1,m2⟩,⟨g0,g1,g2,g3,g4⟩,h0,h1,h2,h3,h4⟩:=hW;go_simp;first | done | with_reducible rfl)
     try simp only[SL,Act.put]
     refine WTN (i:=13) (v:=?vra13) ?yra13 hHeld ?rra13
     case yra13=>(intro W hW;obtain⟨⟨m0,m1,m2⟩,⟨g0,g1,g2,g3,g4⟩,h0,h1,h2,h3,h4⟩:=hW;go_simp;first | done | with_reducible rfl)
     try simp only[SL,Act.put]
     refine WTN (i:=14) (v:=?vra14) ?yra14 hHeld ?rra14
     case yra14=>(intro W hW;obtain⟨⟨m0,m1,m2⟩,⟨g0,g1,g2,g3,g4⟩,h0,h1,h2,h3,h4⟩:=hW;go_simp;first | done | with_reducible rfl)
     try simp only[SL,Act.put]
     refine anyN_ready (rs:=[10]) (by kernel_rfl) (by simp) ?_
     refine AllN.cons (by kernel_rfl) rfl (by rfl) (fun K hK=>?_) (AllN.nil)
     refine⟨fun _ _=>trivial,?_⟩
     go_simp
     refine (callsIn_wide.2 (HOY.out _ _ (HKQ.out.drewN 1))).mono ?_
     rintro e w4 ⟨rfl,hb4⟩
     have HB4:=Lib.hid ((Below.refl wq.heap.size wq).drew.trans hb4)
     have kp:=Keeps.of_below hb4
     clear hb4
     refine hK.out _ _ (fun _=>by obtain⟨⟨m0,m1,m2⟩,⟨g0,g1,g2,g3,g4⟩,h0,h1,h2,h3,h4⟩:=hHeld;exact⟨⟨kp _ _ m0,kp _ _ m1,kp _ _ m2⟩,⟨kp _ _ g0,kp _ _ g1,kp _ _ g2,kp _ _ g3,kp _ _ g4⟩,kp _ _ h0,kp _ _ h1,kp _ _ h2,kp _ _ h3,kp _ _ h4⟩) ?_
     clear hK K
     try simp only[SL,Act.put]
     clear hHeld kp
     refine anyN_ready (rs:=[15]) (by kernel_rfl) (by simp) ?_
     refine AllN.cons (by kernel_rfl) rfl (by rfl) (fun K hK=>?_) (AllN.nil)
     refine⟨fun _ _=>trivial,?_⟩
     go_simp
     refine (callsIn_wide.2 (HOX.out _ _ (HKQ.out.trans (Keeps.of_below HB4.out)))).mono ?_
     rintro e w5 ⟨rfl,hb5⟩
     have HB5:=Lib.hid (HB4.out.trans (hb5.mono HB4.out.size))
     clear hb5
     refine hK.out _ _ (fun h=>absurd (by decide) h) ?_
     clear hK K
     try simp only[SL,Act.put]
     by_cases hv:vy=vx
     case pos =>
      have e9:(vy == vx)=true:=by rw[hv];simp
      have HALN:=Lib.hid (show ∀ z ∈ (G.drop k).take (j+1),valK z a=valK x a by
       intro z hz
       rw[List.take_add_one,HYJ.out,List.mem_append] at hz
       rcases hz with hz | hz
       ·exact HALL.out z hz
       ·simp only[Option.toList_some,List.mem_singleton] at hz
        rw[hz,← HVY.out,← HVX.out,hv])
      have HJZ:=Lib.hid (HST.out pre wq w5 HJQ.out HB5.out)
      clear hv
      refine anyN_late (i:=16) (v:=?vrb16) (by kernel_rfl) rfl (by kernel_rfl) (by kernel_rfl) (by kernel_rfl) (by kernel_rfl) (by decide) (fun _ _ _ h=>h) (fun _=>rfl) (Or.inl ⟨by rfl,?yrb16⟩) ?rrb16
      case yrb16=>(intro W hW;go_simp;first | done | with_reducible rfl)
      try simp only[SL,Act.put]
      refine anyN_late (i:=17) (v:=?vrb17) (by kernel_rfl) rfl (by kernel_rfl) (by kernel_rfl) (by kernel_rfl) (by kernel_rfl) (by decide) (fun _ _ _ h=>h) (fun _=>rfl) (Or.inl ⟨by rfl,?yrb17⟩) ?rrb17
      case yrb17=>(intro W hW;go_simp;first | done | with_reducible rfl)
      try simp only[SL,Act.put]
      refine anyN_done (by kernel_rfl) (noP_normal ?_) _
      clear HOY HOX HVY HVX HYJ HKQ HJQ HB4 HB5 HALL
      gi_wp2_with fail
      go_roundw
      case rel=>exact⟨j+1,by go_num,by omega,by omega,HALN.out,HJZ.out⟩
      case measure=>simp[intOf];omega
     case neg =>
      have e9:(vy == vx)=false:=by simp[hv]
      have HEX:=Lib.hid (show j=(G.drop k).length∨∃ y,(G.drop k)[j]? = some y∧valK y a ≠ valK x a from .inr ⟨y,HYJ.out,fun e=>hv (by rw[HVY.out,HVX.out,e])⟩)
      have HJZ:=Lib.hid (HST.out pre wq w5 HJQ.out HB5.out)
      clear hv
      refine anyN_late (i:=16) (v:=?vrc16) (by kernel_rfl) rfl (by kernel_rfl) (by kernel_rfl) (by kernel_rfl) (by kernel_rfl) (by decide) (fun _ _ _ h=>h) (fun _=>rfl) (Or.inl ⟨by rfl,?yrc16⟩) ?rrc16
      case yrc16=>(intro W hW;go_simp;first | done | with_reducible rfl)
      try simp only[SL,Act.put]
      refine anyN_late (i:=17) (v:=?vrc17) (by kernel_rfl) rfl (by kernel_rfl) (by kernel_rfl) (by kernel_rfl) (by kernel_rfl) (by decide) (fun _ _ _ h=>h) (fun _=>rfl) (Or.inl ⟨by rfl,?yrc17⟩) ?rrc17
      case yrc17=>(intro W hW;go_simp;first | done | with_reducible rfl)
      try simp only[SL,Act.put]
      refine anyN_done (by kernel_rfl) (noP_normal ?_) _
      clear HOY HOX HVY HVX HYJ HKQ HJQ HB4 HB5
      clear d1
      obtain⟨hbz,hoz⟩:=HJR.out _ _ HJZ.out
      have q1:=hoz.cell (i:=1) rfl
      have q2:=hoz.cell (i:=2) rfl
      try dsimp only [partV] at q1 q2
      have hseg:=segK_step (f:=f') (off:=ok) (c:=r) HX.out hj1 (by rw[HLN.out];exact hjn) HALL.out HEX.out
      obtain⟨x1,hx1⟩:∃ z:SegX,z=(ok,j,r,(G.drop k).take j):=⟨_,rfl⟩
      have hsg2:=HSG.out
      rw[hseg,← hx1] at hsg2
      obtain⟨fn,tmps,assign,body,hy,hR⟩:=YieldAt.any (m:=8) (HY.out pre x1 w5.drew (HST.out _ _ _ HJZ.out ((Below.refl w5.heap.size w5).drew)) ⟨_,by rw[hsg2,HS.out]⟩) (fun _ _ h=>h)
      rw[hx1,← HA1.out] at hy
      unfold segV at hy
      dsimp only at hy
      have HR:=Lib.hid hR
      have HSG2:=Lib.hid hsg2
      have HX1:=Lib.hid hx1
      have i3:(0:Int)≤(j:Int):=by omega
      have i4:(j:Int)≤(r:Int):=by have:=HNR.out;omega
      have i5:(j:Int)≤(n:Int):=by omega
      clear hbz hoz hseg hsg2 hx1 hR
      gi_wp2_with fail
      refine region_NJ (S:=fun Z=>Z.cell? ⟨bp,1,none⟩=some (.func (.func 73) #[] #[])∧Z.cell? ⟨bp,2,none⟩=some (.int .i64 (a:Nat))) (kill:=[10,11]) (by kernel_rfl) ⟨q1,q2⟩ (fun hHeld=>?_)
      clear q1 q2
      refine WTN (i:=0) (v:=?vre0) ?yre0 hHeld ?rre0
      case yre0=>(intro W hW;obtain⟨m1,m2⟩:=hW;go_simp;first | done | with_reducible rfl)
      try simp only[SL,Act.put]
      refine WTN (i:=1) (v:=?vre1) ?yre1 hHeld ?rre1
      case yre1=>(intro W hW;obtain⟨m1,m2⟩:=hW;go_simp;first | done | with_reducible rfl)
      try simp only[SL,Act.put]
      refine WTN (i:=2) (v:=?vre2) ?yre2 hHeld ?rre2
      case yre2=>(intro W hW;obtain⟨m1,m2⟩:=hW;go_simp;first | done | with_reducible rfl)
      try simp only[SL,Act.put]
      refine WTN (i:=3) (v:=?vre3) ?yre3 hHeld ?rre3
      case yre3=>(intro W hW;obtain⟨m1,m2⟩:=hW;go_simp;first | done | with_reducible rfl)
      try simp only[SL,Act.put]
      refine WTN (i:=4) (v:=?vre4) ?yre4 hHeld ?rre4
      case yre4=>(intro W hW;obtain⟨m1,m2⟩:=hW;go_simp;first | done | with_reducible rfl)
      try simp only[SL,Act.put]
      refine WTN (i:=5) (v:=?vre5) ?yre5 hHeld ?rre5
      case yre5=>(intro W hW;obtain⟨m1,m2⟩:=hW;go_simp;first | done | with_reducible rfl)
      try simp only[SL,Act.put]
      refine WTN (i:=6) (v:=?vre6) ?yre6 hHeld ?rre6
      case yre6=>(intro W hW;obtain⟨m1,m2⟩:=hW;go_simp;first | done | with_reducible rfl)
      try simp only[SL,Act.put]
      refine WTN (i:=7) (v:=?vre7) ?yre7 hHeld ?rre7
      case yre7=>(intro W hW;obtain⟨m1,m2⟩:=hW;go_simp;first | done | with_reducible rfl)
      try simp only[SL,Act.put]
      refine WTN (i:=8) (v:=?vre8) ?yre8 hHeld ?rre8
      case yre8=>(intro W hW;obtain⟨m1,m2⟩:=hW;go_simp;first | done | with_reducible rfl)
      try simp only[SL,Act.put]
      refine WTN (i:=9) (v:=?vre9) ?yre9 hHeld ?rre9
      case yre9=>(intro W hW;obtain⟨m1,m2⟩:=hW;go_simp;first | done | with_reducible rfl)
      try simp only[SL,Act.put]
      clear hHeld
      refine anyN_ready (rs:=[10]) (by kernel_rfl) (by simp) ?_
      refine AllN.cons (by kernel_rfl) rfl (by rfl) (fun K hK=>?_) (AllN.nil)
      refine⟨fun _ _=>trivial,?_⟩
      go_simp
      refine HR.out.mono ?_
      rintro e7 w7 ⟨rfl,hJ7⟩
      have HJ7:=Lib.hid hJ7
      clear hJ7 hy
      refine hK.out _ _ (fun h=>absurd (by decide) h) ?_
      clear hK K
      try simp only[SL,Act.put]
      refine anyN_late (i:=11) (v:=?vre11) (by kernel_rfl) rfl (by kernel_rfl) (by kernel_rfl) (by kernel_rfl) (by kernel_rfl) (by decide) (fun _ _ _ h=>h) (fun _=>rfl) (Or.inl ⟨by rfl,?yre11⟩) ?rre11
      case yre11=>(intro W hW;go_simp;first | done | with_reducible rfl)
      try simp only[SL,Act.put]
      refine anyN_done (by kernel_rfl) (noP_normal ?_) _
      gi_wp2_with fail
      go_roundw
      case rel =>
       have hn2:=HNK.out
       have hr2:=HNR.out
       have e5:ok+j*5=off+(k+j)*5:=by rw[HOK.out,Nat.add_mul,Nat.add_assoc]
       refine⟨pre ++ [x1],_,n - j,k+j,r - j,f',rfl,⟨by omega,by omega,by omega⟩,fun h=>by rw[if_neg (by omega),e5],?_,HJ7.out⟩
       rw[List.append_assoc,List.singleton_append,← HSG2.out,List.drop_drop,e5]
      case measure=>simp[lenOf];omega
    case neg =>
     have d1:decide ((j:Int)<(n:Int))=false:=decide_eq_false (by omega)
     have HEX:=Lib.hid (show j=(G.drop k).length∨∃ y,(G.drop k)[j]? = some y∧valK y a ≠ valK x a from .inl (by rw[HLN.out];omega))
     have HJZ:=Lib.hid (HST.out pre wq wq.drew hJq ((Below.refl wq.heap.size wq).drew))
     clear hJq
     gi_wp2_with fail
     refine region_NJ (S:=fun _=>True) (kill:=[]) (by kernel_rfl) trivial (fun hHeld=>?_)
     refine WTN (i:=0) (v:=?vrd0) ?yrd0 hHeld ?rrd0
     case yrd0=>(intro W hW;obtain hW:=hW;go_simp;first | done | with_reducible rfl)
     try simp only[SL,Act.put]
     refine WTN (i:=1) (v:=?vrd1) ?yrd1 hHeld ?rrd1
     case yrd1=>(intro W hW;obtain hW:=hW;go_simp;first | done | with_reducible rfl)
     try simp only[SL,Act.put]
     refine WTN (i:=2) (v:=?vrd2) ?yrd2 hHeld ?rrd2
     case yrd2=>(intro W hW;obtain hW:=hW;go_simp;first | done | with_reducible rfl)
     try simp only[SL,Act.put]
     refine WTN (i:=3) (v:=?vrd3) ?yrd3 hHeld ?rrd3
     case yrd3=>(intro W hW;obtain hW:=hW;go_simp;first | done | with_reducible rfl)
     try simp only[SL,Act.put]
     refine WTN (i:=4) (v:=?vrd4) ?yrd4 hHeld ?rrd4
     case yrd4=>(intro W hW;obtain hW:=hW;go_simp;first | done | with_reducible rfl)
     try simp only[SL,Act.put]
     refine anyN_take (i:=5) (v:=undef) (by kernel_rfl) rfl (by kernel_rfl) (by kernel_rfl) (by kernel_rfl) (by kernel_rfl) (by kernel_rfl) (fun _ _ _ h=>h) (fun _=>rfl) (Or.inr ⟨by rfl,rfl⟩) hHeld ?rrd5
     try simp only[SL,Act.put]
     refine anyN_take (i:=6) (v:=undef) (by kernel_rfl) rfl (by kernel_rfl) (by kernel_rfl) (by kernel_rfl) (by kernel_rfl) (by kernel_rfl) (fun _ _ _ h=>h) (fun _=>rfl) (Or.inr ⟨by rfl,rfl⟩) hHeld ?rrd6
     try simp only[SL,Act.put]
     refine anyN_take (i:=7) (v:=undef) (by kernel_rfl) rfl (by kernel_rfl) (by kernel_rfl) (by kernel_rfl) (by kernel_rfl) (by kernel_rfl) (fun _ _ _ h=>h) (fun _=>rfl) (Or.inr ⟨by rfl,rfl⟩) hHeld ?rrd7
     try simp only[SL,Act.put]
     refine anyN_take (i:=8) (v:=undef) (by kernel_rfl) rfl (by kernel_rfl) (by kernel_rfl) (by kernel_rfl) (by kernel_rfl) (by kernel_rfl) (fun _ _ _ h=>h) (fun _=>rfl) (Or.inr ⟨by rfl,rfl⟩) hHeld ?rrd8
     try simp only[SL,Act.put]
     refine anyN_take (i:=9) (v:=undef) (by kernel_rfl) rfl (by kernel_rfl) (by kernel_rfl) (by kernel_rfl) (by kernel_rfl) (by kernel_rfl) (fun _ _ _ h=>h) (fun _=>rfl) (Or.inr ⟨by rfl,rfl⟩) hHeld ?rrd9
     try simp only[SL,Act.put]
     refine anyN_take (i:=11) (v:=undef) (by kernel_rfl) rfl (by kernel_rfl) (by kernel_rfl) (by kernel_rfl) (by kernel_rfl) (by kernel_rfl) (fun _ _ _ h=>h) (fun _=>rfl) (Or.inr ⟨by rfl,rfl⟩) hHeld ?rrd11
     try simp only[SL,Act.put]
     refine anyN_take (i:=12) (v:=undef) (by kernel_rfl) rfl (by kernel_rfl) (by kernel_rfl) (by kernel_rfl) (by kernel_rfl) (by kernel_rfl) (fun _ _ _ h=>h) (fun _=>rfl) (Or.inr ⟨by rfl,rfl⟩) hHeld ?rrd12
     try simp only[SL,Act.put]
     refine anyN_take (i:=13) (v:=undef) (by kernel_rfl) rfl (by kernel_rfl) (by kernel_rfl) (by kernel_rfl) (by kernel_rfl) (by kernel_rfl) (fun _ _ _ h=>h) (fun _=>rfl) (Or.inr ⟨by rfl,rfl⟩) hHeld ?rrd13
     try simp only[SL,Act.put]
     refine anyN_take (i:=14) (v:=undef) (by kernel_rfl) rfl (by kernel_rfl) (by kernel_rfl) (by kernel_rfl) (by kernel_rfl) (by kernel_rfl) (fun _ _ _ h=>h) (fun _=>rfl) (Or.inr ⟨by rfl,rfl⟩) hHeld ?rrd14
     try simp only[SL,Act.put]
     refine anyN_ready (rs:=[10]) (by kernel_rfl) (by simp) ?_
     refine AllN.skip rfl (by rfl) (fun _=>trivial) (fun _=>trivial) ?_ (AllN.nil)
     try simp only[SL,Act.put]
     refine anyN_ready (rs:=[15]) (by kernel_rfl) (by simp) ?_
     refine AllN.skip rfl (by rfl) (fun _=>trivial) (fun _=>trivial) ?_ (AllN.nil)
     try simp only[SL,Act.put]
     refine anyN_take (i:=16) (v:=undef) (by kernel_rfl) rfl (by kernel_rfl) (by kernel_rfl) (by kernel_rfl) (by kernel_rfl) (by kernel_rfl) (fun _ _ _ h=>h) (fun _=>rfl) (Or.inr ⟨by rfl,rfl⟩) hHeld ?rrd16
     try simp only[SL,Act.put]
     refine WTN (i:=17) (v:=?vrd17) ?yrd17 hHeld ?rrd17
     case yrd17=>(intro W hW;obtain hW:=hW;go_simp;first | done | with_reducible rfl)
     try simp only[SL,Act.put]
     refine anyN_done (by kernel_rfl) (noP_normal ?_) _
     clear hHeld
     generalize wq.drew=w5 at HJZ ⊢
     clear d1
     obtain⟨hbz,hoz⟩:=HJR.out _ _ HJZ.out
     have q1:=hoz.cell (i:=1) rfl
     have q2:=hoz.cell (i:=2) rfl
     try dsimp only [partV] at q1 q2
     have hseg:=segK_step (f:=f') (off:=ok) (c:=r) HX.out hj1 (by rw[HLN.out];exact hjn) HALL.out HEX.out
     obtain⟨x1,hx1⟩:∃ z:SegX,z=(ok,j,r,(G.drop k).take j):=⟨_,rfl⟩
     have hsg2:=HSG.out
     rw[hseg,← hx1] at hsg2
     obtain⟨fn,tmps,assign,body,hy,hR⟩:=YieldAt.any (m:=8) (HY.out pre x1 w5.drew (HST.out _ _ _ HJZ.out ((Below.refl w5.heap.size w5).drew)) ⟨_,by rw[hsg2,HS.out]⟩) (fun _ _ h=>h)
     rw[hx1,← HA1.out] at hy
     unfold segV at hy
     dsimp only at hy
     have HR:=Lib.hid hR
     have HSG2:=Lib.hid hsg2
     have HX1:=Lib.hid hx1
     have i3:(0:Int)≤(j:Int):=by omega
     have i4:(j:Int)≤(r:Int):=by have:=HNR.out;omega
     have i5:(j:Int)≤(n:Int):=by omega
     clear hbz hoz hseg hsg2 hx1 hR
     gi_wp2_with fail
     refine region_NJ (S:=fun Z=>Z.cell? ⟨bp,1,none⟩=some (.func (.func 73) #[] #[])∧Z.cell? ⟨bp,2,none⟩=some (.int .i64 (a:Nat))) (kill:=[10,11]) (by kernel_rfl) ⟨q1,q2⟩ (fun hHeld=>?_)
     clear q1 q2
     refine WTN (i:=0) (v:=?vrf0) ?yrf0 hHeld ?rrf0
     case yrf0=>(intro W hW;obtain⟨m1,m2⟩:=hW;go_simp;first | done | with_reducible rfl)
     try simp only[SL,Act.put]
     refine WTN (i:=1) (v:=?vrf1) ?yrf1 hHeld ?rrf1
     case yrf1=>(intro W hW;obtain⟨m1,m2⟩:=hW;go_simp;first | done | with_reducible rfl)
     try simp only[SL,Act.put]
     refine WTN (i:=2) (v:=?vrf2) ?yrf2 hHeld ?rrf2
     case yrf2=>(intro W hW;obtain⟨m1,m2⟩:=hW;go_simp;first | done | with_reducible rfl)
     try simp only[SL,Act.put]
     refine WTN (i:=3) (v:=?vrf3) ?yrf3 hHeld ?rrf3
     case yrf3=>(intro W hW;obtain⟨m1,m2⟩:=hW;go_simp;first | done | with_reducible rfl)
     try simp only[SL,Act.put]
     refine WTN (i:=4) (v:=?vrf4) ?yrf4 hHeld ?rrf4
     case yrf4=>(intro W hW;obtain⟨m1,m2⟩:=hW;go_simp;first | done | with_reducible rfl)
     try simp only[SL,Act.put]
     refine WTN (i:=5) (v:=?vrf5) ?yrf5 hHeld ?rrf5
     case yrf5=>(intro W hW;obtain⟨m1,m2⟩:=hW;go_simp;first | done | with_reducible rfl)
     try simp only[SL,Act.put]
     refine WTN (i:=6) (v:=?vrf6) ?yrf6 hHeld ?rrf6
     case yrf6=>(intro W hW;obtain⟨m1,m2⟩:=hW;go_simp;first | done | with_reducible rfl)
     try simp only[SL,Act.put]
     refine WTN (i:=7) (v:=?vrf7) ?yrf7 hHeld ?rrf7
     case yrf7=>(intro W hW;obtain⟨m1,m2⟩:=hW;go_simp;first | done | with_reducible rfl)
     try simp only[SL,Act.put]
     refine WTN (i:=8) (v:=?vrf8) ?yrf8 hHeld ?rrf8
     case yrf8=>(intro W hW;obtain⟨m1,m2⟩:=hW;go_simp;first | done | with_reducible rfl)
     try simp only[SL,Act.put]
     refine WTN (i:=9) (v:=?vrf9) ?yrf9 hHeld ?rrf9
     case yrf9=>(intro W hW;obtain⟨m1,m2⟩:=hW;go_simp;first | done | with_reducible rfl)
     try simp only[SL,Act.put]
     clear hHeld
     refine anyN_ready (rs:=[10]) (by kernel_rfl) (by simp) ?_
     refine AllN.cons (by kernel_rfl) rfl (by rfl) (fun K hK=>?_) (AllN.nil)
     refine⟨fun _ _=>trivial,?_⟩
     go_simp
     refine HR.out.mono ?_
     rintro e7 w7 ⟨rfl,hJ7⟩
     have HJ7:=Lib.hid hJ7
     clear hJ7 hy
     refine hK.out _ _ (fun h=>absurd (by decide) h) ?_
     clear hK K
     try simp only[SL,Act.put]
     refine anyN_late (i:=11) (v:=?vrf11) (by kernel_rfl) rfl (by kernel_rfl) (by kernel_rfl) (by kernel_rfl) (by kernel_rfl) (by decide) (fun _ _ _ h=>h) (fun _=>rfl) (Or.inl ⟨by rfl,?yrf11⟩) ?rrf11
     case yrf11=>(intro W hW;go_simp;first | done | with_reducible rfl)
     try simp only[SL,Act.put]
     refine anyN_done (by kernel_rfl) (noP_normal ?_) _
     gi_wp2_with fail
     go_roundw
     case rel =>
      have hn2:=HNK.out
      have hr2:=HNR.out
      have e5:ok+j*5=off+(k+j)*5:=by rw[HOK.out,Nat.add_mul,Nat.add_assoc]
      refine⟨pre ++ [x1],_,n - j,k+j,r - j,f',rfl,⟨by omega,by omega,by omega⟩,fun h=>by rw[if_neg (by omega),e5],?_,HJ7.out⟩
      rw[List.append_assoc,List.singleton_append,← HSG2.out,List.drop_drop,e5]
     case measure=>simp[lenOf];omega
  ·have hn0:n=0:=by omega
   have hnil:G.drop k=[]:=List.drop_eq_nil_iff.2 (by rw[← HN.out];omega)
   have hSp:S=pre:=by
    have h:=HSG.out
    rw[hnil] at h
    rw[← h]
    cases f <;> simp[segK]
   have d0:decide ((0:Int)<(n:Int))=false:=decide_eq_false (by omega)
   have HF:=Lib.hid (show J S wr by rw[hSp];exact HJ.out)
   clear hn0 hnil hSp hPr hnk
   gi_wp2
   go_end0
   exact⟨⟨_,rfl⟩,HF.out⟩
end Go.Proofs.YtnjlkhhcfiedbaaGreatDoor

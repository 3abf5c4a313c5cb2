import Derived.IntWalk
import Derived.Test.YtnjlkhhcfiedbaaGreatDoorExQ
import Derived.Test.YtnjlkhhcfiedbaaGreatDoorCel4
import Derived.Test.YtnjlkhhcfiedbaaGreatDoorCelf
namespace Go.Proofs.YtnjlkhhcfiedbaaGreatDoor
open Go.RowKit
def decT (v:Int):List UInt8:=if v<10 then [(48+v.toNat).toUInt8,32] else [49,(38+v.toNat).toUInt8,32]
def textL (key:List Int):List UInt8:=key.flatMap decT
theorem dec_fin:∀ a b:Fin 16,a ≠ b→(decT (a.val:Int)).isPrefixOf (decT (b.val:Int))=false:=by decide +kernel
theorem pre_fin (a b:List UInt8) (r s:List UInt8) (h:a ++ r=b ++ s):a.isPrefixOf b=true∨b.isPrefixOf a=true:=by
 rcases Nat.le_total a.length b.length with hl | hl
 ·left
  rw[List.isPrefixOf_iff_prefix]
  exact List.prefix_of_prefix_length_le (List.prefix_append a r) (h ▸ List.prefix_append b s) hl
 ·right
  rw[List.isPrefixOf_iff_prefix]
  exact List.prefix_of_prefix_length_le (List.prefix_append b s) (h ▸ List.prefix_append a r) hl
theorem dec_inj {a b:Int} {r s:List UInt8} (ha:0≤a∧a≤15) (hb:0≤b∧b≤15) (h:decT a ++ r=decT b ++ s):a=b∧r=s:=by
 obtain⟨x,hx⟩:∃ x:Fin 16,(x.val:Int)=a:=⟨⟨a.toNat,by omega⟩,by simp;omega⟩
 obtain⟨y,hy⟩:∃ y:Fin 16,(y.val:Int)=b:=⟨⟨b.toNat,by omega⟩,by simp;omega⟩
 subst hx hy
 by_cases e:x=y
 ·subst e
  exact⟨rfl,List.append_cancel_left h⟩
 ·rcases pre_fin _ _ _ _ h with h1 | h1
  ·rw[dec_fin x y e] at h1;cases h1
  ·rw[dec_fin y x (fun e'=>e e'.symm)] at h1;cases h1
theorem textL_inj:∀ {k1 k2:List Int},(∀ v ∈ k1,0≤v∧v≤15)→(∀ v ∈ k2,0≤v∧v≤15)→textL k1=textL k2→k1=k2
 | [],[],_,_,_=>rfl
 | [],v :: k,_,_,h=>by
  exfalso
  have:=congrArg List.length h
  rw[textL,textL,List.flatMap_cons,List.length_append] at this
  have h2:2≤(decT v).length:=by unfold decT;split <;> simp
  simp only[List.flatMap_nil,List.length_nil] at this
  omega
 | v :: k,[],_,_,h=>by
  exfalso
  have:=congrArg List.length h
  rw[textL,textL,List.flatMap_cons,List.length_append] at this
  have h2:2≤(decT v).length:=by unfold decT;split <;> simp
  simp only[List.flatMap_nil,List.length_nil] at this
  omega
 | v :: k1,u :: k2,h1,h2,h=>by
  rw[textL,textL,List.flatMap_cons,List.flatMap_cons] at h
  obtain⟨rfl,h3⟩:=dec_inj (h1 v List.mem_cons_self) (h2 u List.mem_cons_self) h
  rw[textL_inj (fun x hx=>h1 x (List.mem_cons_of_mem _ hx)) (fun x hx=>h2 x (List.mem_cons_of_mem _ hx)) h3]
end Go.Proofs.YtnjlkhhcfiedbaaGreatDoor
namespace Go.Proofs.YtnjlkhhcfiedbaaGreatDoor
open Go.RowKit
attribute [local go_sem] Oper.semAt_some
theorem hwi_any (n lo hi:Int) (w:World):Calls Tryz.prog 69 #[.int .i64 n,.int .i64 lo,.int .i64 hi] w fun e w'=>e=.returned (.bool (decide (lo≤n∧n≤hi)))∧w=w':=by
 by_cases h1:lo≤n
 ·by_cases h2:n≤hi
  ·have hh:decide (lo≤n∧n≤hi)=true:=decide_eq_true ⟨h1,h2⟩
   have d1:=decide_eq_true h1
   have d2:=decide_eq_true h2
   rw[hh]
   clear hh
   go_enter Tryz.func69,Tryz.ntmps69
   go_wp2
   go_ret
   exact⟨rfl,rfl⟩
  ·have hh:decide (lo≤n∧n≤hi)=false:=decide_eq_false fun h=>h2 h.2
   have d1:=decide_eq_true h1
   have d2:=decide_eq_false h2
   rw[hh]
   clear hh
   go_enter Tryz.func69,Tryz.ntmps69
   go_wp2
   go_ret
   exact⟨rfl,rfl⟩
 ·have hh:decide (lo≤n∧n≤hi)=false:=decide_eq_false fun h=>h1 h.1
  have d1:=decide_eq_false h1
  rw[hh]
  clear hh
  go_enter Tryz.func69,Tryz.ntmps69
  go_wp2
  go_ret
  exact⟨rfl,rfl⟩
def okK (key:List Int):Bool:=key.all fun v=>decide (0≤v∧v≤15)
set_option maxHeartbeats 1000000 in
theorem inB_any (A:Option Addr) (n c:Nat) (xs:List Int) (w:World) (hx:Nums .i64 w A n xs) (hn:n≤1000000) :
  Calls Tryz.prog 123 #[.slice A n c] w fun e w'=>e=.returned (.bool (okK xs))∧w=w':=by
 have HX:=Lib.hid hx
 clear hx
 go_enter Tryz.func123,Tryz.ntmps123
 go_wp2
 go_loopw [7] (fun i wr=>∃ k:Nat,i=.int .i64 k∧k≤n∧okK (xs.take k)=true∧w=wr) (fun i _=>n - (intOf i).toNat)
 case atStart=>exact⟨0,rfl,Nat.zero_le _,rfl,rfl⟩
 case round =>
  obtain⟨k,rfl,hk,ht,rfl⟩:=hrel
  have HT:=Lib.hid ht
  clear ht
  by_cases hkn:k<n
  ·obtain⟨ad,x,rfl,hxk,hxi,hcx⟩:=HX.out.at_ hkn
   have HW:=Lib.hid (hwi_any x 0 15 w)
   have HK:=Lib.hid hxk
   have k0:(0:Int)≤(k:Int):=by omega
   have k1:(k:Int)<(n:Int):=by omega
   clear hxk hxi
   by_cases ho:0≤x∧x≤15
   ·rw[decide_eq_true ho] at HW
    go_wp2_with fail
    refine HW.out.mono ?_
    rintro e w' ⟨rfl,rfl⟩
    go_wp2
    go_roundw
    case rel=>exact⟨k+1,by go_num,by omega,by rw[List.take_add_one,HK.out];unfold okK at HT ⊢;rw[Option.toList_some,List.all_append,HT.out];simp[ho],trivial⟩
    case measure=>simp[intOf];omega
   ·rw[decide_eq_false ho] at HW
    go_wp2_with fail
    refine HW.out.mono ?_
    rintro e w' ⟨rfl,rfl⟩
    go_wp2
    go_ret
    refine⟨?_,rfl⟩
    have:okK xs=false:=by
     cases hb:okK xs with
     | false=>rfl
     | true =>
      unfold okK at hb
      rw[List.all_eq_true] at hb
      have:=hb x (List.mem_of_getElem? HK.out)
      exact absurd (of_decide_eq_true this) ho
    rw[this];rfl
  ·obtain rfl:k=n:=by omega
   have ht:=HT.out
   rw[List.take_of_length_le (Nat.le_of_eq HX.out.len)] at ht
   have HT2:=Lib.hid ht
   clear ht
   go_wp2
   go_ret
   exact⟨by rw[HT2.out];rfl,rfl⟩
set_option maxRecDepth 100000 in
set_option maxHeartbeats 4000000 in
theorem hplace_any (k s n m:Value) (x:Cel) (w:World) (hx:CR w k s n m x) (hl:x.key.length≤1000) (hok:okK x.key=true) :
  Calls Tryz.prog 216 #[.agg #[k,.int .i64 x.cnt,s,n,m]] w fun e w'=>e=.returned (.int .i64 (hashI x.key))∧Below w.heap.size w w':=by
 obtain⟨⟨Pk,ck,rfl,hk,-⟩,⟨Ps,cs,rfl,-⟩,⟨Pn,cn,rfl,-⟩,⟨Pm,cm,rfl,-⟩⟩:=hx
 obtain⟨key,hkey⟩:∃ key,key=x.key:=⟨_,rfl⟩
 rw[← hkey] at hk hl hok ⊢
 obtain⟨K,hK⟩:∃ K,K=key.length:=⟨_,rfl⟩
 rw[← hK] at hk hl ⊢
 have HK:=Lib.hid hk
 have HO:Hid (∀ v ∈ key,0≤v∧v≤15):=Lib.hid (fun v hv=>by
  unfold okK at hok
  rw[List.all_eq_true] at hok
  exact of_decide_eq_true (hok v hv))
 have HKL:=Lib.hid hK
 obtain⟨cnt,hcnt⟩:∃ z,z=x.cnt:=⟨_,rfl⟩
 obtain⟨ls,hls⟩:∃ z,z=x.sum.length:=⟨_,rfl⟩
 obtain⟨ln,hln⟩:∃ z,z=x.mn.length:=⟨_,rfl⟩
 obtain⟨lm,hlm⟩:∃ z,z=x.mx.length:=⟨_,rfl⟩
 rw[← hcnt,← hls,← hln,← hlm]
 clear hk hok hkey hK hcnt hls hln hlm
 have hb:Below w.heap.size w (w.alloc (.cells #[.slice Pk K ck,.int .i64 cnt,.slice Ps ls cs,.slice Pn ln cn,.slice Pm lm cm] 163)):=(Below.refl _ w).alloc (Nat.le_refl _) _
 have hz:(w.alloc (.cells #[.slice Pk K ck,.int .i64 cnt,.slice Ps ls cs,.slice Pn ln cn,.slice Pm lm cm] 163)).heap.size=w.heap.size+1:=by simp
 have hc:(w.alloc (.cells #[.slice Pk K ck,.int .i64 cnt,.slice Ps ls cs,.slice Pn ln cn,.slice Pm lm cm] 163)).cell? ⟨w.heap.size,0,none⟩=some (.slice Pk K ck):=cell_of_row _ _ 0 _ _ (0,0) (heap_alloc_new w _)
 go_enter Tryz.func216,Tryz.ntmps216
 go_upto_region 1 with (fail)
 generalize w.alloc (.cells #[.slice Pk K ck,.int .i64 cnt,.slice Ps ls cs,.slice Pn ln cn,.slice Pm lm cm] 163)=w1 at hb hz hc ⊢
 have HN:=Lib.hid (HK.out.keep (Keeps.of_below hb))
 have HB:=Lib.hid hb
 clear hb HK hz
 go_wp2
 go_loopw [3,9] (fun h i wr=>∃ j:Nat,i=.int .i64 j∧j≤K∧h=.int .i64 (hashI (key.take j))∧w1=wr) (fun _ i _=>K - (intOf i).toNat)
 case atStart=>exact⟨0,rfl,Nat.zero_le _,rfl,rfl⟩
 case round =>
  obtain⟨j,rfl,hj,rfl,rfl⟩:=hrel
  by_cases hjK:j<K
  ·obtain⟨ad,v,rfl,hv,-,hcv⟩:=HN.out.at_ hjK
   obtain⟨v0,v1⟩:=HO.out v (List.mem_of_getElem? hv)
   obtain⟨g0,g1⟩:=hashI_in (key.take j)
   have HS:=Lib.hid (hashI_take hv)
   obtain⟨h,hh⟩:∃ h,h=hashI (key.take j):=⟨_,rfl⟩
   rw[← hh] at g0 g1 HS ⊢
   have j0:(0:Int)≤(j:Int):=by omega
   have j1:(j:Int)<(K:Int):=by omega
   clear hv hh
   go_wp2
   go_roundw
   case rel=>exact⟨j+1,by go_num,by omega,by rw[HS.out],trivial⟩
   case measure=>simp[intOf];omega
  ·obtain rfl:j=K:=by omega
   have ht:key.take j=key:=List.take_of_length_le (by rw[← HKL.out];exact Nat.le_refl _)
   rw[ht]
   go_wp2
   go_ret
   exact⟨rfl,HB.out⟩
set_option maxRecDepth 100000 in
set_option maxHeartbeats 4000000 in
theorem like_any (k s n m k' s' n' m':Value) (x y:Cel) (w:World) (hx:CR w k s n m x) (hy:CR w k' s' n' m' y) (h1:x.key.length≤1000000) (h2:y.key.length≤1000000) :
  Calls Tryz.prog 215 #[.agg #[k,.int .i64 x.cnt,s,n,m],.agg #[k',.int .i64 y.cnt,s',n',m']] w fun e w'=>e=.returned (.bool (decide (x.key=y.key)))∧Below w.heap.size w w':=by
 have hd:(cmpL x.key y.key == 0)=decide (x.key=y.key):=by
  by_cases h:x.key=y.key
  ·rw[decide_eq_true h,h,cmpL_self];rfl
  ·rw[decide_eq_false h,beq_eq_false_iff_ne];exact fun e=>h (cmpL_zero.1 e)
 rw[← hd]
 obtain⟨rk,⟨Ps,cs,rfl,-⟩,⟨Pn,cn,rfl,-⟩,⟨Pm,cm,rfl,-⟩⟩:=hx
 obtain⟨rk',⟨Ps',cs',rfl,-⟩,⟨Pn',cn',rfl,-⟩,⟨Pm',cm',rfl,-⟩⟩:=hy
 have hL:=fun (W:World) (hk:Keeps w W)=>less_any k k' x.key y.key W (rk.keep hk) (rk'.keep hk) h1 h2
 obtain⟨Pk,ck,rfl,-⟩:=rk
 obtain⟨Pk',ck',rfl,-⟩:=rk'
 obtain⟨cq,hcq⟩:∃ z,z=cmpL x.key y.key:=⟨_,rfl⟩
 rw[← hcq] at hL ⊢
 obtain⟨c1,e1⟩:∃ z,z=x.cnt:=⟨_,rfl⟩
 obtain⟨c2,e2⟩:∃ z,z=y.cnt:=⟨_,rfl⟩
 obtain⟨l1,f1⟩:∃ z,z=x.key.length:=⟨_,rfl⟩
 obtain⟨l2,f2⟩:∃ z,z=x.sum.length:=⟨_,rfl⟩
 obtain⟨l3,f3⟩:∃ z,z=x.mn.length:=⟨_,rfl⟩
 obtain⟨l4,f4⟩:∃ z,z=x.mx.length:=⟨_,rfl⟩
 obtain⟨m1,g1⟩:∃ z,z=y.key.length:=⟨_,rfl⟩
 obtain⟨m2,g2⟩:∃ z,z=y.sum.length:=⟨_,rfl⟩
 obtain⟨m3,g3⟩:∃ z,z=y.mn.length:=⟨_,rfl⟩
 obtain⟨m4,g4⟩:∃ z,z=y.mx.length:=⟨_,rfl⟩
 rw[← f1,← g1] at hL
 rw[← e1,← e2,← f1,← f2,← f3,← f4,← g1,← g2,← g3,← g4]
 have HL:=Lib.hid hL
 clear hL h1 h2 e1 e2 f1 f2 f3 f4 g1 g2 g3 g4 hd hcq
 obtain⟨w1,hw1⟩:∃ w1,w1=w.alloc (.cells #[.slice Pk l1 ck,.int .i64 c1,.slice Ps l2 cs,.slice Pn l3 cn,.slice Pm l4 cm] 163):=⟨_,rfl⟩
 obtain⟨w2,hw2⟩:∃ w2,w2=w1.alloc (.cells #[.slice Pk' m1 ck',.int .i64 c2,.slice Ps' m2 cs',.slice Pn' m3 cn',.slice Pm' m4 cm'] 163):=⟨_,rfl⟩
 have z1:w1.heap.size=w.heap.size+1:=by rw[hw1];simp
 have hb1:Below w.heap.size w w1:=by rw[hw1];exact (Below.refl _ w).alloc (Nat.le_refl _) _
 have hb2:Below w1.heap.size w1 w2:=by rw[hw2];exact (Below.refl _ w1).alloc (Nat.le_refl _) _
 have hc1:w1.cell? ⟨w.heap.size,0,none⟩=some (.slice Pk l1 ck):=by rw[hw1];exact cell_of_row _ _ 0 _ _ (0,0) (heap_alloc_new w _)
 have hc2:w2.cell? ⟨w1.heap.size,0,none⟩=some (.slice Pk' m1 ck'):=by rw[hw2];exact cell_of_row _ _ 0 _ _ (0,0) (heap_alloc_new w1 _)
 have hc1':=Keeps.of_below hb2 _ _ hc1
 have HB:=Lib.hid (hb1.trans (hb2.mono hb1.size))
 obtain⟨b1,hb⟩:∃ b,b=w.heap.size:=⟨_,rfl⟩
 rw[← hb] at hc1'
 rw[z1,← hb] at hc2
 go_enter Tryz.func215,Tryz.ntmps215
 go_upto_region 1 with (fail)
 rw[← hw1,← hw2,← hb]
 clear hw1 hw2 hc1 hb1 hb2 hb z1
 go_wp2_with fail
 refine (HL.out w2 (Keeps.of_below HB.out)).mono ?_
 rintro e w' ⟨rfl,rfl⟩
 go_wp2
 go_ret
 exact⟨rfl,HB.out⟩
end Go.Proofs.YtnjlkhhcfiedbaaGreatDoor
namespace Go.Proofs.YtnjlkhhcfiedbaaGreatDoor
open Go.RowKit
attribute [local go_sem] Oper.semAt_some
set_option maxRecDepth 100000 in
set_option maxHeartbeats 4000000 in
theorem hproper_any (Pk Ps Pn Pm:Option Addr) (K ck me cs cn cm:Nat) (cnt:Int) (key:List Int) (w:World) (hk:Nums .i64 w Pk K key) (hl:K≤1000000) :
  Calls Tryz.prog 99 #[.agg #[.slice Pk K ck,.int .i64 cnt,.slice Ps me cs,.slice Pn me cn,.slice Pm me cm]] w fun e w'=>e=.returned (.bool (okK key))∧Below w.heap.size w w':=by
 have o1:Own 46 (w.alloc (.cells #[.slice Pk K ck,.int .i64 cnt,.slice Ps me cs,.slice Pn me cn,.slice Pm me cm] 46)) w.heap.size [.slice Pk K ck,.int .i64 cnt,.slice Ps me cs,.slice Pn me cn,.slice Pm me cm]:=heap_alloc_new w _
 have hb:Below w.heap.size w (w.alloc (.cells #[.slice Pk K ck,.int .i64 cnt,.slice Ps me cs,.slice Pn me cn,.slice Pm me cm] 46)):=(Below.refl _ w).alloc (Nat.le_refl _) _
 obtain⟨ok,eok⟩:∃ z,z=okK key:=⟨_,rfl⟩
 rw[← eok]
 go_enter Tryz.func99,Tryz.ntmps99
 go_upto_region 1 with (fail)
 generalize w.alloc (.cells #[.slice Pk K ck,.int .i64 cnt,.slice Ps me cs,.slice Pn me cn,.slice Pm me cm] 46)=w1 at hb o1 ⊢
 have hi:=inB_any Pk K ck key w1 (hk.keep (Keeps.of_below hb)) hl
 rw[← eok] at hi
 have HI:=Lib.hid hi
 have HB:=Lib.hid hb
 obtain⟨b,eb⟩:∃ b,b=w.heap.size:=⟨_,rfl⟩
 rw[← eb] at o1 ⊢
 obtain⟨h0,h1,h2,h3,h4⟩:=o1.bx
 have dmm:((me:Int) == (me:Int))=true:=by simp
 clear hk hb o1 eok eb hi
 cases ok with
 | true =>
  go_wp2_with fail
  refine HI.out.mono ?_
  rintro e w' ⟨rfl,rfl⟩
  go_wp2
  go_ret
  exact⟨rfl,HB.out⟩
 | false =>
  go_wp2_with fail
  refine HI.out.mono ?_
  rintro e w' ⟨rfl,rfl⟩
  go_wp2
  go_ret
  exact⟨rfl,HB.out⟩
set_option maxRecDepth 100000 in
set_option maxHeartbeats 4000000 in
theorem hshape_any (Pk Ps Pn Pm:Option Addr) (K ck l2 cs l3 cn l4 cm:Nat) (cnt:Int) (w:World) :
  Calls Tryz.prog 100 #[.agg #[.slice Pk K ck,.int .i64 cnt,.slice Ps l2 cs,.slice Pn l3 cn,.slice Pm l4 cm]] w fun e w'=>e=.returned (.agg #[.int .i64 K,.int .i64 l2])∧Below w.heap.size w w':=by
 obtain⟨w1,hw1⟩:∃ w1,w1=w.alloc (.cells #[.slice Pk K ck,.int .i64 cnt,.slice Ps l2 cs,.slice Pn l3 cn,.slice Pm l4 cm] 46):=⟨_,rfl⟩
 obtain⟨w2,hw2⟩:∃ w2,w2=w1.alloc (.cells #[.int .i64 0,.int .i64 0] 126):=⟨_,rfl⟩
 have z1:w1.heap.size=w.heap.size+1:=by rw[hw1];simp
 have hb1:Below w.heap.size w w1:=by rw[hw1];exact (Below.refl _ w).alloc (Nat.le_refl _) _
 have hb2:Below w1.heap.size w1 w2:=by rw[hw2];exact (Below.refl _ w1).alloc (Nat.le_refl _) _
 have o1:Own 46 w1 w.heap.size [.slice Pk K ck,.int .i64 cnt,.slice Ps l2 cs,.slice Pn l3 cn,.slice Pm l4 cm]:=by rw[hw1];exact heap_alloc_new w _
 have o2:Own 126 w2 w1.heap.size [.int .i64 0,.int .i64 0]:=by rw[hw2];exact heap_alloc_new w1 _
 have k2:=Keeps.of_below hb2
 obtain⟨h0,h1,h2,h3,h4⟩:=o1.bx.keep k2
 have s0:=o2.cell (i:=0) rfl
 have s1:=o2.cell (i:=1) rfl
 have z0:=o2.frozen 0
 have z4:=o2.frozen 1
 rw[z1] at s0 s1 z0 z4
 have HB:=Lib.hid (hb1.trans (hb2.mono hb1.size))
 go_enter Tryz.func100,Tryz.ntmps100
 go_upto_region 1 with (fail)
 rw[← hw1,← hw2]
 clear hw1 hw2 o1 o2 hb1 hb2 k2
 have hbf:Below w.heap.size w ((w2.setCell ⟨w.heap.size+1,0,none⟩ (.int .i64 (K:Int))).setCell ⟨w.heap.size+1,1,none⟩ (.int .i64 (l2:Int))):=(HB.out.setCell (p:=⟨w.heap.size+1,0,none⟩) (by simp) _).setCell (p:=⟨w.heap.size+1,1,none⟩) (by simp) _
 have Hbf:=Lib.hid hbf
 clear hbf
 go_wp2
 exact bodyPost_ret (v:=.agg #[.int .i64 (K:Int),.int .i64 (l2:Int)]) (by simp[results,Tryz.results100,go_sem,s0,s1]) rfl ⟨rfl,Hbf.out⟩
end Go.Proofs.YtnjlkhhcfiedbaaGreatDoor
namespace Go.Proofs.YtnjlkhhcfiedbaaGreatDoor
open Go.RowKit
attribute [local go_sem] Oper.semAt_some
set_option maxRecDepth 100000 in
set_option maxHeartbeats 4000000 in
theorem hwith_any (Pk Ps Pn Pm Qk Qs Qn Qm:Option Addr) (l1 ck l2 cs l3 cn l4 cm m1 dk m2 ds m3 dn m4 dm:Nat) (x y:Cel) (me:Nat) (w:World) (hx:CR w (.slice Pk l1 ck) (.slice Ps l2 cs) (.slice Pn l3 cn) (.slice Pm l4 cm) x) (hy:CR w (.slice Qk m1 dk) (.slice Qs m2 ds) (.slice Qn m3 dn) (.slice Qm m4 dm) y) (hxy:x.key=y.key) (ex:EvenC me x) (ey:EvenC me y) (hk:x.key.length≤1000000) (hm:me≤1000000) (ix:inK .i64 x.cnt) (iy:inK .i64 y.cnt) :
  Calls Tryz.prog 217 #[.agg #[.slice Pk l1 ck,.int .i64 x.cnt,.slice Ps l2 cs,.slice Pn l3 cn,.slice Pm l4 cm],.agg #[.slice Qk m1 dk,.int .i64 y.cnt,.slice Qs m2 ds,.slice Qn m3 dn,.slice Qm m4 dm]] w fun e w'=>∃ k s n m,e=.returned (.agg #[k,.int .i64 (join2 x y).cnt,s,n,m])∧CO w.heap.size w' k s n m (join2 x y)∧Below w.heap.size w w':=by
 have HJ:=Lib.hid (fun (W:World) (hk2:Keeps w W)=>join_any _ _ _ _ _ _ _ _ x y me W (hx.keep hk2) (hy.keep hk2) hxy ex ey hk hm ix iy)
 obtain⟨c1,e1⟩:∃ z,z=x.cnt:=⟨_,rfl⟩
 obtain⟨c2,e2⟩:∃ z,z=y.cnt:=⟨_,rfl⟩
 obtain⟨J,eJ⟩:∃ z,z=join2 x y:=⟨_,rfl⟩
 rw[← e1,← e2,← eJ] at HJ ⊢
 clear hx hy hxy ex ey hk hm ix iy e1 e2 eJ
 obtain⟨w1,hw1⟩:∃ w1,w1=w.alloc (.cells #[.slice Pk l1 ck,.int .i64 c1,.slice Ps l2 cs,.slice Pn l3 cn,.slice Pm l4 cm] 163):=⟨_,rfl⟩
 obtain⟨w2,hw2⟩:∃ w2,w2=w1.alloc (.cells #[.slice Qk m1 dk,.int .i64 c2,.slice Qs m2 ds,.slice Qn m3 dn,.slice Qm m4 dm] 163):=⟨_,rfl⟩
 obtain⟨w3,hw3⟩:∃ w3,w3=w2.alloc (.cells #[.slice none 0 0,.int .i64 0,.slice none 0 0,.slice none 0 0,.slice none 0 0] 163):=⟨_,rfl⟩
 have z1:w1.heap.size=w.heap.size+1:=by rw[hw1];simp
 have z2:w2.heap.size=w.heap.size+2:=by rw[hw2];simp[z1]
 have z3:w3.heap.size=w.heap.size+3:=by rw[hw3];simp[z2]
 have hb1:Below w.heap.size w w1:=by rw[hw1];exact (Below.refl _ w).alloc (Nat.le_refl _) _
 have hb2:Below w1.heap.size w1 w2:=by rw[hw2];exact (Below.refl _ w1).alloc (Nat.le_refl _) _
 have hb3:Below w2.heap.size w2 w3:=by rw[hw3];exact (Below.refl _ w2).alloc (Nat.le_refl _) _
 have o1:Own 163 w1 w.heap.size [.slice Pk l1 ck,.int .i64 c1,.slice Ps l2 cs,.slice Pn l3 cn,.slice Pm l4 cm]:=by rw[hw1];exact heap_alloc_new w _
 have o2:Own 163 w2 w1.heap.size [.slice Qk m1 dk,.int .i64 c2,.slice Qs m2 ds,.slice Qn m3 dn,.slice Qm m4 dm]:=by rw[hw2];exact heap_alloc_new w1 _
 have o3:Own 163 w3 w2.heap.size [.slice none 0 0,.int .i64 0,.slice none 0 0,.slice none 0 0,.slice none 0 0]:=by rw[hw3];exact heap_alloc_new w2 _
 obtain⟨p0,p1,p2,p3,p4⟩:=(o1.bx.keep (Keeps.of_below hb2)).keep (Keeps.of_below hb3)
 obtain⟨q0,q1,q2,q3,q4⟩:=o2.bx.keep (Keeps.of_below hb3)
 rw[z1] at q0 q1 q2 q3 q4
 rw[z2] at o3
 have HB:=Lib.hid ((hb1.trans (hb2.mono hb1.size)).trans (hb3.mono (by omega)))
 have O3:=Lib.hid o3
 have Z3:=Lib.hid z3
 go_enter Tryz.func217,Tryz.ntmps217
 go_upto_region 1 with (fail)
 rw[← hw1,← hw2,← hw3]
 clear hw1 hw2 hw3 o1 o2 o3 hb1 hb2 hb3 z1 z2 z3
 go_wp2_with fail
 refine (HJ.out w3 (Keeps.of_below HB.out)).mono ?_
 rintro e w4 ⟨k,s,n,m,rfl,hco,hb4⟩
 obtain⟨P1,c1',f1,-⟩:=hco.key.form
 obtain⟨P2,c2',f2,-⟩:=hco.sum.form
 obtain⟨P3,c3',f3,-⟩:=hco.mn.form
 obtain⟨P4,c4',f4,-⟩:=hco.mx.form
 subst f1 f2 f3 f4
 have o4:=O3.out.below hb4 (by rw[Z3.out];omega)
 have z0:=o4.cell (i:=0) rfl
 have z1:=o4.cell (i:=1) rfl
 have z2:=o4.cell (i:=2) rfl
 have z3:=o4.cell (i:=3) rfl
 have z4:=o4.cell (i:=4) rfl
 have zf:=o4.frozen
 obtain⟨W5,hW5⟩:∃ W5,W5=put5 w4 (w.heap.size+2) (.slice P1 J.key.length c1') (.int .i64 J.cnt) (.slice P2 J.sum.length c2') (.slice P3 J.mn.length c3') (.slice P4 J.mx.length c4'):=⟨_,rfl⟩
 have o5:Own 163 W5 (w.heap.size+2) [.slice P1 J.key.length c1',.int .i64 J.cnt,.slice P2 J.sum.length c2',.slice P3 J.mn.length c3',.slice P4 J.mx.length c4']:=hW5 ▸ put5_own o4
 have on5:Only (w.heap.size+2) w4 W5:=hW5 ▸ put5_only
 have hb04:Below w.heap.size w w4:=HB.out.trans (hb4.mono HB.out.size)
 have hco2:CO w.heap.size w4 _ _ _ _ J:=⟨hco.key.mono HB.out.size,hco.sum.mono HB.out.size,hco.mn.mono HB.out.size,hco.mx.mono HB.out.size⟩
 have hfin:=hco2.only on5 o4 (by decide)
 have hbf:Below w.heap.size w W5:=hb04.trans (on5.below (by omega) hb04.size)
 have r0:=o5.cell (i:=0) rfl
 have r1:=o5.cell (i:=1) rfl
 have r2:=o5.cell (i:=2) rfl
 have r3:=o5.cell (i:=3) rfl
 have r4:=o5.cell (i:=4) rfl
 have HW5:=Lib.hid hW5
 have Hfin:=Lib.hid hfin
 have Hbf:=Lib.hid hbf
 clear hW5 o5 on5 hfin hbf hco hco2 hb4 hb04 o4
 go_wp2
 have e5:=HW5.out
 unfold put5 at e5
 rw[← e5]
 clear e5
 exact bodyPost_ret (v:=.agg #[.slice P1 J.key.length c1',.int .i64 J.cnt,.slice P2 J.sum.length c2',.slice P3 J.mn.length c3',.slice P4 J.mx.length c4']) (by simp[results,Tryz.results217,go_sem,r0,r1,r2,r3,r4]) rfl ⟨_,_,_,_,rfl,Hfin.out,Hbf.out⟩
end Go.Proofs.YtnjlkhhcfiedbaaGreatDoor

import Derived.IntWalk
import Derived.Test.YtnjlkhhcfiedbaaGreatDoorSl
import Derived.Test.YtnjlkhhcfiedbaaGreatDoorHpW
import Derived.Test.YtnjlkhhcfiedbaaGreatDoorGood5
import Derived.Test.YtnjlkhhcfiedbaaGreatDoorExC
import Derived.Test.YtnjlkhhcfiedbaaGreatDoorAliP
import Derived.Test.YtnjlkhhcfiedbaaGreatDoorGroupN
import Derived.Test.YtnjlkhhcfiedbaaGreatDoorHpV
import Derived.Test.YtnjlkhhcfiedbaaGreatDoorExQ
import Derived.Test.YtnjlkhhcfiedbaaGreatDoorCelg
import Derived.Test.YtnjlkhhcfiedbaaGreatDoorRfacts
namespace Go.Proofs.YtnjlkhhcfiedbaaGreatDoor
open Go.RowKit Go.Shelf Go.Sort
attribute [local go_sem] Oper.semAt_some
structure FitI (w0:World) (z b2 b6 b7:Nat) (Ls:Value) (X:World):Prop where
 bw:Below w0.heap.size w0 X
 zX:z≤X.heap.size
 o2:Own 4 X b2 [.bool false]
 o6:Own 98 X b6 kdV
 o7:Own 64 X b7 [Ls]
theorem FitI.stay {w0 X Y:World} {z b2 b6 b7:Nat} {Ls:Value} {M:Nat→Prop} (h:FitI w0 z b2 b6 b7 Ls X) (hw:b2<z∧b6<z∧b7<z∧w0.heap.size≤z) (ht:Tch M X Y) (hM:∀ k,M k→z≤k):FitI w0 z b2 b6 b7 Ls Y:=by
 have no:∀ b,b<z→¬ M b:=fun b hb hm=>by have:=hM b hm;omega
 exact⟨h.bw.trans (ht.below (fun k hk=>by have:=hM k hk;omega) h.bw.size),Nat.le_trans h.zX ht.size,h.o2.tchM ht (no _ hw.1),h.o6.tchM ht (no _ hw.2.1),h.o7.tchM ht (no _ hw.2.2.1)⟩
set_option maxRecDepth 100000 in
set_option maxHeartbeats 8000000 in
theorem hfit_any (P:Option Addr) (c N me:Nat) (Js:List (List Cel)) (w:World) (hN:N=Js.length) (hN1:N≤1000) (hR:RCc w P N Js) (hk:∀ J ∈ Js,∀ x ∈ J,x.key.length≤1000000) (hr:∀ J ∈ Js,RiseC J) (hev:∀ J ∈ Js,∀ x ∈ J,EvenC me x) (hme:me≤1000000) (htot:Js.flatten.length≤1000) :
  Calls Tryz.prog 64 #[.slice P N c] w fun e w'=>e=.returned (.bool true)∧Below w.heap.size w w':=by
 have HR:=Lib.hid hR
 have HK:=Lib.hid hk
 have HRI:=Lib.hid hr
 have HEV:=Lib.hid hev
 have HTT:=Lib.hid htot
 have HNN:=Lib.hid (And.intro hN hN1)
 have hX1:Below w.heap.size w (w.alloc (.cells #[.bool false] 4)):=(Below.refl _ _).alloc (Nat.le_refl _) _
 have HX1:=Lib.hid hX1
 have hO1:Own 4 (w.alloc (.cells #[.bool false] 4)) w.heap.size [.bool false]:=heap_alloc_new w _
 have HO1:=Lib.hid hO1
 clear hR hk hr hev htot hN hX1 hO1
 rw[← callsIn_wide (n:=12)]
 refine callsIn_of_wp_marks Tryz.func64 rfl trivial ?_ rfl
 simp only[Tryz.ntmps64,List.size_toArray,List.length_cons,List.length_nil,Nat.reduceAdd,Nat.reduceSub,Array.replicate_succ,Array.replicate_zero,List.push_toArray,List.append_toArray,List.nil_append,List.cons_append]
 gi_wp2_with fail
 gi_loopw [8] (fun p wr=>∃ i:Nat,p=.int .i64 (i:Int)∧i≤N∧Below w.heap.size w wr∧Own 4 wr w.heap.size [.bool false]) (fun p _=>N - (intOf p).toNat)
 case atStart=>exact⟨0,rfl,Nat.zero_le _,HX1.out,HO1.out⟩
 case round =>
  obtain⟨i,rfl,hiN,hb,ho⟩:=hrel
  rename World=>wr
  by_cases hlt:i<N
  ·obtain⟨J,hJ⟩:∃ J,Js[i]? = some J:=⟨_,List.getElem?_eq_getElem (by rw[← HNN.out.1];exact hlt)⟩
   obtain⟨ad,rfl,hc⟩:=HR.out (by omega)
   obtain⟨Pi,ci,c1,hrow,hcap⟩:=hc i J hJ
   have kw:=Keeps.of_below hb
   have d1:=kw _ _ c1
   have hJm:=List.mem_of_getElem? hJ
   have hJl:J.length≤1000:=by
    have h1:=HTT.out
    have h2:J.length≤Js.flatten.length:=(List.sublist_flatten_of_mem hJm).length_le
    omega
   have HS:=Lib.hid (sorted_any Pi ci J.length J wr (hrow.keep kw) rfl hJl (HK.out J hJm))
   rw[rise_prs (HRI.out J hJm)] at HS
   obtain⟨jl,hjl⟩:∃ z,z=J.length:=⟨_,rfl⟩
   rw[← hjl] at HS d1
   have i0:(0:Int)≤(i:Int):=by omega
   have i1:(i:Int)<(N:Int):=by omega
   have e8:decide ((i:Int)<(N:Int))=true:=by simp;omega
   have e9:decide (i<N)=true:=by simp;omega
   have hwr:IntKind.i64.wrap ((i:Int)+1)=((i+1:Nat):Int):=by rw[IntWalk.i64_in _ (by omega)];rfl
   have HB:=Lib.hid hb
   have HO:=Lib.hid ho
   clear hc c1 hrow hcap kw hJm hJl hjl hJ hb ho
   gi_wp2_with fail
   refine⟨trivial,?_⟩
   refine (callsIn_wide.2 HS.out).mono ?_
   rintro e w2 ⟨rfl,hb2⟩
   have HE:=Lib.hid (show Below w.heap.size w w2∧Own 4 w2 w.heap.size [.bool false] from ⟨HB.out.trans (hb2.mono HB.out.size),HO.out.below hb2 HO.out.lt⟩)
   clear hb2
   gi_wp2_with fail
   go_roundw
   case rel=>exact⟨i+1,by go_num,by omega,HE.out⟩
   case measure=>simp[intOf];omega
  ·obtain rfl:i=N:=by omega
   have e8:decide ((i:Int)<(i:Int))=false:=by simp
   have HB:=Lib.hid hb
   have HO:=Lib.hid ho
   clear hb ho
   gi_wp2_with fail
   refine⟨trivial,?_⟩
   refine (callsIn_wide.2 (bykeys_any wr)).mono ?_
   rintro e w3 ⟨rfl,hb3⟩
   have HB3:=Lib.hid (HB.out.trans (hb3.mono HB.out.size))
   have HO3:=Lib.hid (HO.out.below hb3 HO.out.lt)
   clear hb3
   gi_wp2_with fail
   refine⟨trivial,?_⟩
   refine (callsIn_wide.2 (alike_fn P i c w3)).mono ?_
   rintro e w4 ⟨rfl,rfl⟩
   gi_wp2_with fail
   obtain⟨W4,hW4⟩:∃ W4,W4=(w3.alloc (.cells #[.func (.func 97) #[] #[],.func (.func 62) #[] #[]] 98)).alloc (.cells #[.slice P i c] 64):=⟨_,rfl⟩
   rw[← hW4]
   have s1:(w3.alloc (.cells #[.func (.func 97) #[] #[],.func (.func 62) #[] #[]] 98)).heap.size=w3.heap.size+1:=by simp
   have e6:Own 98 W4 w3.heap.size kdV:=by rw[hW4];exact (Below.heap_alloc _ _ _ (by simp)).trans (heap_alloc_new w3 _)
   have e7:Own 64 W4 (w3.heap.size+1) [.slice P i c]:=by rw[hW4,← s1];exact heap_alloc_new _ _
   have hz4:W4.heap.size=w3.heap.size+2:=by rw[hW4];simp
   have hb34:Below w3.heap.size w3 W4:=by rw[hW4];exact ((Below.refl _ _).alloc (Nat.le_refl _) _).alloc (by simp) _
   have e2:=HO3.out.below hb34 HO3.out.lt
   have hlt2:=HO3.out.lt
   have hb4:=HB3.out.trans (hb34.mono HB3.out.size)
   obtain⟨b7,hb7⟩:∃ b,b=w3.heap.size+1:=⟨_,rfl⟩
   obtain⟨b6,hb6⟩:∃ b,b=w3.heap.size:=⟨_,rfl⟩
   obtain⟨b2,hb2⟩:∃ b,b=w.heap.size:=⟨_,rfl⟩
   rw[← hb7] at e7
   rw[← hb6] at e6
   rw[← hb2] at e2
   rw[← hb7,← hb6,← hb2]
   have hw:b2<W4.heap.size∧b6<W4.heap.size∧b7<W4.heap.size∧w.heap.size≤W4.heap.size:=by omega
   have HI0:=Lib.hid (show FitI w W4.heap.size b2 b6 b7 (.slice P i c) W4 from ⟨hb4,Nat.le_refl _,e2,e6,e7⟩)
   have HW:=Lib.hid hw
   have HB2:=Lib.hid hb2
   clear e2 e6 e7 hb4 hz4 hW4 hb7 hb6 hb2 hw s1 hb34 hlt2 HO3 HB3 HO HB e8 hlt hiN
   refine range_st rfl (by omega) (gf:=116) (lb:=#[.pointer (some ⟨b7,0,none⟩),.pointer (some ⟨b6,0,none⟩)]) rfl trivial (enters_of Tryz.func116 (by kernel_rfl) rfl) (encs:=fun x:GX=>#[x.1]) (S:=fun xs (_:Unit)=>GrpG (xs.map (·.2))∧(xs.map (·.2)).flatten.Perm Js.flatten) (fun _=>rfl)
    (fun _ _=>FitI w W4.heap.size b2 b6 b7 (.slice P i c)) (fun pre x _ W=>GpX w W Js.flatten x∧pre.length+x.2.length≤Js.flatten.length) (fun _ _ _=>False) (fun _ k=>W4.heap.size+2≤k) ()
    (fun x _=>{ tmps:=#[.slice P i c,undef,.pointer (some ⟨b2,0,none⟩),undef,u4,x.1,.slice P i c,.int .i64 (i:Int),.int .i64 (i:Int),.bool false,u10,u11,u12,u13,u14,u15,.agg #[.func (.func 97) #[] #[],.func (.func 62) #[] #[]],.slice P i c,.func (.func 116) #[] #[.pointer (some ⟨b7,0,none⟩),.pointer (some ⟨b6,0,none⟩)],x.1,undef,undef,undef,undef,undef,undef,undef,undef],defers:=[] }) (fun _ W=>W)
    ?hit ?hI ?hok ?htc ?h0 ?hwa ?hassign ?hbody ?hdone
   case hit =>
    intro J' W2 hbW hsz hJI' hst' hYl h0'
    refine malike_in (12 - 1) (W4.heap.size+1) b7 b6 (by omega) P c i Js w W2 HNN.out.1 HNN.out.2 HR.out HK.out HRI.out (Nat.le_trans HTT.out (by omega)) J' (fun _ k=>W4.heap.size+2≤k) (fun _ _ _=>False)
     ⟨fun pre s X h=>(hJI' pre s X h).1.bw,fun pre s X k h hk=>Nat.le_trans (hJI' pre s X h).2 hk,hst'⟩ (fun pre s X h=>⟨(hJI' pre s X h).1.o7.cell (i:=0) rfl,(hJI' pre s X h).1.o6.cell (i:=0) rfl⟩) (fun _ _ _ h=>h.elim) (fun pre s x W1 h hx hxl=>?_) _ h0'
    obtain⟨fn,tmps,assign,body,hy,hR⟩:=hYl pre s x W1 h ⟨hx,hxl⟩
    refine⟨fn,tmps,assign,body,hy,hR.mono ?_⟩
    rintro e W' ⟨he,s',hJ,hT,hk⟩
    exact⟨he,s',hJ,hT,fun k q1 q2=>hk k q1 q2 fun q3=>q3⟩
   case hI =>
    intro pre s A B M h1 ht hM
    exact h1.stay HW.out ht fun k hk=>by
     rcases hM k hk with q | ⟨q,-⟩
     ·omega
     ·omega
   case hok=>exact fun s k h=>h
   case htc=>exact fun _ _ _ _ _ _ _ _ _ _ k hk=>hk.elim
   case h0=>exact HI0.out
   case hwa=>exact fun _ W=>Below.refl _ _
   case hassign =>
    intro pre s x W K hI hx hK
    have HKK:=Lib.hid hK
    clear hI hx hK
    gi_wp2
    exact HKK.out
   case hbody =>
    rintro pre s ⟨gv,gl⟩ X Xb hI hx hsz ⟨r,hr⟩ hT
    obtain⟨⟨⟨g,c',gus,hgv,hgc,hgr,hgl⟩,hgne,hgk,hgm⟩,hxl⟩:=hx
    dsimp only at hgv hgc hgr hgl hgne hgk hgm hxl ⊢
    subst hgv
    have hIb:=hI.stay HW.out hT (fun k hk=>by rw[show k=W4.heap.size+1 from hk];omega)
    have hcr:CellsR Xb ⟨g,0,none⟩ gl:=cells_of_vals (hgr.keep (Keeps.of_below hIb.bw)) fun j u hu=>by rw[add0];exact cell_not_loop hr hT (hgl j u hu)
    have HEVN:=Lib.hid (meven_any ⟨g,0,none⟩ c' gl me Xb hcr (fun y hy=>by
     obtain⟨J,hJ,hy⟩:=List.mem_flatten.1 (hgm y hy)
     exact HEV.out J hJ y hy) hme (by have:=HTT.out;omega))
    obtain⟨m,hm⟩:∃ m,m=gl.length:=⟨_,rfl⟩
    rw[← hm] at HEVN ⊢
    have HIB:=Lib.hid hIb
    have HSZ:=Lib.hid hT.size
    clear hI hIb hcr hgc hgr hgl hgne hgk hgm hxl hm hr hT hsz
    by_cases h1:1<m
    ·have e8:decide ((1:Int)<(m:Int))=true:=by simp;omega
     have e9:decide (1<m)=true:=by simp;omega
     clear h1
     gi_wp2_with fail
     refine⟨trivial,?_⟩
     refine (CallsIn.inRound _ (callsIn_wide.2 HEVN.out)).mono ?_
     rintro e w5 ⟨rfl,hb5⟩
     have HT5:=Lib.hid (Tch.of_below (fun _=>False) hb5)
     clear hb5
     gi_wp2
     exact⟨(),HIB.out.stay HW.out HT5.out (fun k hk=>hk.elim),HT5.out,fun k _ h2 _=>h2⟩
    ·have e8:decide ((1:Int)<(m:Int))=false:=by simp;omega
     have e9:decide (1<m)=false:=by simp;omega
     gi_wp2_with fail
     refine⟨trivial,?_⟩
     gi_wp2
     exact⟨(),HIB.out,Tch.refl _ _,fun k _ h2 _=>h2⟩
   case hdone =>
    intro xs s W hS hI hD0
    have c2:=hI.o2.cell (i:=0) rfl
    have fz2:=hI.o2.frozen 0
    try dsimp only at c2 fz2
    have ORB:=Lib.hid hI.o2
    have HBW:=Lib.hid hI.bw
    have HDN:=Lib.hid hD0
    clear hS hI hD0
    gi_wp2
    have hD2:(W.setCell ⟨b2,0,none⟩ (.bool true)).heap[W4.heap.size]? = some (.deferred (some [])):=(Below.heap_setCell _ _ _ _ (by show W4.heap.size ≠ b2;have:=HW.out;omega)).trans HDN.out
    refine⟨by simp,.inl ⟨_,_,rfl,run_takeDeferred hD2,?_⟩⟩
    have hc2:((W.setCell ⟨b2,0,none⟩ (.bool true)).putObj W4.heap.size (.deferred none)).cell? ⟨b2,0,none⟩=some (.bool true) :=
     Own.cell (i:=0) (vs:=[.bool true]) (T:=4) ((World.putObj_heap_other (by have:=HW.out;omega)).trans (ORB.out.set_ 0 _)) rfl
    refine⟨.bool true,?_,rfl,?_⟩
    ·simp[results,go_sem,hc2]
    ·have e1:Below w.heap.size w (W.setCell ⟨b2,0,none⟩ (.bool true)):=HBW.out.setCell (p:=⟨b2,0,none⟩) (Nat.le_of_eq HB2.out.symm) _
     exact e1.trans ((Tch.of_putS hD2).below (fun k hk=>by have:=HW.out;omega) e1.size)
end Go.Proofs.YtnjlkhhcfiedbaaGreatDoor
namespace Go.Proofs.YtnjlkhhcfiedbaaGreatDoor
open Go.RowKit Go.Shelf Go.Sort
attribute [local go_sem] Oper.semAt_some
set_option maxRecDepth 100000 in
set_option maxHeartbeats 8000000 in
theorem mcloned_any (P:Option Addr) (c N:Nat) (L:List Cel) (w:World) (hr:RowC w P N L) (hN:N=L.length) (hN1:N≤100000) (hl:∀ x ∈ L,x.key.length≤1000000∧x.sum.length≤1000000∧x.mn.length≤1000000∧x.mx.length≤1000000) :
  Calls Tryz.prog 67 #[.slice P N c] w fun e w'=>(∃ v us,e=.returned v∧GRs w.heap.size w' v us L)∧Below w.heap.size w w':=by
 have HR:=Lib.hid hr
 have HL:=Lib.hid hl
 have HN:=Lib.hid hN
 clear hr hl hN
 go_enter Tryz.func67,Tryz.ntmps67
 go_wp2_with fail
 go_loopw [3,8] (fun s3 s8 wr=>∃ (i:Nat) (us:List V5),s8=.int .i64 (i:Int)∧i≤N∧us.length=i∧GRs w.heap.size wr s3 us (L.take i)∧Below w.heap.size w wr) (fun _ s8 _=>N - (intOf s8).toNat)
 case atStart=>exact⟨0,[],rfl,Nat.zero_le _,rfl,GRs.nil _ _,Below.refl _ _⟩
 case round =>
  obtain⟨i,us,rfl,hiN,hus,hG,hb⟩:=hrel
  rename World=>wr
  by_cases hlt:i<N
  ·obtain⟨x,hx⟩:∃ x,L[i]? = some x:=⟨_,List.getElem?_eq_getElem (by rw[← HN.out];exact hlt)⟩
   obtain⟨ad,rfl,hcs⟩:=HR.out (by omega)
   obtain⟨vk,vs,vn,vm,a0,a1,a2,a3,a4,hcr,hck⟩:=(hcs i x hx).keep (Keeps.of_below hb)
   obtain⟨X1,hX1⟩:∃ X1,X1=wr.alloc (.cells #[vk,.int .i64 x.cnt,vs,vn,vm] 46):=⟨_,rfl⟩
   have hbx:Below wr.heap.size wr X1:=by rw[hX1];exact (Below.refl _ _).alloc (Nat.le_refl _) _
   have o5:Own 46 X1 wr.heap.size [vk,.int .i64 x.cnt,vs,vn,vm]:=by rw[hX1];exact heap_alloc_new wr _
   have hcx:=hcr.keep (Keeps.of_below hbx)
   obtain⟨L1,L2,L3,L4⟩:=HL.out x (List.mem_of_getElem? hx)
   have HC1:=Lib.hid (fun (V:World) (hv:Keeps X1 V)=>clone_any vk x.key V (hcx.key.keep hv) L1)
   have HC2:=Lib.hid (fun (V:World) (hv:Keeps X1 V)=>clone_any vs x.sum V (hcx.sum.keep hv) L2)
   have HC3:=Lib.hid (fun (V:World) (hv:Keeps X1 V)=>clone_any vn x.mn V (hcx.mn.keep hv) L3)
   have HC4:=Lib.hid (fun (V:World) (hv:Keeps X1 V)=>clone_any vm x.mx V (hcx.mx.keep hv) L4)
   obtain⟨⟨P1,q1,f1,-⟩,⟨P2,q2,f2,-⟩,⟨P3,q3,f3,-⟩,⟨P4,q4,f4,-⟩⟩:=hcr
   subst f1 f2 f3 f4
   obtain⟨xc,exc⟩:∃ z,z=x.cnt:=⟨_,rfl⟩
   obtain⟨l1,hl1⟩:∃ z,z=x.key.length:=⟨_,rfl⟩
   obtain⟨l2,hl2⟩:∃ z,z=x.sum.length:=⟨_,rfl⟩
   obtain⟨l3,hl3⟩:∃ z,z=x.mn.length:=⟨_,rfl⟩
   obtain⟨l4,hl4⟩:∃ z,z=x.mx.length:=⟨_,rfl⟩
   rw[← hl1] at HC1 a0
   rw[← hl2] at HC2 a2
   rw[← hl3] at HC3 a3
   rw[← hl4] at HC4 a4
   rw[← exc] at a1
   rw[← exc,← hl1,← hl2,← hl3,← hl4] at o5 hX1
   have i0:(0:Int)≤(i:Int):=by omega
   have i1:(i:Int)<(N:Int):=by omega
   have e8:decide ((i:Int)<(N:Int))=true:=by simp;omega
   have hwr:IntKind.i64.wrap ((i:Int)+1)=((i+1:Nat):Int):=by rw[IntWalk.i64_in _ (by omega)];rfl
   obtain⟨b5,hb5⟩:∃ b,b=wr.heap.size:=⟨_,rfl⟩
   rw[← hb5] at o5
   have bx:=Own.bx o5
   have HG:=Lib.hid hG
   have HB:=Lib.hid hb
   have HBX:=Lib.hid hbx
   have HX1:=Lib.hid hX1
   have HB5:=Lib.hid hb5
   have HX:=Lib.hid (And.intro hx (And.intro exc (And.intro hck hus)))
   clear hG hb hbx hX1 hb5 hx exc hck hus hcs hcx hl1 hl2 hl3 hl4 L1 L2 L3 L4 o5 hiN
   go_upto_region 5 with (fail)
   rw[← HX1.out,← HB5.out]
   clear a0 a1 a2 a3 a4
   have kd:Keeps X1 X1.drew:=(Keeps.refl X1).drewN 1
   refine region_P (S:=fun W=>Bx W b5 (.slice P1 l1 q1) (.int .i64 xc) (.slice P2 l2 q2) (.slice P3 l3 q3) (.slice P4 l4 q4)) (kill:=[17,18]) (by kernel_rfl) bx (fun hHeld=>?_)
   refine WTP (i:=0) (v:=?vca0) ?yca0 hHeld ?rca0
   case yca0=>(intro W hW;obtain⟨g0,g1,g2,g3,g4⟩:=hW;go_simp;first | done | with_reducible rfl)
   try simp only[SL,Act.put]
   refine WTP (i:=1) (v:=?vca1) ?yca1 hHeld ?rca1
   case yca1=>(intro W hW;obtain⟨g0,g1,g2,g3,g4⟩:=hW;go_simp;first | done | with_reducible rfl)
   try simp only[SL,Act.put]
   refine WTP (i:=2) (v:=?vca2) ?yca2 hHeld ?rca2
   case yca2=>(intro W hW;obtain⟨g0,g1,g2,g3,g4⟩:=hW;go_simp;first | done | with_reducible rfl)
   try simp only[SL,Act.put]
   refine WTP (i:=4) (v:=?vca4) ?yca4 hHeld ?rca4
   case yca4=>(intro W hW;obtain⟨g0,g1,g2,g3,g4⟩:=hW;go_simp;first | done | with_reducible rfl)
   try simp only[SL,Act.put]
   refine WTP (i:=5) (v:=?vca5) ?yca5 hHeld ?rca5
   case yca5=>(intro W hW;obtain⟨g0,g1,g2,g3,g4⟩:=hW;go_simp;first | done | with_reducible rfl)
   try simp only[SL,Act.put]
   refine WTP (i:=6) (v:=?vca6) ?yca6 hHeld ?rca6
   case yca6=>(intro W hW;obtain⟨g0,g1,g2,g3,g4⟩:=hW;go_simp;first | done | with_reducible rfl)
   try simp only[SL,Act.put]
   refine WTP (i:=7) (v:=?vca7) ?yca7 hHeld ?rca7
   case yca7=>(intro W hW;obtain⟨g0,g1,g2,g3,g4⟩:=hW;go_simp;first | done | with_reducible rfl)
   try simp only[SL,Act.put]
   refine WTP (i:=9) (v:=?vca9) ?yca9 hHeld ?rca9
   case yca9=>(intro W hW;obtain⟨g0,g1,g2,g3,g4⟩:=hW;go_simp;first | done | with_reducible rfl)
   try simp only[SL,Act.put]
   refine WTP (i:=10) (v:=?vca10) ?yca10 hHeld ?rca10
   case yca10=>(intro W hW;obtain⟨g0,g1,g2,g3,g4⟩:=hW;go_simp;first | done | with_reducible rfl)
   try simp only[SL,Act.put]
   refine WTP (i:=12) (v:=?vca12) ?yca12 hHeld ?rca12
   case yca12=>(intro W hW;obtain⟨g0,g1,g2,g3,g4⟩:=hW;go_simp;first | done | with_reducible rfl)
   try simp only[SL,Act.put]
   refine WTP (i:=13) (v:=?vca13) ?yca13 hHeld ?rca13
   case yca13=>(intro W hW;obtain⟨g0,g1,g2,g3,g4⟩:=hW;go_simp;first | done | with_reducible rfl)
   try simp only[SL,Act.put]
   refine anyP_ready (rs:=[3]) (by kernel_rfl) (by simp) ?_
   refine AllP.cons rfl (fun K hK=>?_) (AllP.nil)
   go_simp
   refine (HC1.out X1.drew kd).mono ?_
   rintro e V1 ⟨v1,rfl,ho1,hb1⟩
   have kb1:=Keeps.of_below hb1
   refine hK.out _ _ (fun _ hh=>hh.keep kb1) ?_
   clear hK K
   try simp only[SL,Act.put]
   have k1:Keeps X1 V1:=kd.trans kb1
   refine anyP_ready (rs:=[8]) (by kernel_rfl) (by simp) ?_
   refine AllP.cons rfl (fun K hK=>?_) (AllP.nil)
   go_simp
   refine (HC2.out V1 k1).mono ?_
   rintro e V2 ⟨v2,rfl,ho2,hb2⟩
   have kb2:=Keeps.of_below hb2
   refine hK.out _ _ (fun _ hh=>hh.keep kb2) ?_
   clear hK K
   try simp only[SL,Act.put]
   have k2:Keeps X1 V2:=k1.trans kb2
   refine anyP_ready (rs:=[11]) (by kernel_rfl) (by simp) ?_
   refine AllP.cons rfl (fun K hK=>?_) (AllP.nil)
   go_simp
   refine (HC3.out V2 k2).mono ?_
   rintro e V3 ⟨v3,rfl,ho3,hb3⟩
   have kb3:=Keeps.of_below hb3
   refine hK.out _ _ (fun _ hh=>hh.keep kb3) ?_
   clear hK K
   try simp only[SL,Act.put]
   have k3:Keeps X1 V3:=k2.trans kb3
   refine anyP_ready (rs:=[14]) (by kernel_rfl) (by simp) ?_
   refine AllP.cons rfl (fun K hK=>?_) (AllP.nil)
   go_simp
   refine (HC4.out V3 k3).mono ?_
   rintro e V4 ⟨v4,rfl,ho4,hb4⟩
   have kb4:=Keeps.of_below hb4
   refine hK.out _ _ (fun _ hh=>hh.keep kb4) ?_
   clear hK K
   try simp only[SL,Act.put]
   have s1:=hb1.size
   have s2:=hb2.size
   have s3:=hb3.size
   have s4:=hb4.size
   have hz0:w.heap.size≤X1.drew.heap.size:=Nat.le_trans HB.out.size HBX.out.size
   have b14:Below X1.drew.heap.size X1.drew V4:=hb1.trans ((hb2.mono s1).trans ((hb3.mono (Nat.le_trans s1 s2)).trans (hb4.mono (Nat.le_trans s1 (Nat.le_trans s2 s3)))))
   have bwr:Below wr.heap.size wr V4:=HBX.out.trans (((Below.refl X1.heap.size X1).drew.trans b14).mono HBX.out.size)
   have hOC:OwnC w.heap.size V4 ⟨v1,.int .i64 x.cnt,v2,v3,v4⟩ x:=⟨rfl,CO.mk ((((ho1.below hb2).below hb3).below hb4).mono hz0) (((ho2.below hb3).below hb4).mono (Nat.le_trans hz0 s1)) ((ho3.below hb4).mono (Nat.le_trans hz0 (Nat.le_trans s1 s2))) (ho4.mono (Nat.le_trans hz0 (Nat.le_trans s1 (Nat.le_trans s2 s3)))),HX.out.2.2.1⟩
   obtain⟨v',Y,hrun,hG2,hgr,-⟩:=append_one (HG.out.below bwr) hOC (by have:=HX.out;omega) (Nat.le_trans HB.out.size bwr.size)
   have hfin:Below w.heap.size w Y:=(HB.out.trans (bwr.mono HB.out.size)).trans (((Below.refl V4.heap.size V4).alloc (Nat.le_refl _) (.cells #[v1,.int .i64 x.cnt,v2,v3,v4] 46)).mono (Nat.le_trans HB.out.size bwr.size) |>.trans ((Below.refl _ _).grown hgr (Nat.le_trans (Nat.le_trans HB.out.size bwr.size) (by simp)) fun k hk=>(HG.out.1.lt k hk).1))
   obtain⟨⟨A1,a1,g1,-⟩,⟨A2,a2,g2,-⟩,⟨A3,a3,g3,-⟩,⟨A4,a4,g4,-⟩⟩:=And.intro ho1.form (And.intro ho2.form (And.intro ho3.form ho4.form))
   subst g1 g2 g3 g4
   dsimp only at hrun
   rw[← HX.out.2.1] at hrun
   have htk:L.take (i+1)=L.take i ++ [x]:=by rw[List.take_add_one,HX.out.1,Option.toList_some]
   rw[← htk] at hG2
   have HE:=Lib.hid (And.intro (show (us ++ [(⟨.slice A1 x.key.length a1,.int .i64 x.cnt,.slice A2 x.sum.length a2,.slice A3 x.mn.length a3,.slice A4 x.mx.length a4⟩:V5)]).length=i+1 by rw[List.length_append,HX.out.2.2.2];rfl) (And.intro hG2 hfin))
   have Hrun:=Lib.hid hrun
   clear hrun hG2 hfin hgr hOC bwr b14 ho1 ho2 ho3 ho4 hb1 hb2 hb3 hb4 htk k1 k2 k3 kb1 kb2 kb3 kb4 hz0 kd bx hHeld HC1 HC2 HC3 HC4 s1 s2 s3 s4
   generalize x.key.length=z5 at *
   generalize x.sum.length=z6 at *
   generalize x.mn.length=z7 at *
   generalize x.mx.length=z8 at *
   refine anyP_pure (i:=15) (v:=?vca15) rfl (by kernel_rfl) (by kernel_rfl) (by kernel_rfl) (by kernel_rfl) (fun _ _ _ h=>h) (Or.inl ⟨by rfl,?yca15⟩) ?rca15
   case yca15=>(intro W hW;go_simp;first | done | with_reducible rfl)
   try simp only[SL,Act.put]
   refine anyP_ready (rs:=[16]) (by kernel_rfl) (by simp) ?_
   refine AllP.cons rfl (fun K hK=>?_) (AllP.nil)
   go_simp
   refine hK.out _ _ (fun _ hh=>hh.keep (Keeps.of_below ((Below.refl _ _).alloc (Nat.le_refl _) _))) ?_
   clear hK K
   try simp only[SL,Act.put]
   refine anyP_ready (rs:=[17]) (by kernel_rfl) (by simp) ?_
   refine AllP.cons rfl (fun K hK=>?_) (AllP.nil)
   rw[if_pos (by rfl)]
   refine oper_append (.tmp 12) (.tmp 28) 31 rfl _ _ _ _ rfl rfl Hrun.out ?_
   refine hK.out _ _ (fun h=>absurd (by decide) h) ?_
   clear hK K
   try simp only[SL,Act.put]
   refine anyP_pure (i:=18) (v:=?vca18) rfl (by kernel_rfl) (by kernel_rfl) (by kernel_rfl) (by kernel_rfl) (fun _ _ _ h=>h) (Or.inl ⟨by rfl,?yca18⟩) ?rca18
   case yca18=>(intro W hW;go_simp;first | done | with_reducible rfl)
   try simp only[SL,Act.put]
   refine anyP_done (by kernel_rfl) ?_ _
   go_wp2_with fail
   go_roundw
   case rel=>exact⟨i+1,_,by go_num,by omega,HE.out⟩
   case measure=>simp[intOf];omega
  ·obtain rfl:i=N:=by omega
   have e8:decide ((i:Int)<(i:Int))=false:=by simp
   rw[HN.out,List.take_length] at hG
   have HF:=Lib.hid (And.intro hG hb)
   clear hG hb
   go_wp2_with fail
   go_ret
   exact⟨⟨_,us,rfl,HF.out.1⟩,HF.out.2⟩
end Go.Proofs.YtnjlkhhcfiedbaaGreatDoor
namespace Go.Proofs.YtnjlkhhcfiedbaaGreatDoor
open Go.RowKit Go.Shelf Go.Sort
attribute [local go_sem] Oper.semAt_some
def MPk (me:Nat) (Js:List (List Cel)):Prop:=(∀ J ∈ Js,RiseC J)∧(∀ x ∈ Js.flatten,EvenC me x∧x.key.length≤1000000)∧Js.flatten.length≤1000
theorem MPk.keys {me:Nat} {Js:List (List Cel)} (h:MPk me Js):∀ J ∈ Js,∀ x ∈ J,x.key.length≤1000000:=fun J hJ x hx=>(h.2.1 x (List.mem_flatten.2 ⟨J,hJ,hx⟩)).2
theorem MPk.even {me:Nat} {Js:List (List Cel)} (h:MPk me Js):∀ J ∈ Js,∀ x ∈ J,EvenC me x:=fun J hJ x hx=>(h.2.1 x (List.mem_flatten.2 ⟨J,hJ,hx⟩)).1
theorem MPk.pass {me f:Nat} {Js:List (List Cel)} (hf:1≤f) (h:MPk me Js):MPk me (passP f Js) :=
 ⟨pass_rise f Js,pass_p (p:=fun x=>EvenC me x∧x.key.length≤1000000) (fun _ _ hy hc=>⟨join_even hy.1 hc.1,hy.2⟩) hf h.2.1,Nat.le_trans (pass_flen hf Js) h.2.2⟩
def slLen:Value→Nat
 | .slice _ n _=>n
 | _=>0
def MrgR (w:World) (G:List Cel) (p:Nat) (e:Ending) (w':World):Prop:=(∃ A c,e=.returned (.tuple #[.slice A G.length c,.int .i64 (p:Int)])∧RowC w' A G.length G)∧Below w.heap.size w w'
set_option maxRecDepth 100000 in
set_option maxHeartbeats 8000000 in
theorem hmerge_any (P:Option Addr) (c N me f:Nat) (Js:List (List Cel)) (w:World) (hN:N=Js.length) (hN1:N≤1000) (hNc:N≤c) (hf1:2≤f) (hf2:f≤9223372036854775807) (hR:RCc w P N Js) (hk:MPk me Js) (hme:me≤1000000) :
  Calls Tryz.prog 66 #[.agg #[.func (.func 97) #[] #[],.func (.func 62) #[] #[]],.slice P N c,.int .i64 (f:Int)] w (MrgR w (grpR Js.flatten) (passN f N)):=by
 have HR:=Lib.hid hR
 have HK:=Lib.hid hk
 have HNN:=Lib.hid (And.intro hN (And.intro hN1 (And.intro hNc (And.intro hf1 hf2))))
 obtain⟨X0,hX0⟩:∃ X0,X0=w.alloc (.cells #[.func (.func 97) #[] #[],.func (.func 62) #[] #[]] 98):=⟨_,rfl⟩
 have HB0:=Lib.hid (show Below w.heap.size w X0 from by rw[hX0];exact (Below.refl _ _).alloc (Nat.le_refl _) _)
 have HO0:=Lib.hid (show Own 98 X0 w.heap.size [.func (.func 97) #[] #[],.func (.func 62) #[] #[]] from by rw[hX0];exact heap_alloc_new w _)
 have HX0:=Lib.hid hX0
 obtain⟨b3,hb3⟩:∃ b,b=w.heap.size:=⟨_,rfl⟩
 rw[← hb3] at HO0
 have HB3:=Lib.hid hb3
 clear hR hk hN hN1 hNc hf1 hf2 hX0 hb3
 go_enter Tryz.func66,Tryz.ntmps66
 go_wp2_with fail
 rw[← HX0.out,← HB3.out]
 go_loopw [1,7] (fun s1 s7 wr=>∃ (Ks:List (List Cel)) (A:Option Addr) (n q p:Nat),s1=.slice A n q∧s7=.int .i64 (p:Int)∧(n=Ks.length∧n≤1000∧n≤q)∧RCc wr A n Ks∧MPk me Ks∧grpR Ks.flatten=grpR Js.flatten∧(p+passN f n=passN f N∧p+n≤1000)∧Own 98 wr b3 [.func (.func 97) #[] #[],.func (.func 62) #[] #[]]∧Below w.heap.size w wr) (fun s1 _ _=>slLen s1)
 case atStart=>exact⟨Js,P,N,c,0,rfl,rfl,⟨HNN.out.1,HNN.out.2.1,HNN.out.2.2.1⟩,HR.out.keep (Keeps.of_below HB0.out),HK.out,rfl,⟨by omega,by have:=HNN.out.2.1;omega⟩,HO0.out,HB0.out⟩
 case round =>
  obtain⟨Ks,A,n,q,p,rfl,rfl,hn,hR,hM,hG,hp,ho,hb⟩:=hrel
  rename World=>wr
  have HM:=Lib.hid hM
  have HG:=Lib.hid hG
  have HP:=Lib.hid hp
  have HN:=Lib.hid hn
  have HB:=Lib.hid hb
  have HRK:=Lib.hid hR
  have r0:=ho.cell (i:=0) rfl
  have r1:=ho.cell (i:=1) rfl
  have HO:=Lib.hid ho
  have hn1:n≤1000:=hn.2.1
  clear hM hG hp hb hn ho hR
  by_cases h1:1<n
  ·have e8:decide ((1:Int)<(n:Int))=true:=by simp;omega
   have e9:decide (1<n)=true:=by simp;omega
   have HPS:=Lib.hid (hpass_any A q n me f Ks wr HN.out.1 HN.out.2.1 HN.out.2.2 (by have:=HNN.out.2.2.2.1;omega) HNN.out.2.2.2.2 HRK.out HM.out.keys HM.out.1 HM.out.even hme HM.out.2.2)
   have hwr:IntKind.i64.wrap ((p:Int)+1)=((p+1:Nat):Int):=by rw[IntWalk.i64_in _ (by have:=HP.out.2;omega)];rfl
   have H1:=Lib.hid h1
   clear h1
   go_wp2_with fail
   refine HPS.out.mono ?_
   rintro e w2 ⟨⟨A2,c2,rfl,hR2,hlc2⟩,hb2⟩
   have hpl:=pass_len (f:=f) (by have:=HNN.out.2.2.2.1;omega) Ks
   have hlt:=ceil_lt (f:=f) (n:=n) H1.out HNN.out.2.2.2.1
   have HE:=Lib.hid (show ((passP f Ks).length=(passP f Ks).length∧(passP f Ks).length≤1000∧(passP f Ks).length≤c2)∧RCc w2 A2 (passP f Ks).length (passP f Ks)∧MPk me (passP f Ks)∧grpR (passP f Ks).flatten=grpR Js.flatten∧(p+1+passN f (passP f Ks).length=passN f N∧p+1+(passP f Ks).length≤1000)∧Own 98 w2 b3 [.func (.func 97) #[] #[],.func (.func 62) #[] #[]]∧Below w.heap.size w w2 from ⟨⟨rfl,by rw[hpl,← HN.out.1];omega,hlc2⟩,hR2,HM.out.pass (by have:=HNN.out.2.2.2.1;omega),by rw[pass_grp (by have:=HNN.out.2.2.2.1;omega)];exact HG.out,⟨by rw[hpl,← HN.out.1,← HP.out.1,passN_more H1.out HNN.out.2.2.2.1];omega,by rw[hpl,← HN.out.1];have:=HP.out.2;omega⟩,HO.out.below hb2 HO.out.lt,HB.out.trans (hb2.mono HB.out.size)⟩)
   have HLT:=Lib.hid (show (passP f Ks).length<n from by rw[hpl,← HN.out.1];exact hlt)
   clear hR2 hlc2 hb2 hpl hlt
   obtain⟨n2,hgn⟩:∃ z,z=(passP f Ks).length:=⟨_,rfl⟩
   rw[← hgn] at HLT ⊢
   have HGN:=Lib.hid hgn
   clear hgn
   go_wp2_with fail
   go_roundw
   case rel=>exact⟨passP f Ks,A2,n2,c2,p+1,rfl,by go_num,by rw[HGN.out];exact⟨⟨rfl,HE.out.1.2⟩,HE.out.2⟩⟩
   case measure=>exact HLT.out
  ·have e8:decide ((1:Int)<(n:Int))=false:=by simp;omega
   have e9:decide (1<n)=false:=by simp;omega
   by_cases h2:n=1
   ·subst h2
    obtain⟨K,hK⟩:∃ K,Ks=[K]:=List.length_eq_one_iff.1 HN.out.1.symm
    obtain⟨ad,rfl,hc⟩:=HRK.out (by omega)
    obtain⟨Pi,ci,c1,hrow,-⟩:=hc 0 K (by rw[hK];rfl)
    rw[show ad.add 0=ad from by simp[Addr.add]] at c1
    have hGK:grpR Js.flatten=K:=by
     rw[← HG.out,hK]
     have:=grpR_self (HM.out.1 K (by rw[hK];simp))
     simpa using this
    have hpp:passN f N=p:=by
     have:=HP.out.1
     rw[passN_one (Nat.le_refl 1)] at this
     omega
    have HF:=Lib.hid (show MrgR w (grpR Js.flatten) (passN f N) (.returned (.tuple #[.slice Pi K.length ci,.int .i64 (p:Int)])) wr from ⟨⟨Pi,ci,by rw[hGK,hpp],by rw[hGK];exact hrow⟩,HB.out⟩)
    obtain⟨kl,hkl⟩:∃ z,z=K.length:=⟨_,rfl⟩
    rw[← hkl] at HF c1
    clear hK hc hrow hGK hpp hkl h1 r0 r1
    go_wp2_with fail
    go_ret2
    exact HF.out
   ·have h3:n=0:=by omega
    subst h3
    have hK:Ks=[]:=List.length_eq_zero_iff.1 HN.out.1.symm
    have hGK:grpR Js.flatten=[]:=by rw[← HG.out,hK];rfl
    have hpp:passN f N=p:=by
     have:=HP.out.1
     rw[passN_one (Nat.zero_le 1)] at this
     omega
    have HF:=Lib.hid (show MrgR w (grpR Js.flatten) (passN f N) (.returned (.tuple #[.slice none 0 0,.int .i64 (p:Int)])) wr from ⟨⟨none,0,by rw[hGK,hpp];rfl,fun h=>by rw[hGK] at h;cases h⟩,HB.out⟩)
    clear hK hGK hpp h1 h2 r0 r1
    go_wp2_with fail
    go_ret2
    exact HF.out
end Go.Proofs.YtnjlkhhcfiedbaaGreatDoor
namespace Go.Proofs.YtnjlkhhcfiedbaaGreatDoor
open Go.RowKit Go.Shelf Go.Sort
attribute [local go_sem] Oper.semAt_some
theorem MPk.grp {me:Nat} {Js:List (List Cel)} (h:MPk me Js):∀ x ∈ grpR Js.flatten,EvenC me x∧x.key.length≤1000000:=grp_pM (p:=fun x=>EvenC me x∧x.key.length≤1000000) (fun _ _ hy hc=>⟨join_even hy.1 hc.1,hy.2⟩) Js.flatten [] h.2.1 (fun y hy=>by cases hy)
theorem MPk.lens {me:Nat} {Js:List (List Cel)} (h:MPk me Js) (hme:me≤1000000):∀ x ∈ grpR Js.flatten,x.key.length≤1000000∧x.sum.length≤1000000∧x.mn.length≤1000000∧x.mx.length≤1000000:=fun x hx=>by
 obtain⟨⟨a,b,c⟩,d⟩:=h.grp x hx
 exact⟨d,by omega,by omega,by omega⟩
theorem MPk.glen {me:Nat} {Js:List (List Cel)} (h:MPk me Js):(grpR Js.flatten).length≤1000:=by
 have:=grp_lt Js.flatten []
 rw[show Js.flatten.foldl putC []=grpR Js.flatten from rfl,List.length_nil] at this
 have:=h.2.2
 omega
set_option maxRecDepth 100000 in
set_option maxHeartbeats 8000000 in
theorem mMerge_any (P:Option Addr) (c N me f:Nat) (Js:List (List Cel)) (w:World) (hN:N=Js.length) (hN1:N≤1000) (hNc:N≤c) (hf1:2≤f) (hf2:f≤9223372036854775807) (hR:RCc w P N Js) (hk:MPk me Js) (hme:me≤1000000) :
  Calls Tryz.prog 41 #[.slice P N c,.int .i64 (f:Int)] w fun e w'=>(∃ v us,e=.returned (.tuple #[v,.int .i64 (passN f N:Int)])∧GRs w.heap.size w' v us (grpR Js.flatten))∧Below w.heap.size w w':=by
 have HFIT:=Lib.hid (hfit_any P c N me Js w hN hN1 hR hk.keys hk.1 hk.even hme hk.2.2)
 have HR:=Lib.hid hR
 have HMG:=Lib.hid (fun (X:World) (hx:Below w.heap.size w X)=>hmerge_any P c N me f Js X hN hN1 hNc hf1 hf2 (hR.keep (Keeps.of_below hx)) hk hme)
 have HLE:=Lib.hid (And.intro (hk.lens hme) hk.glen)
 obtain⟨G,hG⟩:∃ G,G=grpR Js.flatten:=⟨_,rfl⟩
 obtain⟨pp,hpp⟩:∃ p,p=passN f N:=⟨_,rfl⟩
 rw[← hG] at HMG HLE ⊢
 rw[← hpp] at HMG ⊢
 have d1:decide ((f:Int)<2)=false:=by simp;omega
 clear hR hk hN hN1 hNc hf1 hf2 hG hpp
 go_enter Tryz.func41,Tryz.ntmps41
 go_wp2_with fail
 refine HFIT.out.mono ?_
 rintro e w1 ⟨rfl,hb1⟩
 have HB1:=Lib.hid hb1
 clear hb1
 go_wp2_with fail
 refine (bykeys_any w1).mono ?_
 rintro e w2 ⟨rfl,hb2⟩
 have HB2:=Lib.hid (HB1.out.trans (hb2.mono HB1.out.size))
 clear hb2
 go_wp2_with fail
 refine (HMG.out w2 HB2.out).mono ?_
 rintro e w3 ⟨⟨A,c3,rfl,hrow⟩,hb3⟩
 have HB3:=Lib.hid (HB2.out.trans (hb3.mono HB2.out.size))
 have HCL:=Lib.hid (mcloned_any A c3 G.length G w3 hrow rfl (by have:=HLE.out.2;omega) HLE.out.1)
 clear hrow hb3
 obtain⟨gn,hgn⟩:∃ z,z=G.length:=⟨_,rfl⟩
 rw[← hgn] at HCL ⊢
 clear hgn
 go_wp2_with fail
 refine HCL.out.mono ?_
 rintro e w4 ⟨⟨v,us,rfl,hg⟩,hb4⟩
 have HF:=Lib.hid (show (∃ v' us,Ending.returned (.tuple #[v,.int .i64 (pp:Int)])=.returned (.tuple #[v',.int .i64 (pp:Int)])∧GRs w.heap.size w4 v' us G)∧Below w.heap.size w w4 from ⟨⟨v,us,rfl,hg.mono HB3.out.size⟩,HB3.out.trans (hb4.mono HB3.out.size)⟩)
 obtain⟨P4,c4,hv,-⟩:=hg.form
 clear hg hb4
 subst hv
 go_wp2_with fail
 go_ret2
 exact HF.out
end Go.Proofs.YtnjlkhhcfiedbaaGreatDoor
namespace Go.Proofs.YtnjlkhhcfiedbaaGreatDoor
open Go.RowKit
theorem putC_p {p:Cel→Prop} (hj:∀ y c,p y→p c→p (join2 y c)) {H:List Cel} {c:Cel} (h:∀ y ∈ H,p y) (hc:p c):∀ y ∈ putC H c,p y:=by
 induction H with
 | nil=>intro y hy;simp only[putC,List.mem_singleton] at hy;rw[hy];exact hc
 | cons x l ih =>
  simp only[putC]
  split
  ·intro y hy
   rcases List.mem_cons.1 hy with rfl | hy
   ·exact h _ (by simp)
   ·exact ih (fun z hz=>h z (by simp[hz])) y hy
  ·split
   ·intro y hy
    rcases List.mem_cons.1 hy with rfl | hy
    ·exact hj _ _ (h x (by simp)) hc
    ·exact h y (by simp[hy])
   ·intro y hy
    rcases List.mem_cons.1 hy with rfl | hy
    ·exact hc
    ·exact h y hy
theorem runs_p {p:Cel→Prop} (hj:∀ y c,p y→p c→p (join2 y c)) {m:Nat}:∀ (l H:List Cel),(∀ x ∈ l,p x)→(∀ x ∈ H,p x)→∀ x ∈ (runsP m H l).flatten,p x
 | [],H,_,hH=>by
  unfold runsP
  split
  ·intro x hx;simp at hx
  ·intro x hx;exact hH x (by simpa using hx)
 | c :: l,H,hl,hH=>by
  have hc:=hl c (by simp)
  have hl':∀ x ∈ l,p x:=fun x hx=>hl x (by simp[hx])
  unfold runsP
  split
  ·exact runs_p hj l _ hl' (putC_p hj hH hc)
  ·split
   ·intro x hx
    rw[List.flatten_cons] at hx
    rcases List.mem_append.1 hx with hx | hx
    ·exact hH x hx
    ·exact runs_p hj l [c] hl' (fun y hy=>by rw[List.mem_singleton] at hy;rw[hy];exact hc) x hx
   ·exact runs_p hj l _ hl' (putC_p hj hH hc)
theorem runs_ok {d mm m:Nat} (l H:List Cel) (hl:OkL d mm l) (hH:OkL d mm H):OkL d mm (runsP m H l).flatten :=
 runs_p (p:=fun x=>x.key.length=d∧okK x.key=true∧EvenC mm x) (fun _ _ hy hc=>⟨hy.1,hy.2.1,join2_even hy.2.2 hc.2.2⟩) l H hl hH
end Go.Proofs.YtnjlkhhcfiedbaaGreatDoor
namespace Go.Proofs.YtnjlkhhcfiedbaaGreatDoor
open Go.RowKit Go.Shelf
end Go.Proofs.YtnjlkhhcfiedbaaGreatDoor

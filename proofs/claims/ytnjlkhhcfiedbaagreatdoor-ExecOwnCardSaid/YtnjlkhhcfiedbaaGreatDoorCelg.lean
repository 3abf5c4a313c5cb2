import Derived.Deep.QuietTactic
import Derived.BigQuiet
import Derived.Test.YtnjlkhhcfiedbaaGreatDoorSl
import Derived.Test.YtnjlkhhcfiedbaaGreatDoorCel9
import Derived.Test.YtnjlkhhcfiedbaaGreatDoorCel0
namespace Go.Proofs.YtnjlkhhcfiedbaaGreatDoor
open Go.RowKit Go.Shelf
attribute [local go_sem] Oper.semAt_some
end Go.Proofs.YtnjlkhhcfiedbaaGreatDoor
namespace Go.Proofs.YtnjlkhhcfiedbaaGreatDoor
open Go.RowKit Go.Shelf
attribute [local go_sem] Oper.semAt_some
def pick (xs:List Int) (frm:Int) (d:Int):Int:=xs[(plc frm d).toNat]?.getD 0
set_option maxRecDepth 100000 in
set_option maxHeartbeats 4000000 in
theorem values_in (P:Option Addr) (m c:Nat) (xs:List Int) (frm tow:Int) (w:World) (hx:Nums .i64 w P m xs) (hm:m≤9223372036854775807) (hT:Tab w) (hw1:1<w.heap.size) (f1:0≤frm) (f2:frm≤15) (t1:0≤tow) (t2:tow≤15)
  (hin:∀ d ∈ dimsL tow,0≤plc frm d∧plc frm d<m) :
  Calls Tryz.prog 58 #[.slice P m c,.int .i64 frm,.int .i64 tow] w fun e w'=>∃ v,e=.returned v∧w'.ownsRow w.heap.size 3 1 v (dimsL tow).length (ints ((dimsL tow).map (pick xs frm)))∧Below w.heap.size w w':=by
 refine callsIn_wide (n:=9).1 ?_
 have Hx:=Lib.hid hx
 have HT:=Lib.hid hT
 have Hin:=Lib.hid hin
 clear hx hT hin
 refine callsIn_of_wp_marks Tryz.func58 rfl trivial ?_ rfl
 simp only[Tryz.ntmps58,List.size_toArray,List.length_cons,List.length_nil,Nat.reduceAdd,Nat.reduceSub,Array.replicate_succ,Array.replicate_zero,List.push_toArray,List.append_toArray,List.nil_append,List.cons_append]
 gi_wp2_with (refine⟨trivial,?_⟩;gi_at_call 83;refine (callsIn_wide.2 (dims_in tow _)).mono ?_;rintro e w' ⟨rfl,rfl⟩)
 have b0:=((((Boxed.new w 22 (.slice P m c)).alloc (.cells #[.int .i64 frm] 3)).alloc (.cells #[.slice none 0 0] 22)).alloc (.cells #[.int .i64 tow] 3))
 have b1:=(((Boxed.new (w.alloc (.cells #[.slice P m c] 22)) 3 (.int .i64 frm)).alloc (.cells #[.slice none 0 0] 22)).alloc (.cells #[.int .i64 tow] 3))
 have b2:=((Boxed.new ((w.alloc (.cells #[.slice P m c] 22)).alloc (.cells #[.int .i64 frm] 3)) 22 (.slice none 0 0)).alloc (.cells #[.int .i64 tow] 3))
 have b3:=(Boxed.new (((w.alloc (.cells #[.slice P m c] 22)).alloc (.cells #[.int .i64 frm] 3)).alloc (.cells #[.slice none 0 0] 22)) 3 (.int .i64 tow))
 simp only[World.size_alloc] at b1 b2 b3
 have hB:Below w.heap.size w ((((w.alloc (.cells #[.slice P m c] 22)).alloc (.cells #[.int .i64 frm] 3)).alloc (.cells #[.slice none 0 0] 22)).alloc (.cells #[.int .i64 tow] 3)):=((((Below.refl _ w).alloc (Nat.le_refl _) _).alloc (by simp) _).alloc (by simp;omega) _).alloc (by simp;omega) _
 have hz:((((w.alloc (.cells #[.slice P m c] 22)).alloc (.cells #[.int .i64 frm] 3)).alloc (.cells #[.slice none 0 0] 22)).alloc (.cells #[.int .i64 tow] 3)).heap.size=w.heap.size+4:=by simp
 generalize (((w.alloc (.cells #[.slice P m c] 22)).alloc (.cells #[.int .i64 frm] 3)).alloc (.cells #[.slice none 0 0] 22)).alloc (.cells #[.int .i64 tow] 3)=w4 at b0 b1 b2 b3 hB hz ⊢
 refine wpIn_rangeFunc_ownG rfl (by omega) (gf:=108) (lb:=#[.pointer (some ⟨w.heap.size+1+1+1,0,none⟩)]) rfl trivial (enters_of Tryz.func108 (by kernel_rfl) rfl)
  (dims_stops 8 (by omega) (w.heap.size+1+1+1) w.heap.size tow t1 t2 hw1 w4 (by omega) b3.cell (HT.out.keep (Keeps.of_below hB))) belowK_t (belowK_b (by omega)) (Below.refl _ _) (fun _=>rfl)
  (fun pre W=>(∃ v,Boxed W (w.heap.size+1+1) 22 v∧W.ownsRow (w.heap.size+4) 3 1 v pre.length (ints ((pre.map (·.1)).map (pick xs frm)))∧True)∧((Boxed W w.heap.size 22 (.slice P m c)∧Boxed W (w.heap.size+1) 3 (.int .i64 frm))∧Below w.heap.size w4 W))
  (fun _ _ _=>False)
  (OwnFrom.and (Own.from (holdsRow_own (w.heap.size+4) (w.heap.size+1+1) 22 3 1 (fun pre:List (InSet tow)=>pre.length) (fun pre=>ints ((pre.map (·.1)).map (pick xs frm))) (fun _ _=>True)) _)
   (OwnFrom.and (OwnFrom.and (Own.from (boxed_own _ _ _) _) (Own.from (boxed_own _ _ _) _)) (ownFrom_below (by omega) (by omega))))
  (fun _ _ _ _ _ hs _ _=>hs)
  ⟨⟨_,b2,World.ownsRow_nil _ _ _ _,trivial⟩,⟨b0,b1⟩,Below.refl _ _⟩
  (fun x=>{ tmps:=#[.slice P m c,.int .i64 frm,.int .i64 tow,.pointer (some ⟨w.heap.size,0,none⟩),.pointer (some ⟨w.heap.size+1,0,none⟩),undef,.slice none 0 0,.pointer (some ⟨w.heap.size+1+1,0,none⟩),.int .i64 x.1,.int .i64 tow,.func (.func 108) #[] #[.pointer (some ⟨w.heap.size+1+1+1,0,none⟩)],.int .i64 x.1,undef,undef,undef,undef,undef,undef,undef,undef,undef,undef],defers:=[] }) ?assign ?body ?done ?stop
 case assign =>
  intro l x W K hK
  gi_wp2
  exact hK
 case done =>
  rintro D ys W hD hys ⟨⟨v,hv,hrow,-⟩,-,hBW⟩ hK
  have hc:=hv.cell
  have hlen:ys.length=(dimsL tow).length:=by rw[← hys,List.length_map]
  rw[hys,hlen] at hrow
  replace hrow:=own_mono hrow (show w.heap.size≤w.heap.size+4 by omega)
  replace hBW:=hB.trans hBW
  have Hrow:=Lib.hid hrow
  have HBW:=Lib.hid hBW
  have HK:=Lib.hid hK
  clear hys hlen hrow hBW
  gi_wp2
  refine⟨by simp,.inl ⟨_,_,rfl,run_takeDeferred HK.out,?_⟩⟩
  exact⟨_,results_tmp rfl _ _ _,v,rfl,ownsRow_putObj Hrow.out _ HK.out rfl,HBW.out.trans (belowK_b (w:=w) (Nat.le_refl _) W D _ _ (by omega) HK.out rfl rfl)⟩
 case stop =>
  rintro D c pre W _ _ h _
  exact h.elim
 case body =>
  rintro l pre x W ⟨⟨v,hv,hrow,-⟩,⟨g0,g1⟩,hBW⟩ hlt
  obtain⟨d,hd⟩:=x
  have hsz4:=hBW.size
  have hB4:=hBW
  replace hBW:=hB.trans hBW
  obtain⟨k1,k2⟩:=Hin.out d hd
  obtain⟨k,hk⟩:∃ k:Nat,plc frm d=k:=Int.eq_ofNat_of_zero_le k1
  rw[hk] at k2
  have km:k<m:=by omega
  obtain⟨ad,x0,rfl,hx0,hxi,hxc⟩:=(Hx.out.keep (Keeps.of_below hBW)).at_ km
  obtain⟨dn,hdn,hd3⟩:∃ dn:Nat,d=dn∧dn≤3:=by
   rcases dimsL_in tow d hd with rfl | rfl | rfl | rfl
   ·exact⟨0,rfl,by omega⟩
   ·exact⟨1,rfl,by omega⟩
   ·exact⟨2,rfl,by omega⟩
   ·exact⟨3,rfl,by omega⟩
  subst hdn
  have hpk:pick xs frm (dn:Int)=x0:=by unfold pick;rw[hk];simp[hx0]
  have hpl:=fun W'=>place_any frm dn W' f1 f2 hd3
  rw[hk] at hpl
  have hpre4:=dimsL_le tow
  obtain⟨i0,hi,hz0,hz1,hz2⟩:=info_parts infoI
  have hsz:=hBW.size
  have hB5:w.heap.size+4≤(W.drew.alloc (.cells #[.int .i64 x0] 3)).heap.size:=by
   have h5:(W.drew.alloc (.cells #[.int .i64 x0] 3)).heap.size=W.heap.size+1:=by simp
   omega
  obtain⟨v',w1,hrun,hown',hgrow,_,_⟩:=run_append_own_at (P:=Tryz.prog) (W.drew.alloc (.cells #[.int .i64 x0] 3)) (w.heap.size+4) 22 22 3 i0 _ 1 8 Tryz.underlying22 hi hz0 hz1 hz2 rfl (by omega) v pre.length _ ((show W.drew.ownsRow _ _ _ _ _ _ from hrow).alloc _)
   ⟨W.heap.size,0,none⟩ 1 1 [.int .i64 x0] rfl (fun j u hu=>by
    rw[add0,show (W.drew.alloc (.cells #[.int .i64 x0] 3)).cell? ⟨W.heap.size,j,none⟩=#[.int .i64 x0][j]? from cell_of_row _ _ _ _ 3 (0,0) (heap_alloc_new W.drew _)]
    simpa using hu) (by intro u hu;simp at hu;subst hu;rfl) (by simp[maxLen];omega) (by omega) hB5
  obtain⟨g',cap',e'⟩:=ownsRow_succ hown'
  subst e'
  obtain⟨hv1,hv2,_,hk2,hb2⟩:=Boxed.appended (show Boxed W.drew _ _ _ from hv) (by decide) (own_mono (show W.drew.ownsRow _ _ _ _ _ _ from hrow) (show w.heap.size≤w.heap.size+4 by omega)) hBW.size (by omega) (own_mono hown' (show w.heap.size≤w.heap.size+4 by omega)) hgrow
  have hr2:(w1.setCell ⟨w.heap.size+1+1,0,none⟩ (.slice (some ⟨g',0,none⟩) (pre.length+1) cap')).ownsRow (w.heap.size+4) 3 1 (.slice (some ⟨g',0,none⟩) (pre.length+1) cap') (pre.length+1) _:=own_stay hown' fun j hj=>Below.heap_setCell _ _ _ _ (by have:=(hown'.lt j hj).1;show j ≠ w.heap.size+1+1;omega)
  obtain⟨w2,hw2⟩:∃ w2,w2=w1.setCell ⟨w.heap.size+1+1,0,none⟩ (.slice (some ⟨g',0,none⟩) (pre.length+1) cap'):=⟨_,rfl⟩
  rw[← hw2] at hv2 hr2 hk2 hb2
  have hka:Keeps W (W.drew.alloc (.cells #[.int .i64 x0] 3)):=((Keeps.refl W).drewN 1).alloc _
  have hcl:=hv.cell
  have hcl2:(W.alloc (.cells #[.int .i64 x0] 3)).cell? ⟨w.heap.size+1+1,0,none⟩=some v:=((Keeps.refl W).alloc _) _ _ hcl
  have hP0:W.cell? ⟨w.heap.size,0,none⟩=some (.slice (some ad) m c)∧W.cell? ⟨w.heap.size+1,0,none⟩=some (.int .i64 frm)∧W.cell? (ad.add k)=some (.int .i64 x0):=⟨g0.cell,g1.cell,hxc⟩
  have hPa:(W.drew.alloc (.cells #[.int .i64 x0] 3)).cell? ⟨w.heap.size,0,none⟩=some (.slice (some ad) m c)∧(W.drew.alloc (.cells #[.int .i64 x0] 3)).cell? ⟨w.heap.size+1,0,none⟩=some (.int .i64 frm)∧(W.drew.alloc (.cells #[.int .i64 x0] 3)).cell? (ad.add k)=some (.int .i64 x0):=⟨hka _ _ hP0.1,hka _ _ hP0.2.1,hka _ _ hP0.2.2⟩
  have hg0':Boxed w1 w.heap.size 22 (.slice (some ad) m c)∧Boxed w1 (w.heap.size+1) 3 (.int .i64 frm):=by
   have q0:Boxed (W.drew.alloc (.cells #[.int .i64 x0] 3)) w.heap.size 22 (.slice (some ad) m c):=Boxed.alloc (W:=W.drew) g0 _
   have q1:Boxed (W.drew.alloc (.cells #[.int .i64 x0] 3)) (w.heap.size+1) 3 (.int .i64 frm):=Boxed.alloc (W:=W.drew) g1 _
   have far:∀ j,j<w.heap.size+4→some j ≠ v.ownBlock:=fun j hj e=>by
    have:=(hrow.lt j e.symm).1
    omega
   exact⟨q0.kept hgrow (far _ (by omega)),q1.kept hgrow (far _ (by omega))⟩
  have hxb:ad.block<w.heap.size:=by
   obtain⟨ad2,e2,hc2⟩:=Hx.out.2.2 (show 0<m by omega)
   injection e2 with e2
   subst e2
   have h9:=block_lt (hc2 k x0 hx0)
   rwa [block_of_add] at h9
  have hPw1:w1.cell? ⟨w.heap.size,0,none⟩=some (.slice (some ad) m c)∧w1.cell? ⟨w.heap.size+1,0,none⟩=some (.int .i64 frm)∧w1.cell? (ad.add k)=some (.int .i64 x0):=by
   refine⟨hg0'.1.cell,hg0'.2.cell,?_⟩
   rw[World.cell?_of_block (w:=W.drew.alloc (.cells #[.int .i64 x0] 3)) (hgrow.block _ (by rw[block_of_add];simp;omega) (fun e=>by rw[block_of_add] at e;have:=(hrow.lt _ e.symm).1;omega))]
   exact hPa.2.2
  have hPw2:w2.cell? ⟨w.heap.size,0,none⟩=some (.slice (some ad) m c)∧w2.cell? ⟨w.heap.size+1,0,none⟩=some (.int .i64 frm)∧w2.cell? (ad.add k)=some (.int .i64 x0):=by
   have oth:∀ (p:Addr) (u:Value),p.block ≠ w.heap.size+1+1→w1.cell? p=some u→w2.cell? p=some u:=fun p u hne h=>by
    rw[hw2,World.cell?_of_block (w:=w1) (Below.heap_setCell _ _ _ _ hne)];exact h
   exact⟨oth _ _ (by simp;omega) hPw1.1,oth _ _ (by simp) hPw1.2.1,oth _ _ (by rw[block_of_add];omega) hPw1.2.2⟩
  have hmap:ints ((pre.map (·.1)).map (pick xs frm)) ++ [.int .i64 x0]=ints (((pre ++ [(⟨(dn:Int),hd⟩:InSet tow)]).map (·.1)).map (pick xs frm)):=by
   rw[List.map_append,List.map_append]
   simp[ints,hpk]
  have Hfin:Hid (KeepsFrom w4.heap.size W w2∧Below w.heap.size W w2∧((∃ v,Boxed w2 (w.heap.size+1+1) 22 v∧w2.ownsRow (w.heap.size+4) 3 1 v (pre ++ [(⟨(dn:Int),hd⟩:InSet tow)]).length (ints (((pre ++ [(⟨(dn:Int),hd⟩:InSet tow)]).map (·.1)).map (pick xs frm)))∧True)∧((Boxed w2 w.heap.size 22 (.slice (some ad) m c)∧Boxed w2 (w.heap.size+1) 3 (.int .i64 frm))∧Below w.heap.size w4 w2))):=by
   refine Lib.hid ⟨((KeepsOthers.drew W).trans hk2).from _,(Below.drew (Below.refl _ W)).trans hb2,⟨_,hv2,?_,trivial⟩,⟨?_,?_⟩,hB4.trans ((Below.drew (Below.refl _ W)).trans hb2)⟩
   ·rw[List.length_append,← hmap];exact hr2
   ·rw[hw2];exact hg0'.1.other (by omega) _
   ·rw[hw2];exact hg0'.2.other (by omega) _
  have HP0:=Lib.hid hP0
  have HPa:=Lib.hid hPa
  have HPw1:=Lib.hid hPw1
  have HPw2:=Lib.hid hPw2
  have Hrun:=Lib.hid hrun
  have Hpl:=Lib.hid hpl
  have Hw2:=Lib.hid hw2
  have hf1:=hv1.frozen
  have hc1:=hv1.cell
  have km2:(k:Int)<(m:Int):=by omega
  have km3:(0:Int)≤(k:Int):=by omega
  clear hv hrow g0 g1 hBW hB4 k1 k2 hx0 hxi hxc hpk hpl hpre4 hi hz0 hz1 hz2 hrun hown' hgrow hv1 hv2 hr2 hk2 hb2 hw2 hka hP0 hPa hg0' hxb hPw1 hPw2 hmap hsz hsz4 hB5 hk hd3 hlt
  gi_wp2
  refine region_I (S:=fun W'=>W'.cell? ⟨w.heap.size,0,none⟩=some (.slice (some ad) m c)∧W'.cell? ⟨w.heap.size+1,0,none⟩=some (.int .i64 frm)∧W'.cell? (ad.add k)=some (.int .i64 x0)) (by kernel_rfl) HP0.out (fun hHeld=>?_)
  refine anyI_take (i:=1) (v:=?va1) (by kernel_rfl) rfl (by kernel_rfl) (by kernel_rfl) (by kernel_rfl) (fun _ _ _ h=>h) (fun _=>rfl) (Or.inl ⟨by rfl,?ya1⟩) hHeld ?ra1
  case ya1=>(intro W hW;obtain⟨h1,h2,h3⟩:=hW;go_simp;first | done | with_reducible rfl)
  try simp only[SL,Act.put]
  refine anyI_take (i:=2) (v:=?va2) (by kernel_rfl) rfl (by kernel_rfl) (by kernel_rfl) (by kernel_rfl) (fun _ _ _ h=>h) (fun _=>rfl) (Or.inl ⟨by rfl,?ya2⟩) hHeld ?ra2
  case ya2=>(intro W hW;obtain⟨h1,h2,h3⟩:=hW;go_simp;first | done | with_reducible rfl)
  try simp only[SL,Act.put]
  refine anyI_take (i:=3) (v:=?va3) (by kernel_rfl) rfl (by kernel_rfl) (by kernel_rfl) (by kernel_rfl) (fun _ _ _ h=>h) (fun _=>rfl) (Or.inl ⟨by rfl,?ya3⟩) hHeld ?ra3
  case ya3=>(intro W hW;obtain⟨h1,h2,h3⟩:=hW;go_simp;first | done | with_reducible rfl)
  try simp only[SL,Act.put]
  refine anyI_ready (rs:=[0,4]) (by kernel_rfl) (by simp) ?_
  refine AllI.cons (by kernel_rfl) rfl (by rfl) (fun K hK=>?_) (AllI.cons (by kernel_rfl) rfl (by rfl) (fun K hK=>?_) (AllI.nil))
  ·refine⟨fun _ _=>trivial,?_⟩
   go_simp
   refine hK.out _ _ (HP0.out) (fun hHeld=>?_)
   clear hK K
   try simp only[SL,Act.put]
   refine anyI_ready (rs:=[4]) (by kernel_rfl) (by simp) ?_
   refine AllI.cons (by kernel_rfl) rfl (by rfl) (fun K hK=>?_) (AllI.nil)
   refine⟨fun _ _=>trivial,?_⟩
   go_simp
   refine (CallsIn.inRound l (callsIn_wide.2 (Hpl.out _))).mono ?_
   rintro e w' ⟨rfl,rfl⟩
   dsimp only
   refine hK.out _ _ (HP0.out) (fun hHeld=>?_)
   clear hK K
   try simp only[SL,Act.put]
   refine anyI_take (i:=5) (v:=?vb5) (by kernel_rfl) rfl (by kernel_rfl) (by kernel_rfl) (by kernel_rfl) (fun _ _ _ h=>h) (fun _=>rfl) (Or.inl ⟨by rfl,?yb5⟩) hHeld ?rb5
   case yb5=>(intro W hW;obtain⟨h1,h2,h3⟩:=hW;go_simp;first | done | with_reducible rfl)
   try simp only[SL,Act.put]
   refine anyI_take (i:=6) (v:=?vb6) (by kernel_rfl) rfl (by kernel_rfl) (by kernel_rfl) (by kernel_rfl) (fun _ _ _ h=>h) (fun _=>rfl) (Or.inl ⟨by rfl,?yb6⟩) hHeld ?rb6
   case yb6=>(intro W hW;obtain⟨h1,h2,h3⟩:=hW;go_simp;first | done | with_reducible rfl)
   try simp only[SL,Act.put]
   refine anyI_ready (rs:=[7]) (by kernel_rfl) (by simp) ?_
   refine AllI.cons (by kernel_rfl) rfl (by rfl) (fun K hK=>?_) (AllI.nil)
   refine⟨fun _ _=>trivial,?_⟩
   go_simp
   refine hK.out _ _ (HPa.out) (fun hHeld=>?_)
   clear hK K
   try simp only[SL,Act.put]
   refine anyI_ready (rs:=[8]) (by kernel_rfl) (by simp) ?_
   refine AllI.cons (by kernel_rfl) rfl (by rfl) (fun K hK=>?_) (AllI.nil)
   refine⟨fun _ _=>trivial,?_⟩
   refine uponI_append (.tmp 12) (.tmp 19) 22 rfl _ _ _ rfl rfl Hrun.out ?_
   refine hK.out _ _ (HPw1.out) (fun hHeld=>?_)
   clear hK K
   try simp only[SL,Act.put]
   refine anyI_ready (rs:=[9]) (by kernel_rfl) (by simp) ?_
   refine AllI.cons (by kernel_rfl) rfl (by rfl) (fun K hK=>?_) (AllI.nil)
   refine⟨fun _ _=>trivial,?_⟩
   go_simp
   rw[← Hw2.out]
   refine hK.out _ _ (HPw2.out) (fun hHeld=>?_)
   clear hK K
   try simp only[SL,Act.put]
   refine anyI_done (by kernel_rfl) ?_ _
   gi_wp2
   exact Hfin.out
  ·refine⟨fun _ _=>trivial,?_⟩
   go_simp
   refine (CallsIn.inRound l (callsIn_wide.2 (Hpl.out _))).mono ?_
   rintro e w' ⟨rfl,rfl⟩
   dsimp only
   refine hK.out _ _ (HP0.out) (fun hHeld=>?_)
   clear hK K
   try simp only[SL,Act.put]
   refine anyI_take (i:=5) (v:=?vc5) (by kernel_rfl) rfl (by kernel_rfl) (by kernel_rfl) (by kernel_rfl) (fun _ _ _ h=>h) (fun _=>rfl) (Or.inl ⟨by rfl,?yc5⟩) hHeld ?rc5
   case yc5=>(intro W hW;obtain⟨h1,h2,h3⟩:=hW;go_simp;first | done | with_reducible rfl)
   try simp only[SL,Act.put]
   refine anyI_take (i:=6) (v:=?vc6) (by kernel_rfl) rfl (by kernel_rfl) (by kernel_rfl) (by kernel_rfl) (fun _ _ _ h=>h) (fun _=>rfl) (Or.inl ⟨by rfl,?yc6⟩) hHeld ?rc6
   case yc6=>(intro W hW;obtain⟨h1,h2,h3⟩:=hW;go_simp;first | done | with_reducible rfl)
   try simp only[SL,Act.put]
   refine anyI_ready (rs:=[0,7]) (by kernel_rfl) (by simp) ?_
   refine AllI.cons (by kernel_rfl) rfl (by rfl) (fun K hK=>?_) (AllI.cons (by kernel_rfl) rfl (by rfl) (fun K hK=>?_) (AllI.nil))
   ·refine⟨fun _ _=>trivial,?_⟩
    go_simp
    refine hK.out _ _ (HP0.out) (fun hHeld=>?_)
    clear hK K
    try simp only[SL,Act.put]
    refine anyI_ready (rs:=[7]) (by kernel_rfl) (by simp) ?_
    refine AllI.cons (by kernel_rfl) rfl (by rfl) (fun K hK=>?_) (AllI.nil)
    refine⟨fun _ _=>trivial,?_⟩
    go_simp
    refine hK.out _ _ (HPa.out) (fun hHeld=>?_)
    clear hK K
    try simp only[SL,Act.put]
    refine anyI_ready (rs:=[8]) (by kernel_rfl) (by simp) ?_
    refine AllI.cons (by kernel_rfl) rfl (by rfl) (fun K hK=>?_) (AllI.nil)
    refine⟨fun _ _=>trivial,?_⟩
    refine uponI_append (.tmp 12) (.tmp 19) 22 rfl _ _ _ rfl rfl Hrun.out ?_
    refine hK.out _ _ (HPw1.out) (fun hHeld=>?_)
    clear hK K
    try simp only[SL,Act.put]
    refine anyI_ready (rs:=[9]) (by kernel_rfl) (by simp) ?_
    refine AllI.cons (by kernel_rfl) rfl (by rfl) (fun K hK=>?_) (AllI.nil)
    refine⟨fun _ _=>trivial,?_⟩
    go_simp
    rw[← Hw2.out]
    refine hK.out _ _ (HPw2.out) (fun hHeld=>?_)
    clear hK K
    try simp only[SL,Act.put]
    refine anyI_done (by kernel_rfl) ?_ _
    gi_wp2
    exact Hfin.out
   ·refine⟨fun _ _=>trivial,?_⟩
    go_simp
    refine hK.out _ _ (HPa.out) (fun hHeld=>?_)
    clear hK K
    try simp only[SL,Act.put]
    refine anyI_ready (rs:=[0]) (by kernel_rfl) (by simp) ?_
    refine AllI.cons (by kernel_rfl) rfl (by rfl) (fun K hK=>?_) (AllI.nil)
    refine⟨fun _ _=>trivial,?_⟩
    go_simp
    refine hK.out _ _ (HPa.out) (fun hHeld=>?_)
    clear hK K
    try simp only[SL,Act.put]
    refine anyI_ready (rs:=[8]) (by kernel_rfl) (by simp) ?_
    refine AllI.cons (by kernel_rfl) rfl (by rfl) (fun K hK=>?_) (AllI.nil)
    refine⟨fun _ _=>trivial,?_⟩
    refine uponI_append (.tmp 12) (.tmp 19) 22 rfl _ _ _ rfl rfl Hrun.out ?_
    refine hK.out _ _ (HPw1.out) (fun hHeld=>?_)
    clear hK K
    try simp only[SL,Act.put]
    refine anyI_ready (rs:=[9]) (by kernel_rfl) (by simp) ?_
    refine AllI.cons (by kernel_rfl) rfl (by rfl) (fun K hK=>?_) (AllI.nil)
    refine⟨fun _ _=>trivial,?_⟩
    go_simp
    rw[← Hw2.out]
    refine hK.out _ _ (HPw2.out) (fun hHeld=>?_)
    clear hK K
    try simp only[SL,Act.put]
    refine anyI_done (by kernel_rfl) ?_ _
    gi_wp2
    exact Hfin.out
end Go.Proofs.YtnjlkhhcfiedbaaGreatDoor
namespace Go.Proofs.YtnjlkhhcfiedbaaGreatDoor
open Go.RowKit
def ofKey (key:List Int) (set:Int):List Int:=(dimsL set).map (pick key (fullB key.length))
theorem pick_ok {key:List Int} (h:∀ x ∈ key,inK .i64 x) (f d:Int):inK .i64 (pick key f d):=by
 unfold pick
 cases hx:key[(plc f d).toNat]? with
 | none=>simp[inK]
 | some x=>exact h x (List.mem_of_getElem? hx)
end Go.Proofs.YtnjlkhhcfiedbaaGreatDoor
namespace Go.Proofs.YtnjlkhhcfiedbaaGreatDoor
open Go.RowKit
theorem nil_ri (w:World):RI w (.slice none 0 0) []:=⟨none,0,rfl,⟨rfl,fun x h=>(by cases h),fun h=>(by simp at h)⟩,Nat.le_refl _,by simp[maxLen],fun _=>rfl⟩
theorem row_ri (W:World) (b:Nat) (xs:List Int) (T:TypeId) (hx:∀ x ∈ xs,inK .i64 x) (h:W.heap[b]? = some (.cells (ints xs).toArray T (0,0))) (hl:xs.length≤1000000):RI W (.slice (some ⟨b,0,none⟩) xs.length xs.length) xs:=by
 refine⟨_,_,rfl,⟨rfl,hx,fun hn=>⟨_,rfl,fun j x hj=>?_⟩⟩,Nat.le_refl _,by simp[maxLen];omega,fun e=>by cases e⟩
 rw[add0,cell_of_row W b j _ T (0,0) h]
 simp[ints,hj]
end Go.Proofs.YtnjlkhhcfiedbaaGreatDoor
namespace Go.Proofs.YtnjlkhhcfiedbaaGreatDoor
open Go.RowKit
set_option maxHeartbeats 1000000 in
theorem rIntsEq (A B:Option Addr) (n c d:Nat) (xs ys:List Int) (w:World) (hx:Nums .i64 w A n xs) (hy:Nums .i64 w B n ys) (hn:n≤4611686018427387904) :
  Calls Tryz.prog 54 #[.slice A n c,.slice B n d] w fun e w'=>e=.returned (.bool (decide (xs=ys)))∧∃ q,w'=w.drewN q:=by
 go_enter Tryz.func54,Tryz.ntmps54
 go_wp2
 go_loopw [5] (fun i wr=>∃ k:Nat,k≤n∧i=.int .i64 k∧xs.take k=ys.take k∧∃ q,wr=w.drewN q) (fun i _=>n - (intOf i).toNat)
 case atStart=>exact⟨0,by omega,rfl,by simp,0,rfl⟩
 case round =>
  obtain⟨k,hk,rfl,ht,q,rfl⟩:=hrel
  have Ht:=Lib.hid ht
  clear ht
  by_cases hlt:k<n
  ·obtain⟨ad,x,rfl,hxk,hxi,hcx⟩:=hx.at_ hlt
   obtain⟨bd,y,rfl,hyk,hyi,hcy⟩:=hy.at_ hlt
   have Hx:=Lib.hid hxk
   have Hy:=Lib.hid hyk
   clear hxk hyk hxi hyi
   by_cases hxy:x=y
   ·have Hxy:=Lib.hid hxy
    have hb:(x != y)=false:=by rw[hxy];simp
    clear hxy
    go_wp2
    go_quiet (fail)
    go_wp2
    exact⟨⟨k+1,by omega,by go_num,by rw[take_snoc Hx.out,take_snoc Hy.out,Ht.out,Hxy.out],_,rfl⟩,by simp[intOf];omega⟩
   ·have hb:(x != y)=true:=by rw[bne_iff_ne];exact hxy
    have Hne:Hid (xs ≠ ys):=Lib.hid (fun e=>hxy (by have h1:=Hx.out;have h2:=Hy.out;rw[e,h2] at h1;injection h1 with h1;exact h1.symm))
    clear hxy
    go_wp2
    go_quiet (fail)
    go_wp2
    go_ret
    exact⟨by rw[decide_eq_false Hne.out];rfl,_,World.drewN_drewN _ _ _⟩
  ·go_wp2
   go_ret
   obtain rfl:k=n:=by omega
   have:=Ht.out
   rw[List.take_of_length_le (Nat.le_of_eq hx.len),List.take_of_length_le (Nat.le_of_eq hy.len)] at this
   exact⟨by rw[decide_eq_true this];rfl,_,rfl⟩
set_option maxHeartbeats 1000000 in
theorem rIntsNe (A B:Option Addr) (n m c d:Nat) (w:World) (h:n ≠ m) :
  Calls Tryz.prog 54 #[.slice A n c,.slice B m d] w fun e w'=>e=.returned (.bool false)∧w=w':=by
 have hne:((n:Int) != (m:Int))=true:=by rw[bne_iff_ne];omega
 clear h
 go_enter Tryz.func54,Tryz.ntmps54
 go_wp2
 go_ret
 exact⟨rfl,rfl⟩
theorem rInts (A B:Option Addr) (n m c d:Nat) (xs ys:List Int) (w:World) (hx:Nums .i64 w A n xs) (hy:Nums .i64 w B m ys) (hn:n≤4611686018427387904) :
  Calls Tryz.prog 54 #[.slice A n c,.slice B m d] w fun e w'=>e=.returned (.bool (decide (xs=ys)))∧∃ q,w'=w.drewN q:=by
 by_cases h:n=m
 ·subst h
  exact rIntsEq A B n c d xs ys w hx hy hn
 ·refine (rIntsNe A B n m c d w h).mono fun e w' ⟨he,hw⟩=>⟨?_,0,hw.symm⟩
  rw[he,decide_eq_false (fun e=>h (by rw[← hx.len,← hy.len,e]))]

set_option maxRecDepth 100000 in
set_option maxHeartbeats 2000000 in
theorem rLess (P Q:Option Addr) (m1 c1 m2 c2:Nat) (xs ys:List Int) (w:World) (hx:Nums .i64 w P m1 xs) (hy:Nums .i64 w Q m2 ys) (h1:m1≤4611686018427387904) (h2:m2≤4611686018427387904) :
  Calls Tryz.prog 52 #[.slice P m1 c1,.slice Q m2 c2] w fun e w'=>e=.returned (.int .i64 (cmpL xs ys))∧∃ q,w'=w.drewN q:=by
 have l1:=hx.1
 have l2:=hy.1
 have Hx:=Lib.hid hx
 have Hy:=Lib.hid hy
 have L1:=Lib.hid l1
 have L2:=Lib.hid l2
 clear hx hy l1 l2
 obtain⟨z,hz⟩:∃ z,z=cmpL xs ys:=⟨_,rfl⟩
 rw[← hz]
 have Hz:=Lib.hid hz
 clear hz
 go_enter Tryz.func52,Tryz.ntmps52
 go_wp2
 go_loopw [5] (fun i wr=>∃ k:Nat,k≤m1∧k≤m2∧i=.int .i64 k∧cmpL xs ys=cmpL (xs.drop k) (ys.drop k)∧∃ q,wr=w.drewN q) (fun i _=>m1 - (intOf i).toNat)
 case atStart=>exact⟨0,by omega,by omega,rfl,rfl,0,rfl⟩
 case round =>
  obtain⟨k,hk1,hk2,rfl,hr,q,rfl⟩:=hrel
  have Hr:=Lib.hid hr
  clear hr
  by_cases a1:k<m1
  ·by_cases a2:k<m2
   ·obtain⟨ad,x,rfl,hxk,hxi,hxc⟩:=Hx.out.at_ a1
    obtain⟨bd,y,rfl,hyk,hyi,hyc⟩:=Hy.out.at_ a2
    have hd:=cmpL_drop hxk hyk
    have i0:(0:Int)≤(k:Int):=by omega
    have i1:(k:Int)<(m1:Int):=by omega
    have i2:(k:Int)<(m2:Int):=by omega
    have d1:decide (k<m1)=true:=by simp;omega
    have d2:decide (k<m2)=true:=by simp;omega
    have Hd:=Lib.hid hd
    clear hxk hyk hxi hyi hd
    by_cases b1:x<y
    ·have b1':decide (x<y)=true:=by simpa using b1
     have hfin:z=-1:=by rw[Hz.out,Hr.out,Hd.out];simp[cmpI,b1]
     have Hfin:=Lib.hid hfin
     clear b1 hfin
     go_wp2
     go_quiet (fail)
     go_wp2
     go_ret
     rw[Hfin.out]
     exact⟨rfl,_,World.drewN_drewN _ _ _⟩
    ·have b1':decide (x<y)=false:=by simpa using b1
     by_cases b2:y<x
     ·have b2':decide (y<x)=true:=by simpa using b2
      have hfin:z=1:=by rw[Hz.out,Hr.out,Hd.out];simp[cmpI,b1,b2]
      have Hfin:=Lib.hid hfin
      clear b1 b2 hfin
      go_wp2
      go_quiet (fail)
      go_wp2
      go_quiet (fail)
      go_wp2
      go_ret
      rw[Hfin.out]
      exact⟨rfl,_,by rw[World.drewN_drewN,World.drewN_drewN]⟩
     ·have b2':decide (y<x)=false:=by simpa using b2
      have hfin:cmpL xs ys=cmpL (xs.drop (k+1)) (ys.drop (k+1)):=by rw[Hr.out,Hd.out];simp[cmpI,b1,b2]
      have Hfin:=Lib.hid hfin
      clear b1 b2 hfin
      go_wp2
      go_quiet (fail)
      go_wp2
      go_quiet (fail)
      go_wp2
      exact⟨⟨k+1,by omega,by omega,by go_num,Hfin.out,_,rfl⟩,by simp[intOf];omega⟩
   ·obtain rfl:k=m2:=by omega
    have d1:decide (k<m1)=true:=by simp;omega
    have d2:decide (k<k)=false:=by simp
    have d3:decide (m1<k)=false:=by simp;omega
    have hfin:z=1:=by
     rw[Hz.out,Hr.out,(show ys.drop k=[] from List.drop_eq_nil_of_le (by rw[L2.out];exact Nat.le_refl _)),List.drop_eq_getElem_cons (show k<xs.length by rw[L1.out];exact a1)]
     rfl
    have Hfin:=Lib.hid hfin
    clear hfin
    go_wp2
    go_ret
    rw[Hfin.out]
    exact⟨rfl,_,rfl⟩
  ·obtain rfl:k=m1:=by omega
   have d1:decide (k<k)=false:=by simp
   by_cases a2:k<m2
   ·have d2:decide (k<m2)=true:=by simp;omega
    have hfin:z=-1:=by
     rw[Hz.out,Hr.out,(show xs.drop k=[] from List.drop_eq_nil_of_le (by rw[L1.out];exact Nat.le_refl _)),List.drop_eq_getElem_cons (show k<ys.length by rw[L2.out];exact a2)]
     rfl
    have Hfin:=Lib.hid hfin
    clear hfin
    go_wp2
    go_ret
    rw[Hfin.out]
    exact⟨rfl,_,rfl⟩
   ·have d2:decide (k<m2)=false:=by simp;omega
    have d3:decide (m2<k)=false:=by simp;omega
    have hfin:z=0:=by
     rw[Hz.out,Hr.out,(show xs.drop k=[] from List.drop_eq_nil_of_le (by rw[L1.out];exact Nat.le_refl _)),(show ys.drop k=[] from List.drop_eq_nil_of_le (by rw[L2.out];omega))]
     rfl
    have Hfin:=Lib.hid hfin
    clear hfin
    go_wp2
    go_ret
    rw[Hfin.out]
    exact⟨rfl,_,rfl⟩
end Go.Proofs.YtnjlkhhcfiedbaaGreatDoor
namespace Go.Proofs.YtnjlkhhcfiedbaaGreatDoor
open Go.RowKit
set_option maxRecDepth 100000 in
set_option maxHeartbeats 2000000 in
theorem equal_yes (k s n m k' s' n' m':Value) (x:Cel) (w:World) (hx:CR w k s n m x) (hy:CR w k' s' n' m' x) (h1:x.key.length≤1000000) (h2:x.sum.length≤1000000) (h3:x.mn.length≤1000000) (h4:x.mx.length≤1000000) :
  Calls Tryz.prog 34 #[.agg #[k,.int .i64 x.cnt,s,n,m],.agg #[k',.int .i64 x.cnt,s',n',m']] w fun e w'=>e=.returned (.bool true)∧Below w.heap.size w w':=by
 obtain⟨⟨Pk,ck,rfl,hk,_⟩,⟨Ps,cs,rfl,hs,_⟩,⟨Pn,cn,rfl,hn,_⟩,⟨Pm,cm,rfl,hm,_⟩⟩:=hx
 obtain⟨⟨Qk,dk,rfl,gk,_⟩,⟨Qs,ds,rfl,gs,_⟩,⟨Qn,dn,rfl,gn,_⟩,⟨Qm,dm,rfl,gm,_⟩⟩:=hy
 have I:∀ (P Q:Option Addr) (c d:Nat) (xs:List Int),Nums .i64 w P xs.length xs→Nums .i64 w Q xs.length xs→xs.length≤1000000→∀ W:World,Keeps w W→Calls Tryz.prog 54 #[.slice P xs.length c,.slice Q xs.length d] W fun e w'=>e=.returned (.bool true)∧∃ q,w'=W.drewN q:=fun P Q c d xs hp hq hl W hW=>by
  have:=rInts P Q xs.length xs.length c d xs xs W (hp.keep hW) (hq.keep hW) (by omega)
  rwa [decide_eq_true (rfl:xs=xs)] at this
 have I1:=Lib.hid (I _ _ ck dk _ hk gk h1)
 have I2:=Lib.hid (I _ _ cs ds _ hs gs h2)
 have I3:=Lib.hid (I _ _ cn dn _ hn gn h3)
 have I4:=Lib.hid (I _ _ cm dm _ hm gm h4)
 clear I hk hs hn hm gk gs gn gm
 have hb:Below w.heap.size w ((w.alloc (.cells #[.slice Pk x.key.length ck,.int .i64 x.cnt,.slice Ps x.sum.length cs,.slice Pn x.mn.length cn,.slice Pm x.mx.length cm] 46)).alloc (.cells #[.slice Qk x.key.length dk,.int .i64 x.cnt,.slice Qs x.sum.length ds,.slice Qn x.mn.length dn,.slice Qm x.mx.length dm] 46)):=((Below.refl _ w).alloc (Nat.le_refl _) _).alloc (by simp) _
 have HB:=Lib.hid hb
 clear hb
 generalize x.key.length=lk at *
 generalize x.sum.length=ls at *
 generalize x.mn.length=ln at *
 generalize x.mx.length=lm at *
 generalize x.cnt=cnt at *
 have c1:(cnt == cnt)=true:=by simp
 have o1:=(show Own 46 (w.alloc (.cells #[.slice Pk lk ck,.int .i64 cnt,.slice Ps ls cs,.slice Pn ln cn,.slice Pm lm cm] 46)) w.heap.size [.slice Pk lk ck,.int .i64 cnt,.slice Ps ls cs,.slice Pn ln cn,.slice Pm lm cm] from heap_alloc_new w _).alloc (.cells #[.slice Qk lk dk,.int .i64 cnt,.slice Qs ls ds,.slice Qn ln dn,.slice Qm lm dm] 46)
 have o2:Own 46 ((w.alloc (.cells #[.slice Pk lk ck,.int .i64 cnt,.slice Ps ls cs,.slice Pn ln cn,.slice Pm lm cm] 46)).alloc (.cells #[.slice Qk lk dk,.int .i64 cnt,.slice Qs ls ds,.slice Qn ln dn,.slice Qm lm dm] 46)) (w.heap.size+1) [.slice Qk lk dk,.int .i64 cnt,.slice Qs ls ds,.slice Qn ln dn,.slice Qm lm dm]:=by
  have h:=heap_alloc_new (w.alloc (.cells #[.slice Pk lk ck,.int .i64 cnt,.slice Ps ls cs,.slice Pn ln cn,.slice Pm lm cm] 46)) (.cells #[.slice Qk lk dk,.int .i64 cnt,.slice Qs ls ds,.slice Qn ln dn,.slice Qm lm dm] 46)
  rw[show (w.alloc (.cells #[.slice Pk lk ck,.int .i64 cnt,.slice Ps ls cs,.slice Pn ln cn,.slice Pm lm cm] 46)).heap.size=w.heap.size+1 from by simp] at h
  exact h
 have O1:=Lib.hid o1
 have O2:=Lib.hid o2
 clear o1 o2
 go_enter Tryz.func34,Tryz.ntmps34
 go_wp2_with fail
 generalize (w.alloc (.cells #[.slice Pk lk ck,.int .i64 cnt,.slice Ps ls cs,.slice Pn ln cn,.slice Pm lm cm] 46)).alloc (.cells #[.slice Qk lk dk,.int .i64 cnt,.slice Qs ls ds,.slice Qn ln dn,.slice Qm lm dm] 46)=W at HB O1 O2 ⊢
 have kW:=Lib.hid (Keeps.of_below HB.out)
 have p2:=O1.out.cell (i:=2) rfl
 have p3:=O1.out.cell (i:=3) rfl
 have p4:=O1.out.cell (i:=4) rfl
 have q2:=O2.out.cell (i:=2) rfl
 have q3:=O2.out.cell (i:=3) rfl
 have q4:=O2.out.cell (i:=4) rfl
 refine (I1.out W kW.out).mono ?_
 rintro e w1 ⟨rfl,r1,rfl⟩
 go_wp2_with fail
 refine (I2.out (W.drewN r1) (kW.out.drewN r1)).mono ?_
 rintro e w1 ⟨rfl,r2,rfl⟩
 go_wp2_with fail
 refine (I3.out (W.drewN (r1+r2)) (kW.out.drewN _)).mono ?_
 rintro e w1 ⟨rfl,r3,rfl⟩
 go_wp2_with fail
 refine (I4.out (W.drewN (r1+r2+r3)) (kW.out.drewN _)).mono ?_
 rintro e w1 ⟨rfl,r4,rfl⟩
 go_wp2
 go_ret
 exact⟨rfl,below_drewN HB.out _⟩
end Go.Proofs.YtnjlkhhcfiedbaaGreatDoor
namespace Go.Proofs.YtnjlkhhcfiedbaaGreatDoor
open Go.RowKit
set_option maxHeartbeats 400000 in
theorem lwithin2 (a n:Int) (w:World) (ha:inK .i64 a) (hn:1≤n) (hn2:n≤4611686018427387904) :
  Calls Tryz.prog 23 #[.int .i64 a,.int .i64 n] w fun e w'=>e=.returned (.int .i64 (a % n))∧w=w':=by
 obtain⟨ha1,ha2⟩:=ha
 by_cases h:0≤a
 ·have h1:=Int.emod_nonneg a (show n ≠ 0 by omega)
  go_enter Tryz.func23,Tryz.ntmps23
  go_wp2
  go_ret
  exact⟨rfl,rfl⟩
 ·have h1:=Int.emod_nonneg a (show n ≠ 0 by omega)
  have h2:=Int.emod_lt_of_pos a (show 0<n by omega)
  have h3:=Int.tmod_eq_emod (a:=a) (b:=n)
  have h4:a.tmod n=a % n∨a.tmod n=a % n - n:=by
   rw[h3]
   split
   ·simp
   ·right;omega
  by_cases h5:a.tmod n<0
  ·have e:a.tmod n+n=a % n:=by omega
   have h6:-n≤a.tmod n:=by omega
   have E:=Lib.hid e
   clear e h3 h4 h1 h2
   go_enter Tryz.func23,Tryz.ntmps23
   go_wp2
   go_ret
   exact⟨ret_int E.out,rfl⟩
  ·have e:a.tmod n=a % n:=by omega
   have E:=Lib.hid e
   clear e h3 h4 h1 h2
   go_enter Tryz.func23,Tryz.ntmps23
   go_wp2
   go_ret
   exact⟨ret_int E.out,rfl⟩

end Go.Proofs.YtnjlkhhcfiedbaaGreatDoor

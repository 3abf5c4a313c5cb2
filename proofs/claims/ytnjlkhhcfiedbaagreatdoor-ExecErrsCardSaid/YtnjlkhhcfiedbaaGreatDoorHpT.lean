import Derived.Test.YtnjlkhhcfiedbaaGreatDoorSl
import Derived.Test.YtnjlkhhcfiedbaaGreatDoorHpU
namespace Go.Proofs.YtnjlkhhcfiedbaaGreatDoor
open Go.RowKit Go.Shelf Go.Sort
attribute [local go_sem] Oper.semAt_some
def NeN (n:Nat) (l:List Rs):Prop:=∀ k e,k<n→l[k]? = some e→e.J ≠ []
theorem NeN.swap {n i j:Nat} {l:List Rs} {a b:Rs} (h:NeN n l) (ha:l[i]? = some a) (hb:l[j]? = some b) (hi:i<n) (hj:j<n):NeN n (swpL l i j):=fun k e hk he=>by
 rw[swpL_at ha hb] at he
 split at he
 ·cases he;exact h i _ hi ha
 ·split at he
  ·cases he;exact h j _ hj hb
  ·exact h k e hk he
def DownP (w0:World) (B h n:Nat) (v:Value) (l l':List Rs) (X W:World):Prop:=l'.length=l.length∧Hd w0 B h W v l'∧l'.Perm l∧(∀ k,n≤k→l'[k]? = l[k]?)∧NeN n l'∧Tch (fun k=>v.ownBlock=some k) X W
def DownR (w0:World) (B h n:Nat) (v:Value) (l:List Rs) (X:World) (e:Ending) (W:World):Prop:=(∃ b:Bool,e=.returned (.bool b))∧∃ l',DownP w0 B h n v l l' X W∧HepN leR n l'
def MinK (n i j:Nat) (l:List Rs):Prop:=0<j∧j<n∧(j - 1) / 2=i∧∀ y,l[j]? = some y→∀ k z,0<k→k<n→(k - 1) / 2=i→l[k]? = some z→leR y z
theorem MinK.two {n i j1 j2:Nat} {l:List Rs} {a1 a2:Rs} (h1:j1=2*i+1) (h2:j2=j1+1) (hn:j2<n) (e1:l[j1]? = some a1) (e2:l[j2]? = some a2) (hle:leR a2 a1):MinK n i j2 l:=⟨by omega,hn,by omega,fun y hy k z hk hkn hp hz=>by
 rcases (by omega:k=j1∨k=j2) with rfl | rfl
 ·rw[e2] at hy;rw[e1] at hz;cases hy;cases hz;exact hle
 ·rw[hy] at hz;cases hz;exact leR_refl _⟩
theorem MinK.one {n i j1 j2:Nat} {l:List Rs} (h1:j1=2*i+1) (h2:j2=j1+1) (hn:j1<n) (hle:j2<n→∀ a1 a2,l[j1]? = some a1→l[j2]? = some a2→leR a1 a2):MinK n i j1 l:=⟨by omega,hn,by omega,fun y hy k z hk hkn hp hz=>by
 rcases (by omega:k=j1∨k=j2) with rfl | rfl
 ·rw[hy] at hz;cases hz;exact leR_refl _
 ·exact hle hkn _ _ hy hz⟩
def PickB (n i j1 j2:Nat) (l:List Rs) (wr:World) (s:Value) (wx:World):Prop:=∃ r:Bool,s=.bool r∧Below wr.heap.size wr wx∧(r=true→MinK n i j2 l)∧(r=false→MinK n i j1 l)
set_option maxRecDepth 100000 in
set_option maxHeartbeats 4000000 in
theorem hdown_any (w0:World) (B h n:Nat) (X:World) (v:Value) (l:List Rs) (H:Hd w0 B h X v l) (hn:n≤l.length) (hl:l.length≤100000) (hD:DnI leR n 0 l) (hne:NeN n l) :
  Calls Tryz.prog 167 #[.iface 149 (.pointer (some ⟨h,0,none⟩)),.int .i64 0,.int .i64 (n:Int)] X (DownR w0 B h n v l X):=by
 have HD0:=Lib.hid hD
 have H0:=Lib.hid H
 have HNL:=Lib.hid hn
 have HL:=Lib.hid hl
 have HNE:=Lib.hid hne
 clear hD H hn hl hne
 go_enter Tryz.func167,Tryz.ntmps167
 go_wp2_with fail
 go_loopw [7] (fun p wr=>∃ (ii:Nat) (l':List Rs),p=.int .i64 (ii:Int)∧(ii=0∨ii<n)∧DownP w0 B h n v l l' X wr∧DnI leR n ii l') (fun p _=>n - (intOf p).toNat)
 case atStart=>exact⟨0,l,rfl,.inl rfl,⟨rfl,H0.out,List.Perm.refl _,fun _ _=>rfl,HNE.out,Tch.refl _ _⟩,HD0.out⟩
 case round =>
  obtain⟨ii,l',rfl,hii,hP,hD⟩:=hrel
  rename World=>wr
  have HP:=Lib.hid hP
  have HD:=Lib.hid hD
  have hib:ii≤100000:=by have:=HNL.out;have:=HL.out;omega
  clear hP hD
  obtain⟨i2,hi2⟩:∃ i2,i2=2*ii:=⟨_,rfl⟩
  obtain⟨j1,hj1⟩:∃ j1,j1=2*ii+1:=⟨_,rfl⟩
  have e1:IntKind.i64.wrap (2*(ii:Int))=(i2:Int):=by rw[IntWalk.i64_in _ (by omega)];omega
  have e2:IntKind.i64.wrap ((i2:Int)+1)=(j1:Int):=by rw[IntWalk.i64_in _ (by omega)];omega
  by_cases hlt:j1<n
  ·have d1:decide (n≤j1)=false:=by simp;omega
   have d2:decide ((j1:Int)<0)=false:=by simp
   obtain⟨j2,hj2⟩:∃ j2,j2=j1+1:=⟨_,rfl⟩
   have e3:IntKind.i64.wrap ((j1:Int)+1)=(j2:Int):=by rw[IntWalk.i64_in _ (by omega)];omega
   have HJ:=Lib.hid (And.intro hj1 (And.intro hj2 hlt))
   clear hi2 hj1 hj2 hlt
   obtain⟨a1,ha1⟩:∃ a,l'[j1]? = some a:=⟨_,List.getElem?_eq_getElem (by have:=HP.out.1;have:=HNL.out;have:=HJ.out.2.2;omega)⟩
   have HA1:=Lib.hid ha1
   clear ha1
   go_upto_region 6 with (fail)
   go_cut [33] from 25 to 33 (fun s wx=>PickB n ii j1 j2 l' wr s wx)
   case first =>
    by_cases h2:j2<n
    ·obtain⟨a2,ha2⟩:∃ a,l'[j2]? = some a:=⟨_,List.getElem?_eq_getElem (by have:=HP.out.1;have:=HNL.out;omega)⟩
     have HLE:=Lib.hid (hless_any w0 B h j2 j1 wr v l' a2 a1 HP.out.2.1 ha2 HA1.out (HP.out.2.2.2.2.1 _ _ h2 ha2) (HP.out.2.2.2.2.1 _ _ HJ.out.2.2 HA1.out))
     have HA2:=Lib.hid ha2
     have d3:decide (j2<n)=true:=by simp;omega
     have d4:decide ((j2:Int)<(n:Int))=true:=by simp;omega
     have H2:=Lib.hid h2
     clear ha2 h2
     go_wp2_with fail
     rw[meth_hless]
     go_simp
     refine HLE.out.mono ?_
     rintro e w1 ⟨r,rfl,hr1,hr2,hb1⟩
     have HF:=Lib.hid (show PickB n ii j1 j2 l' wr (.bool r) w1 from ⟨r,rfl,hb1,fun q=>MinK.two HJ.out.1 HJ.out.2.1 H2.out HA1.out HA2.out (hr1 q),fun q=>MinK.one HJ.out.1 HJ.out.2.1 HJ.out.2.2 fun _ b1 b2 g1 g2=>by
      rw[HA1.out] at g1;rw[HA2.out] at g2;cases g1;cases g2;exact hr2 q⟩)
     clear hr1 hr2 hb1
     go_wp2_with fail
     go_meet
     exact HF.out
    ·have d3:decide (j2<n)=false:=by simp;omega
     have d4:decide ((j2:Int)<(n:Int))=false:=by simp;omega
     have HF:=Lib.hid (show PickB n ii j1 j2 l' wr (.bool false) wr from ⟨false,rfl,Below.refl _ _,(fun q=>by cases q),fun _=>MinK.one HJ.out.1 HJ.out.2.1 HJ.out.2.2 fun q=>absurd q h2⟩)
     clear h2
     go_wp2_with fail
     go_meet
     exact HF.out
   case rest =>
    obtain⟨r,rfl,hb1,hr1,hr2⟩:=hcut
    rename World=>w1
    have HP1:=Lib.hid (show DownP w0 B h n v l l' X w1 from ⟨HP.out.1,HP.out.2.1.below hb1,HP.out.2.2.1,HP.out.2.2.2.1,HP.out.2.2.2.2.1,HP.out.2.2.2.2.2.same (Tch.of_below _ hb1)⟩)
    have HR1:=Lib.hid hr1
    have HR2:=Lib.hid hr2
    clear hb1 hr1 hr2
    go_upto_if 33 with (fail)
    go_cut [9] from 33 to 34 (fun s wx=>∃ j:Nat,s=.int .i64 (j:Int)∧MinK n ii j l'∧wx=w1)
    case first =>
     cases r with
     | true =>
      have HM:=Lib.hid (HR1.out rfl)
      go_wp2_with fail
      go_meet
      exact⟨j2,rfl,HM.out,rfl⟩
     | false =>
      have HM:=Lib.hid (HR2.out rfl)
      go_wp2_with fail
      go_meet
      exact⟨j1,rfl,HM.out,rfl⟩
    case rest =>
     obtain⟨j,rfl,hm,hw⟩:=hcut
     subst hw
     rename World=>w1
     obtain⟨m1,m2,m3,m4⟩:=hm
     have hln:l'.length=l.length:=HP1.out.1
     obtain⟨a,ha⟩:∃ a,l'[j]? = some a:=⟨_,List.getElem?_eq_getElem (by have:=HNL.out;omega)⟩
     obtain⟨b,hb⟩:∃ b,l'[ii]? = some b:=⟨_,List.getElem?_eq_getElem (by have:=HNL.out;omega)⟩
     have HLE:=Lib.hid (hless_any w0 B h j ii w1 v l' a b HP1.out.2.1 ha hb (HP1.out.2.2.2.2.1 _ _ m2 ha) (HP1.out.2.2.2.2.1 _ _ (by omega) hb))
     have HA:=Lib.hid ha
     have HBB:=Lib.hid hb
     have HM4:=Lib.hid (m4 a ha)
     have HM:=Lib.hid (And.intro m1 (And.intro m2 m3))
     clear ha hb hln m1 m2 m3 m4
     go_wp2_with fail
     rw[meth_hless]
     go_simp
     refine HLE.out.mono ?_
     rintro e w2 ⟨r2,rfl,hq1,hq2,hb2⟩
     have HQ1:=Lib.hid hq1
     have HQ2:=Lib.hid hq2
     have HP2:=Lib.hid (show DownP w0 B h n v l l' X w2 from ⟨HP1.out.1,HP1.out.2.1.below hb2,HP1.out.2.2.1,HP1.out.2.2.2.1,HP1.out.2.2.2.2.1,HP1.out.2.2.2.2.2.same (Tch.of_below _ hb2)⟩)
     clear hq1 hq2 hb2
     cases r2 with
     | false =>
      have HF:=Lib.hid (show DownR w0 B h n v l X (.returned (.bool (decide (0<ii)))) w2 from ⟨⟨_,rfl⟩,l',HP2.out,HD.out.done HBB.out fun k y hk hkn hp hy=>leR_trans (HQ2.out rfl) (HM4.out k y hk hkn hp hy)⟩)
      go_wp2_with fail
      go_ret
      exact HF.out
     | true =>
      have HSW:=Lib.hid (hswap_any w0 B h ii j w2 v l' b a HP2.out.2.1 HBB.out HA.out)
      have HD2:=Lib.hid (HD.out.swap HM.out.1 HM.out.2.1 HM.out.2.2 HBB.out HA.out (HQ1.out rfl) HM4.out)
      go_wp2_with fail
      rw[meth_hswap]
      go_simp
      refine HSW.out.mono ?_
      rintro e w3 ⟨⟨u,rfl⟩,hh2,ht2⟩
      have HE:=Lib.hid (show (j=0∨j<n)∧DownP w0 B h n v l (swpL l' ii j) X w3∧DnI leR n j (swpL l' ii j) from ⟨.inr HM.out.2.1,⟨by rw[swpL_len];exact HP2.out.1,hh2,(swpL_perm _ _ _).trans HP2.out.2.2.1,fun k hk=>by
       rw[swpL_at HBB.out HA.out,if_neg (by have:=HM.out.2.1;omega),if_neg (by have:=HM.out;omega)]
       exact HP2.out.2.2.2.1 k hk,HP2.out.2.2.2.2.1.swap HBB.out HA.out (by have:=HM.out;omega) HM.out.2.1,HP2.out.2.2.2.2.2.same ht2⟩,HD2.out⟩)
      have hjj:ii<j∧j<n:=by have:=HM.out;omega
      clear hh2 ht2
      go_wp2_with fail
      go_roundw
      case rel=>exact⟨j,_,rfl,HE.out⟩
      case measure=>simp[intOf];omega
  ·have d1:decide (n≤j1)=true:=by simp;omega
   have HF:=Lib.hid (show DownR w0 B h n v l X (.returned (.bool (decide (0<ii)))) wr from ⟨⟨_,rfl⟩,l',HP.out,HD.out.leaf (by omega)⟩)
   clear hi2 hj1 hlt
   go_wp2_with fail
   go_ret
   exact HF.out
end Go.Proofs.YtnjlkhhcfiedbaaGreatDoor
namespace Go.Proofs.YtnjlkhhcfiedbaaGreatDoor
open Go.RowKit Go.Shelf Go.Sort
attribute [local go_sem] Oper.semAt_some
theorem infoRst:(Tryz.prog.info? 184).map (fun i=>(i.zero,i.size,i.bytes))=some (some (.agg #[.slice none 0 0,.int .i64 0]),2,32):=by kernel_rfl
theorem hd_more {w0 X:World} {B h:Nat} {v:Value} {l:List Rs} (H:Hd w0 B h X v l) (e:Rs) (he:RdR w0 e) (hl:l.length+1≤1000000) (hBX:B≤X.heap.size) :
  ∃ v' Y,(Builtin.append_ #[179,179] 179 #[v,.slice (some ⟨X.heap.size,0,none⟩) 1 1]).run Tryz.prog (X.alloc (.cells #[e.v,.int .i64 e.n] 184))=.ok v' Y ∧
   Own 181 Y h [v,.func (.func 97) #[] #[]]∧(∃ g' c',v'=.slice (some ⟨g',0,none⟩) (l.length+1) c')∧Hd w0 B h (Y.setCell ⟨h,0,none⟩ v') v' (l ++ [e])∧Tch (fun k=>k=h∨v.ownBlock=some k) X (Y.setCell ⟨h,0,none⟩ v')∧(v'.ownBlock=v.ownBlock∨∃ k,v'.ownBlock=some k∧X.heap.size≤k):=by
 obtain⟨Z,hZ⟩:∃ Z,Z=X.alloc (.cells #[e.v,.int .i64 e.n] 184):=⟨_,rfl⟩
 have hb:Below X.heap.size X Z:=by rw[hZ];exact (Below.refl _ _).alloc (Nat.le_refl _) _
 have HZ:=H.below hb
 have he0:=he
 obtain⟨P,c,ev,-⟩:=he
 obtain⟨i0,hi,hz0,hz1,hz2⟩:=info_parts infoRst
 have hsz:Z.heap.size=X.heap.size+1:=by rw[hZ];simp
 obtain⟨v',Y,hrun,hr,hg,-,hbl⟩:=run_append_own_at (P:=Tryz.prog) Z B 179 179 184 i0 _ 2 32 Tryz.underlying179 hi hz0 hz1 hz2 rfl (by omega) v l.length (flat2 l) HZ.row ⟨X.heap.size,0,none⟩ 1 1 [e.v,.int .i64 e.n] rfl
  (fun j w hw=>by
   rw[add0,show Z.cell? ⟨X.heap.size,j,none⟩=#[e.v,.int .i64 e.n][j]? from by rw[hZ];exact cell_of_row _ _ _ _ 184 (0,0) (heap_alloc_new X _)]
   simpa using hw) (by
    intro x hx
    rcases List.mem_cons.1 hx with rfl | hx
    ·rw[ev];rfl
    ·rw[List.mem_singleton.1 hx];rfl) (by simp only[maxLen];omega) (by omega) (by omega)
 have hbox:Own 181 Y h [v,.func (.func 97) #[] #[]]:=(hg.block h HZ.box.lt fun q=>HZ.ne h q.symm rfl).trans HZ.box
 have hform:∃ g' c',v'=.slice (some ⟨g',0,none⟩) (l.length+1) c':=by
  obtain⟨A,c',e',-,-,h3⟩:=own_form hr
  obtain⟨g',eg,-⟩:=h3 (by omega)
  exact⟨g',c',by rw[e',eg]⟩
 have hne:∀ k,v'.ownBlock=some k→k ≠ h:=fun k hk q=>by
  rcases hbl with hb' | hb'
  ·rw[hb'] at hk;exact H.ne k hk q
  ·rw[hb'] at hk
   have:=H.box.lt
   have h2:=hZ
   injection hk with hk
   omega
 have hbox2:=hbox.set_ 0 v'
 have hrow:(Y.setCell ⟨h,0,none⟩ v').ownsRow B 184 2 v' (l ++ [e]).length (flat2 (l ++ [e])):=by
  rw[List.length_append,flat2_app]
  exact own_stay hr fun k hk=>Below.heap_setCell _ _ _ _ (hne k hk)
 have hT1:Tch (fun k=>k=h∨v.ownBlock=some k) X Y:=(Tch.of_below _ hb).same (Tch.of_grown hg fun k hk=>.inr hk)
 have hT2:Tch (fun k=>k=h∨v.ownBlock=some k) X (Y.setCell ⟨h,0,none⟩ v'):=hT1.same (Tch.setCell (M:=fun k=>k=h∨v.ownBlock=some k) (g:=h) (.inl rfl) _ _ _)
 subst hZ
 refine⟨v',Y,hrun,hbox,hform,⟨hbox2,H.hB,hrow,fun x hx=>?_,H.bw.trans (hT2.below (fun k hk=>?_) H.bw.size),H.wB⟩,hT2,?_⟩
 ·rcases List.mem_append.1 hx with hx | hx
  ·exact H.rd x hx
  ·rw[List.mem_singleton.1 hx];exact he0
 ·rcases hk with rfl | hk
  ·exact Nat.le_trans H.wB H.hB
  ·exact Nat.le_trans H.wB (H.row.lt k hk).1
 ·rcases hbl with q | q
  ·exact .inl q
  ·exact .inr ⟨_,q,by omega⟩
theorem ta_rest (a:Value) (W:World):Sem.run Tryz.prog (Instr.typeAssert (.iface 184 a) 20 184 false) W=.ok a W:=by kernel_rfl
def HdTo (w0:World) (B h:Nat) (v:Value) (l1:List Rs) (X W:World):Prop:=(∃ v' l',Hd w0 B h W v' l'∧l'.Perm l1∧HepN leR l'.length l'∧(v'.ownBlock=v.ownBlock∨∃ k,v'.ownBlock=some k∧X.heap.size≤k))∧Tch (fun k=>k=h∨v.ownBlock=some k) X W
set_option maxRecDepth 100000 in
set_option maxHeartbeats 4000000 in
theorem hpush_any (w0:World) (B h:Nat) (X:World) (v:Value) (l:List Rs) (e0:Rs) (H:Hd w0 B h X v l) (he:RdR w0 e0) (hl:l.length+1≤1000000) (hBX:B≤X.heap.size) :
  Calls Tryz.prog 212 #[.pointer (some ⟨h,0,none⟩),.iface 184 (.agg #[e0.v,.int .i64 e0.n])] X fun e W=>(∃ u,e=.returned u)∧(∃ v',Hd w0 B h W v' (l ++ [e0])∧(v'.ownBlock=v.ownBlock∨∃ k,v'.ownBlock=some k∧X.heap.size≤k))∧Tch (fun k=>k=h∨v.ownBlock=some k) X W:=by
 have Hd':=H.below ((Below.refl _ X).drew)
 obtain⟨v',Y,hrun,hbox,⟨g',c',rfl⟩,hfin,ht,hbl⟩:=hd_more Hd' e0 he hl hBX
 have c0:=H.box.cell (i:=0) rfl
 obtain⟨A,c,rfl,-⟩:=own_form H.row
 obtain⟨P0,q0,ev,-⟩:=he
 have y0:=hbox.cell (i:=0) rfl
 have y1:=hbox.frozen 0
 rw[ev] at hrun ⊢
 obtain⟨nn,hnn⟩:∃ z,z=e0.n:=⟨_,rfl⟩
 obtain⟨mm,hmm⟩:∃ z,z=e0.J.length:=⟨_,rfl⟩
 obtain⟨N,hN⟩:∃ z,z=l.length:=⟨_,rfl⟩
 rw[← hnn,← hmm] at hrun ⊢
 rw[← hN] at hrun c0 hfin ht y0 hbl ⊢
 have Hrun:=Lib.hid hrun
 have HF:=Lib.hid (show (∃ v',Hd w0 B h (Y.setCell ⟨h,0,none⟩ (.slice (some ⟨g',0,none⟩) (N+1) c')) v' (l ++ [e0])∧(v'.ownBlock=(Value.slice A N c).ownBlock∨∃ k,v'.ownBlock=some k∧X.heap.size≤k))∧Tch (fun k=>k=h∨(Value.slice A N c).ownBlock=some k) X (Y.setCell ⟨h,0,none⟩ (.slice (some ⟨g',0,none⟩) (N+1) c')) from ⟨⟨_,hfin,hbl⟩,(Tch.of_below _ ((Below.refl _ X).drew)).same ht⟩)
 clear hrun hfin ht hbl hbox Hd' H ev hnn hmm hN hl hBX
 go_enter Tryz.func212,Tryz.ntmps212
 go_upto_region 0 with (fail)
 have hta:=ta_rest (.agg #[.slice (some P0) mm q0,.int .i64 nn])
 refine region_P (S:=fun W=>W.cell? ⟨h,0,none⟩=some (.slice A N c)) (kill:=[8,11]) (by kernel_rfl) c0 (fun hHeld=>?_)
 refine anyP_pure (i:=0) (v:=?vsa0) rfl (by kernel_rfl) (by kernel_rfl) (by kernel_rfl) (by kernel_rfl) (fun _ _ _ h=>h) (Or.inl ⟨by rfl,?ysa0⟩) ?rsa0
 case ysa0=>(intro W hW;go_simp;first | done | with_reducible rfl)
 try simp only[SL,Act.put]
 refine WTP (i:=1) (v:=?vsa1) ?ysa1 hHeld ?rsa1
 case ysa1=>(intro W hW;obtain hW:=hW;go_simp;first | done | with_reducible rfl)
 try simp only[SL,Act.put]
 refine WTP (i:=2) (v:=?vsa2) ?ysa2 hHeld ?rsa2
 case ysa2=>(intro W hW;obtain hW:=hW;go_simp;first | done | with_reducible rfl)
 try simp only[SL,Act.put]
 refine WTP (i:=3) (v:=?vsa3) ?ysa3 hHeld ?rsa3
 case ysa3=>(intro W hW;obtain hW:=hW;go_simp;first | done | with_reducible rfl)
 try simp only[SL,Act.put]
 refine WTP (i:=4) (v:=?vsa4) ?ysa4 hHeld ?rsa4
 case ysa4=>(intro W hW;obtain hW:=hW;go_simp;first | done | with_reducible rfl)
 try simp only[SL,Act.put]
 refine WTP (i:=5) (v:=?vsa5) ?ysa5 hHeld ?rsa5
 case ysa5=>(intro W hW;obtain hW:=hW;go_simp;first | done | with_reducible rfl)
 try simp only[SL,Act.put]
 refine WTP (i:=6) (v:=?vsa6) ?ysa6 hHeld ?rsa6
 case ysa6=>(intro W hW;obtain hW:=hW;go_simp;first | done | with_reducible rfl)
 try simp only[SL,Act.put]
 have kb:=Keeps.of_below ((Below.refl X.heap.size X).alloc (Nat.le_refl _) (.cells #[.slice (some P0) mm q0,.int .i64 nn] 184))
 refine anyP_ready (rs:=[7]) (by kernel_rfl) (by simp) ?_
 refine AllP.cons rfl (fun K hK=>?_) (AllP.nil)
 go_simp
 refine hK.out _ _ (fun _ _=>kb _ _ c0) ?_
 clear hK K
 try simp only[SL,Act.put]
 refine anyP_ready (rs:=[8]) (by kernel_rfl) (by simp) ?_
 refine AllP.cons rfl (fun K hK=>?_) (AllP.nil)
 rw[if_pos (by rfl)]
 refine oper_append (.tmp 8) (.tmp 11) 179 rfl _ _ _ _ rfl rfl Hrun.out ?_
 refine hK.out _ _ (fun h=>absurd (by decide) h) ?_
 clear hK K
 try simp only[SL,Act.put]
 clear kb hta
 refine anyP_pure (i:=9) (v:=?vsa9) rfl (by kernel_rfl) (by kernel_rfl) (by kernel_rfl) (by kernel_rfl) (fun _ _ _ h=>h) (Or.inl ⟨by rfl,?ysa9⟩) ?rsa9
 case ysa9=>(intro W hW;go_simp;first | done | with_reducible rfl)
 try simp only[SL,Act.put]
 refine anyP_pure (i:=10) (v:=?vsa10) rfl (by kernel_rfl) (by kernel_rfl) (by kernel_rfl) (by kernel_rfl) (fun _ _ _ h=>h) (Or.inl ⟨by rfl,?ysa10⟩) ?rsa10
 case ysa10=>(intro W hW;go_simp;first | done | with_reducible rfl)
 try simp only[SL,Act.put]
 refine anyP_ready (rs:=[11]) (by kernel_rfl) (by simp) ?_
 refine AllP.cons rfl (fun K hK=>?_) (AllP.nil)
 go_simp
 refine hK.out _ _ (fun h=>absurd (by decide) h) ?_
 clear hK K
 try simp only[SL,Act.put]
 refine anyP_done (by kernel_rfl) ?_ _
 clear y0 y1
 go_wp2
 go_end0
 exact⟨⟨_,rfl⟩,HF.out⟩
set_option maxRecDepth 100000 in
set_option maxHeartbeats 4000000 in
theorem hpopm_any (w0:World) (B h n:Nat) (X:World) (v:Value) (l:List Rs) (H:Hd w0 B h X v l) (hn:l.length=n+1) (hl:l.length≤1000000) :
  Calls Tryz.prog 211 #[.pointer (some ⟨h,0,none⟩)] X fun e W=>(∃ u,e=.returned u)∧(∃ v',Hd w0 B h W v' (l.take n)∧v'.ownBlock=v.ownBlock)∧Tch (fun k=>k=h) X W:=by
 obtain⟨g,c,rfl,hlc,hg,hcell⟩:=H.form (by omega)
 have c0:=H.box.cell (i:=0) rfl
 have f0:=H.box.frozen 0
 obtain⟨a,ha⟩:∃ a,l[n]? = some a:=⟨_,List.getElem?_eq_getElem (by omega)⟩
 obtain⟨p0,p1⟩:=hcell n a ha
 obtain⟨Pa,ca,eva,-⟩:=H.rd a (List.mem_of_getElem? ha)
 obtain⟨ma,ema⟩:∃ z,z=a.J.length:=⟨_,rfl⟩
 obtain⟨na,ena⟩:∃ z,z=a.n:=⟨_,rfl⟩
 rw[eva,← ema] at p0
 rw[← ena] at p1
 obtain⟨o,ho⟩:∃ o,o=Obj.cells #[.slice (some Pa) ma ca,.int .i64 na] 184:=⟨_,rfl⟩
 obtain⟨W5,hW5⟩:∃ W5,W5=(X.setCell ⟨h,0,none⟩ (.slice (some ⟨g,0,none⟩) n c)).alloc o:=⟨_,rfl⟩
 have hT:Tch (fun k=>k=h) X W5:=by rw[hW5];exact (Tch.setCell (M:=fun k=>k=h) (g:=h) rfl _ _ _).same (Tch.alloc _ _ _)
 have hbox:Own 181 W5 h [.slice (some ⟨g,0,none⟩) n c,.func (.func 97) #[] #[]]:=by rw[hW5];exact (H.box.set_ 0 _).alloc o
 have hrow:W5.ownsRow B 184 2 (.slice (some ⟨g,0,none⟩) n c) n (flat2 (l.take n)):=by
  have h1:W5.ownsRow B 184 2 (.slice (some ⟨g,0,none⟩) l.length c) l.length (flat2 l) :=
   own_stay H.row fun k hk=>hT.block k (H.row.lt k hk).2 (H.ne k hk)
  refine⟨by rw[flat2_len,List.length_take,Nat.min_eq_left (by omega)],.inr ?_⟩
  rcases h1.2 with ⟨q,-⟩ | ⟨g',cap,cur,e,r1,r2,r3,r4,r5,r6⟩
  ·cases q
  ·cases e
   refine⟨g,c,cur,rfl,r1,r2,by omega,r4,r5,?_⟩
   rw[← flat2_take,← r6,List.take_take,Nat.min_eq_left (by omega)]
 have hfin:Hd w0 B h W5 (.slice (some ⟨g,0,none⟩) n c) (l.take n):=⟨hbox,H.hB,by rw[List.length_take,Nat.min_eq_left (by omega)];exact hrow,fun e he=>H.rd e (List.mem_of_mem_take he),H.bw.trans (hT.below (fun k hk=>by rw[hk];exact Nat.le_trans H.wB H.hB) H.bw.size),H.wB⟩
 obtain⟨N,hN⟩:∃ z,z=l.length:=⟨_,rfl⟩
 rw[← hN] at c0 hn hl
 have e1:IntKind.i64.wrap ((N:Int) - 1)=(n:Int):=by rw[IntWalk.i64_in _ (by omega)];omega
 have i0:(0:Int)≤(n:Int):=by omega
 have i1:(n:Int)<(N:Int):=by omega
 have i2:n<N:=by omega
 have i3:n≤c:=by omega
 have HF:=Lib.hid (show (∃ v',Hd w0 B h W5 v' (l.take n)∧v'.ownBlock=(Value.slice (some ⟨g,0,none⟩) l.length c).ownBlock)∧Tch (fun k=>k=h) X W5 from ⟨⟨_,hfin,rfl⟩,hT⟩)
 rw[ho] at hW5
 have HW5:=Lib.hid hW5
 have hhx:=H.box.lt
 clear hW5 hT hbox hrow hfin ho eva ema ena ha hcell H hg hlc hn hN
 go_enter Tryz.func211,Tryz.ntmps211
 go_wp2_with fail
 rw[← HW5.out]
 go_ret
 exact⟨⟨_,rfl⟩,HF.out⟩
set_option maxRecDepth 100000 in
set_option maxHeartbeats 4000000 in
theorem heappush_any (w0:World) (B h:Nat) (X:World) (v:Value) (l:List Rs) (e0:Rs) (H:Hd w0 B h X v l) (hh:HepN leR l.length l) (hne:∀ e ∈ e0 :: l,e.J ≠ []) (he:RdR w0 e0) (hl:l.length+1≤100000) (hBX:B≤X.heap.size) :
  Calls Tryz.prog 150 #[.iface 149 (.pointer (some ⟨h,0,none⟩)),.iface 184 (.agg #[e0.v,.int .i64 e0.n])] X fun e W=>(∃ u,e=.returned u)∧HdTo w0 B h v (e0 :: l) X W:=by
 have HP:=Lib.hid (hpush_any w0 B h X v l e0 H he (by omega) hBX)
 have HH:=Lib.hid hh
 have HL:=Lib.hid hl
 have HNE:=Lib.hid hne
 clear H hh he hl hBX hne
 obtain⟨ev,hev⟩:∃ ev,ev=e0.v:=⟨_,rfl⟩
 obtain⟨en,hen⟩:∃ en,en=e0.n:=⟨_,rfl⟩
 rw[← hev,← hen] at HP ⊢
 clear hev hen
 go_enter Tryz.func150,Tryz.ntmps150
 go_wp2_with fail
 rw[meth_hpush]
 go_simp
 refine HP.out.mono ?_
 rintro e w1 ⟨⟨u,rfl⟩,⟨v',H1,hbl⟩,ht1⟩
 have hll:(l ++ [e0]).length=l.length+1:=by simp
 have HU:=Lib.hid (hup_any w0 B h l.length w1 v' (l ++ [e0]) H1 (by omega) (by have:=HL.out;omega) (UpI.push HH.out e0) (fun e he=>HNE.out e (by rcases List.mem_append.1 he with q | q;exact List.mem_cons_of_mem _ q;rw[List.mem_singleton.1 q];exact List.mem_cons_self)))
 obtain⟨A,c,rfl,-⟩:=own_form H1.row
 have HLN:=Lib.hid (hdLen_any h (l ++ [e0]).length c A _ w1 H1.box)
 obtain⟨N,hN⟩:∃ N,N=(l ++ [e0]).length:=⟨_,rfl⟩
 rw[← hN] at HU HLN hbl
 obtain⟨n,hn⟩:∃ n,n=l.length:=⟨_,rfl⟩
 rw[← hn] at HU
 have e1:IntKind.i64.wrap ((N:Int) - 1)=(n:Int):=by rw[IntWalk.i64_in _ (by have:=HL.out;omega)];omega
 have HT1:=Lib.hid ht1
 have HBL:=Lib.hid hbl
 clear H1 ht1 hbl hll hN hn
 go_wp2_with fail
 rw[meth_hlen]
 go_simp
 refine HLN.out.mono ?_
 rintro e w2 ⟨rfl,hw2⟩
 rw[← hw2]
 clear hw2 w2
 go_wp2_with fail
 refine HU.out.mono ?_
 rintro e w3 ⟨⟨u,rfl⟩,⟨l',H3,hp3,hh3⟩,ht3⟩
 have HF:=Lib.hid (show HdTo w0 B h v (e0 :: l) X w3 from ⟨⟨_,l',H3,hp3.trans (List.perm_append_comm (l₂:=[e0])),hh3,HBL.out⟩,HT1.out.trans ht3 fun k hk hm=>by
  rcases HBL.out with q | ⟨k',q,q2⟩
  ·exact .inr (q.symm.trans hm)
  ·rw[q] at hm
   injection hm with hm
   omega⟩)
 clear H3 hp3 hh3 ht3
 go_wp2_with fail
 go_end0
 exact⟨⟨_,rfl⟩,HF.out⟩
set_option maxRecDepth 100000 in
set_option maxHeartbeats 4000000 in
theorem heapfix_any (w0:World) (B h:Nat) (X:World) (v:Value) (l:List Rs) (H:Hd w0 B h X v l) (hD:DnI leR l.length 0 l) (hl:l.length≤100000) (h1:0<l.length) (hne:∀ e ∈ l,e.J ≠ []) :
  Calls Tryz.prog 151 #[.iface 149 (.pointer (some ⟨h,0,none⟩)),.int .i64 0] X fun e W=>(∃ u,e=.returned u)∧HdTo w0 B h v l X W:=by
 have HDN:=Lib.hid (hdown_any w0 B h l.length X v l H (Nat.le_refl _) hl hD (fun k e _ he=>hne e (List.mem_of_getElem? he)))
 obtain⟨A,c,rfl,-⟩:=own_form H.row
 have HLN:=Lib.hid (hdLen_any h l.length c A _ X H.box)
 have HL:=Lib.hid hl
 have H1:=Lib.hid h1
 have HNE:=Lib.hid hne
 clear H hD hl h1 hne
 obtain⟨n,hn⟩:∃ n,n=l.length:=⟨_,rfl⟩
 rw[← hn] at HDN HLN ⊢
 have HN:=Lib.hid hn
 clear hn
 go_enter Tryz.func151,Tryz.ntmps151
 go_wp2_with fail
 rw[meth_hlen]
 go_simp
 refine HLN.out.mono ?_
 rintro e w2 ⟨rfl,hw2⟩
 rw[← hw2]
 clear hw2 w2
 go_wp2_with fail
 refine HDN.out.mono ?_
 rintro e w1 ⟨⟨b,rfl⟩,l',⟨q1,q2,q3,q4,-,q5⟩,q6⟩
 have hh:HepN leR l'.length l':=by rw[q1,← HN.out];exact q6
 have hM:Tch (fun k=>k=h∨(Value.slice A n c).ownBlock=some k) X w1:=q5.mono fun k _ hk=>.inr hk
 cases b with
 | true =>
  have HF:=Lib.hid (show HdTo w0 B h (.slice A n c) l X w1 from ⟨⟨_,l',q2,q3,hh,.inl rfl⟩,hM⟩)
  clear q1 q2 q3 q4 q5 q6 hh hM
  go_wp2_with fail
  go_end0
  exact⟨⟨_,rfl⟩,HF.out⟩
 | false =>
  have HU:=Lib.hid (hup_any w0 B h 0 w1 (.slice A n c) l' q2 (by rw[q1];exact H1.out) (by rw[q1];have:=HL.out;omega) ⟨fun k x y hk hne hx hy=>hh k x y hk (List.getElem?_eq_some_iff.1 hy).1 hx hy,fun k x y h0=>by omega⟩ (fun e he=>HNE.out e (q3.mem_iff.1 he)))
  have HP:=Lib.hid q3
  have HM:=Lib.hid hM
  clear q1 q2 q3 q4 q5 q6 hh hM
  go_wp2_with fail
  refine HU.out.mono ?_
  rintro e w3 ⟨⟨u,rfl⟩,⟨l2,H3,hp3,hh3⟩,ht3⟩
  have HF:=Lib.hid (show HdTo w0 B h (.slice A n c) l X w3 from ⟨⟨_,l2,H3,hp3.trans HP.out,hh3,.inl rfl⟩,HM.out.same (ht3.mono fun k _ hk=>.inr hk)⟩)
  clear H3 hp3 hh3 ht3
  go_wp2_with fail
  go_end0
  exact⟨⟨_,rfl⟩,HF.out⟩
end Go.Proofs.YtnjlkhhcfiedbaaGreatDoor
namespace Go.Proofs.YtnjlkhhcfiedbaaGreatDoor
open Go.RowKit Go.Shelf Go.Sort
attribute [local go_sem] Oper.semAt_some
set_option maxRecDepth 100000 in
set_option maxHeartbeats 4000000 in
theorem heappop_any (w0:World) (B h:Nat) (X:World) (v:Value) (l:List Rs) (e0:Rs) (t:List Rs) (H:Hd w0 B h X v l) (hh:HepN leR l.length l∨DnI leR l.length 0 l) (hlt:l=e0 :: t) (hne:∀ e ∈ t,e.J ≠ []) (hl:l.length≤100000) :
  Calls Tryz.prog 152 #[.iface 149 (.pointer (some ⟨h,0,none⟩))] X fun e W=>(∃ u,e=.returned u)∧HdTo w0 B h v t X W:=by
 obtain⟨n,hn⟩:∃ n,n=t.length:=⟨_,rfl⟩
 have hln:l.length=n+1:=by rw[hlt,hn];rfl
 have g0:l[0]? = some e0:=by rw[hlt];rfl
 obtain⟨en,gn⟩:∃ en,l[n]? = some en:=⟨_,List.getElem?_eq_getElem (by omega)⟩
 have HSW:=Lib.hid (hswap_any w0 B h 0 n X v l e0 en H g0 gn)
 have hD:DnI leR n 0 (swpL l 0 n):=by
  rcases hh with h1 | h1
  ·exact DnI.pop h1 hln
  ·refine⟨fun k u w hk hlt' hne hu hv=>?_,fun k u w h0=>by omega⟩
   rw[swpL_at g0 gn] at hu hv
   rw[if_neg (by omega),if_neg (by omega)] at hu hv
   exact h1.1 k u w hk (by omega) hne hu hv
 have HD:=Lib.hid hD
 have hNE:NeN n (swpL l 0 n):=fun k e hk he=>by
  rw[swpL_at g0 gn,if_neg (by omega)] at he
  rcases Nat.eq_zero_or_pos k with rfl | h0
  ·rw[if_pos rfl] at he
   cases he
   refine hne _ ?_
   rw[hlt] at gn
   obtain⟨m,rfl⟩:∃ m,n=m+1:=⟨n - 1,by omega⟩
   exact List.mem_of_getElem? (by simpa using gn)
  ·rw[if_neg (by omega),hlt] at he
   obtain⟨m,rfl⟩:∃ m,k=m+1:=⟨k - 1,by omega⟩
   exact hne _ (List.mem_of_getElem? (by simpa using he))
 have HNE:=Lib.hid hNE
 have HX:=Lib.hid (show (swpL l 0 n)[n]? = some e0∧(swpL l 0 n).length=n+1∧(swpL l 0 n).Perm (e0 :: t) from ⟨by rw[swpL_at g0 gn,if_pos rfl],by rw[swpL_len];exact hln,by rw[← hlt];exact swpL_perm _ _ _⟩)
 obtain⟨A,c,rfl,-⟩:=own_form H.row
 have HLN:=Lib.hid (hdLen_any h l.length c A _ X H.box)
 rw[hln] at HSW HLN ⊢
 have e1:IntKind.i64.wrap (((n+1:Nat):Int) - 1)=(n:Int):=by rw[IntWalk.i64_in _ (by omega)];omega
 obtain⟨N,hN⟩:∃ N,N=n+1:=⟨_,rfl⟩
 rw[← hN] at HSW HLN e1 ⊢
 have HL:=Lib.hid (show N≤100000∧N=n+1 from ⟨by omega,hN⟩)
 clear hNE hne hh hD H hlt hl hln g0 gn hn hN
 go_enter Tryz.func152,Tryz.ntmps152
 go_wp2_with fail
 rw[meth_hlen]
 go_simp
 refine HLN.out.mono ?_
 rintro e w2 ⟨rfl,hw2⟩
 rw[← hw2]
 clear hw2 w2
 go_wp2_with fail
 rw[meth_hswap]
 go_simp
 refine HSW.out.mono ?_
 rintro e w1 ⟨⟨u,rfl⟩,hs1,ht1⟩
 have HDN:=Lib.hid (hdown_any w0 B h n w1 (.slice A N c) (swpL l 0 n) hs1 (by rw[HX.out.2.1];omega) (by rw[HX.out.2.1];have:=HL.out;omega) HD.out HNE.out)
 have HT1:=Lib.hid ht1
 clear hs1 ht1
 go_wp2_with fail
 refine HDN.out.mono ?_
 rintro e w2 ⟨⟨b,rfl⟩,l',⟨q1,q2,q3,q4,-,q5⟩,q6⟩
 have hl':l'.length=n+1:=by rw[q1];exact HX.out.2.1
 have HPP:=Lib.hid (hpopm_any w0 B h n w2 (.slice A N c) l' q2 hl' (by rw[hl'];have:=HL.out;omega))
 have hpt:(l'.take n).Perm t:=by
  have h1:l'=l'.take n ++ [e0]:=by
   have h2:=List.take_append_drop n l'
   have h3:l'.drop n=[e0]:=by
    have h4:l'[n]? = some e0:=by rw[q4 n (Nat.le_refl _)];exact HX.out.1
    rw[List.drop_eq_getElem_cons (by omega),(List.getElem?_eq_some_iff.1 h4).2,List.drop_eq_nil_iff.2 (by omega)]
   rw[h3] at h2
   exact h2.symm
  have h5:(l'.take n ++ [e0]).Perm (e0 :: t):=by rw[← h1];exact q3.trans HX.out.2.2
  exact (List.perm_cons e0).1 ((List.perm_append_comm (l₁:=[e0])).trans h5)
 have hh':HepN leR (l'.take n).length (l'.take n):=by
  rw[List.length_take,Nat.min_eq_left (by omega)]
  exact q6.take
 have HT2:=Lib.hid (HT1.out.same q5)
 have HPT:=Lib.hid (And.intro hpt hh')
 clear q1 q2 q3 q4 q5 q6 hl' hpt hh'
 go_wp2_with fail
 rw[meth_hpop]
 go_simp
 refine HPP.out.mono ?_
 rintro e w3 ⟨⟨u,rfl⟩,⟨v',H3,hbl⟩,ht3⟩
 have HF:=Lib.hid (show HdTo w0 B h (.slice A N c) t X w3 from ⟨⟨v',_,H3,HPT.out.1,HPT.out.2,.inl hbl⟩,(HT2.out.mono fun k _ hk=>.inr hk).same (ht3.mono fun k _ hk=>.inl hk)⟩)
 clear H3 hbl ht3
 go_wp2_with fail
 go_ret
 exact⟨⟨_,rfl⟩,HF.out⟩
end Go.Proofs.YtnjlkhhcfiedbaaGreatDoor
namespace Go.Proofs.YtnjlkhhcfiedbaaGreatDoor
open Go.RowKit Go.Shelf Go.Sort
attribute [local go_sem] Oper.semAt_some
def TakeP (w0:World) (B h:Nat) (v:Value) (l:List Rs) (x:Cel) (X:World) (e:Ending) (W:World):Prop :=
 (∃ vk vs vn vm,e=.returned (.agg #[vk,.int .i64 x.cnt,vs,vn,vm])∧CR w0 vk vs vn vm x∧inK .i64 x.cnt)∧(∃ v' l',Hd w0 B h W v' l'∧HepN leR l'.length l'∧Took l x l'∧(v'.ownBlock=v.ownBlock∨∃ k,v'.ownBlock=some k∧X.heap.size≤k))∧Tch (fun k=>k=h∨v.ownBlock=some k) X W
theorem Own.tchM {T:TypeId} {w W:World} {M:Nat→Prop} {b:Nat} {vs:List Value} (h:Own T w b vs) (ht:Tch M w W) (hb:¬ M b):Own T W b vs:=(ht.block b h.lt hb).trans h
set_option maxRecDepth 100000 in
set_option maxHeartbeats 4000000 in
theorem htake_any (w0:World) (B h:Nat) (X:World) (v:Value) (l:List Rs) (e0:Rs) (t:List Rs) (x:Cel) (J':List Cel) (H:Hd w0 B h X v l) (hh:HepN leR l.length l) (hok:RsOk l) (hlt:l=e0 :: t) (hxJ:e0.J=x :: J') (hl:l.length≤100000) :
  Calls Tryz.prog 119 #[.pointer (some ⟨h,0,none⟩)] X (TakeP w0 B h v l x X):=by
 have hn1:0<l.length:=by rw[hlt];simp
 have g0:l[0]? = some e0:=by rw[hlt];rfl
 obtain⟨g,c,rfl,hlc,hg,hcell⟩:=H.form hn1
 obtain⟨p0,p1⟩:=hcell 0 e0 g0
 rw[Nat.zero_mul] at p0
 obtain⟨A,q,ev,hcs,hkl,hmq⟩:=H.rd e0 (by rw[hlt];simp)
 rw[hxJ] at hcs hkl
 obtain⟨vk,vs,vn,vm,r0,r1,r2,r3,r4,hcr,hck⟩:=hcs.first
 have hm:e0.J.length=J'.length+1:=by rw[hxJ];rfl
 rw[ev,hm] at p0
 have hgX:g<X.heap.size:=(H.row.lt g rfl).2
 -- the boxes
 obtain⟨X1,hX1⟩:∃ X1,X1=X.alloc (.cells #[.slice none 0 0,.int .i64 0,.slice none 0 0,.slice none 0 0,.slice none 0 0] 46):=⟨_,rfl⟩
 have hb1:Below X.heap.size X X1:=by rw[hX1];exact (Below.refl _ _).alloc (Nat.le_refl _) _
 have o2:Own 46 X1 X.heap.size [.slice none 0 0,.int .i64 0,.slice none 0 0,.slice none 0 0,.slice none 0 0]:=by rw[hX1];exact heap_alloc_new X _
 have H1:=H.below hb1
 have k01:=(Keeps.of_below H.bw).trans (Keeps.of_below hb1)
 have HLE:=Lib.hid (hdLeast_any h g l.length c (J'.length+1) q A _ vk vs vn vm x X1 H1.box hn1 ((Keeps.of_below hb1) _ _ p0) (by omega) (k01 _ _ r0) (k01 _ _ r1) (k01 _ _ r2) (k01 _ _ r3) (k01 _ _ r4) (hcr.keep k01))
 have HCR:=Lib.hid (And.intro hcr hck)
 have HX:=Lib.hid H
 have HH:=Lib.hid hh
 have HOK:=Lib.hid hok
 have HEV:=Lib.hid (And.intro ev (And.intro hlt (And.intro hxJ (And.intro hl (And.intro hg hcs)))))
 have HKL:=Lib.hid (And.intro hkl hmq)
 obtain⟨⟨Pk,ck,f1,-⟩,⟨Ps,cs,f2,-⟩,⟨Pn,cn,f3,-⟩,⟨Pm,cm,f4,-⟩⟩:=hcr
 subst f1 f2 f3 f4
 obtain⟨xc,exc⟩:∃ z,z=x.cnt:=⟨_,rfl⟩
 obtain⟨l1,hl1⟩:∃ z,z=x.key.length:=⟨_,rfl⟩
 obtain⟨l2,hl2⟩:∃ z,z=x.sum.length:=⟨_,rfl⟩
 obtain⟨l3,hl3⟩:∃ z,z=x.mn.length:=⟨_,rfl⟩
 obtain⟨l4,hl4⟩:∃ z,z=x.mx.length:=⟨_,rfl⟩
 obtain⟨N,hN⟩:∃ z,z=l.length:=⟨_,rfl⟩
 rw[← exc,← hl1,← hl2,← hl3,← hl4] at HCR HLE
 rw[← hN] at HX ⊢
 have HXC:=Lib.hid exc
 have HN:=Lib.hid (And.intro hN hn1)
 obtain⟨m1,em1⟩:∃ z,z=J'.length:=⟨_,rfl⟩
 have HM:=Lib.hid em1
 have HO2:=Lib.hid o2
 have HB1:=Lib.hid hb1
 have HX1:=Lib.hid hX1
 have HGX:=Lib.hid hgX
 clear hm hn1 g0 hlc hg hcell p0 p1 ev hcs hkl hmq r0 r1 r2 r3 r4 hck hgX hb1 o2 H1 k01 hX1 H hh hok hlt hxJ hl exc hl1 hl2 hl3 hl4 hN em1
 go_enter Tryz.func119,Tryz.ntmps119
 go_wp2_with fail
 rw[← HX1.out]
 refine HLE.out.mono ?_
 rintro e w2 ⟨rfl,hb2⟩
 obtain⟨b2,hb2e⟩:∃ b2,b2=X.heap.size:=⟨_,rfl⟩
 rw[← hb2e]
 have HBE:=Lib.hid hb2e
 have HB2:=Lib.hid hb2
 clear hb2 hb2e
 go_upto_region 2 with (fail)
 obtain⟨b3,hb3e⟩:∃ b3,b3=w2.heap.size:=⟨_,rfl⟩
 rw[← hb3e]
 obtain⟨X3,hX3⟩:∃ X3,X3=w2.alloc (.cells #[.slice Pk l1 ck,.int .i64 xc,.slice Ps l2 cs,.slice Pn l3 cn,.slice Pm l4 cm] 46):=⟨_,rfl⟩
 rw[← hX3]
 have hb12:=HB1.out.trans (HB2.out.mono HB1.out.size)
 have hb3:Below X.heap.size X X3:=by rw[hX3];exact hb12.alloc hb12.size _
 have o3:Own 46 X3 b3 [.slice Pk l1 ck,.int .i64 xc,.slice Ps l2 cs,.slice Pn l3 cn,.slice Pm l4 cm]:=by rw[hX3,hb3e];exact heap_alloc_new w2 _
 have o2:Own 46 X3 b2 [.slice none 0 0,.int .i64 0,.slice none 0 0,.slice none 0 0,.slice none 0 0]:=by
  rw[hX3,HBE.out]
  exact Own.alloc (T:=46) ((HB2.out.block _ HO2.out.lt).trans HO2.out) _
 have h32:X.heap.size≤b2∧X.heap.size≤b3∧b2 ≠ b3:=by
  have:=HB2.out.size
  have:=HO2.out.lt
  have:=HB1.out.size
  have:=HBE.out
  omega
 have H3:=HX.out.below hb3
 have c0:=H3.box.cell (i:=0) rfl
 obtain⟨A4,c4,e4,hlc,-,hc4⟩:=own_form H3.row
 rw[← HN.out.1] at e4 hc4
 cases e4
 obtain⟨g',eg,-,hc4⟩:=hc4 (by rw[HN.out.1];exact HN.out.2)
 cases eg
 have p0:=hc4 0 e0.v (by rw[HEV.out.2.1];rfl)
 have hrow3:X3.ownsRow B 184 2 (.slice (some ⟨g,0,none⟩) N c) N (flat2 l):=by have:=H3.row;rw[← HN.out.1] at this;exact this
 have fz:=hrow3.frozenAt 0
 obtain⟨mm,hmm⟩:∃ mm,mm=m1+1:=⟨_,rfl⟩
 have hJl:e0.J.length=mm:=by rw[HEV.out.2.2.1,hmm,HM.out];rfl
 rw[HEV.out.1,hJl] at p0
 have hqm:mm≤q:=by rw[← hJl];exact HKL.out.2
 obtain⟨v1,hv1⟩:∃ v1,v1=Value.slice (if q=1 then some A else some (A.add 5)) m1 (q - 1):=⟨_,rfl⟩
 obtain⟨X4,hX4⟩:∃ X4,X4=X3.setCell ⟨g,0,none⟩ v1:=⟨_,rfl⟩
 have hrow:=(hrow3.stored 0 v1).1
 have hset:(flat2 l).set 0 v1=flat2 ((⟨v1,e0.n,J'⟩:Rs) :: t):=by rw[HEV.out.2.1];rfl
 have hlen:((⟨v1,e0.n,J'⟩:Rs) :: t).length=l.length:=by rw[HEV.out.2.1];rfl
 rw[hset,← hX4] at hrow
 have hT4:Tch (fun k=>k=g) X3 X4:=by rw[hX4];exact Tch.setCell (M:=fun k=>k=g) (g:=g) rfl _ _ _
 have hrd:RdR w0 (⟨v1,e0.n,J'⟩:Rs):=by
  refine⟨if q=1 then A else A.add 5,q - 1,?_,?_,fun y hy=>HKL.out.1 y (by simp[hy]),?_⟩
  ·show v1=.slice (some (if q=1 then A else A.add 5)) J'.length (q - 1)
   rw[hv1,HM.out]
   split <;> rfl
  ·by_cases hJ:J'=[]
   ·rw[hJ]
    exact fun j y hj=>by simp at hj
   ·have:0<J'.length:=List.length_pos_iff.2 hJ
    have:=HM.out
    rw[if_neg (by omega)]
    exact HEV.out.2.2.2.2.2.drop 1
  ·show J'.length≤q - 1
   have:=HM.out
   omega
 have H4:Hd w0 B h X4 (.slice (some ⟨g,0,none⟩) N c) (⟨v1,e0.n,J'⟩ :: t):=by
  have h5:Hd w0 B h X3 (.slice (some ⟨g,0,none⟩) l.length c) l:=by have:=H3;rw[HN.out.1] at this;exact this
  have:=Hd.row' h5 hT4 (l':=⟨v1,e0.n,J'⟩ :: t) (by rw[hlen,← HN.out.1];exact hrow) hlen (fun e he=>by
   rcases List.mem_cons.1 he with rfl | he
   ·exact hrd
   ·exact H3.rd e (by rw[HEV.out.2.1];simp[he])) HEV.out.2.2.2.2.1
  rw[← HN.out.1] at this
  exact this
 have o34:Own 46 X4 b3 [.slice Pk l1 ck,.int .i64 xc,.slice Ps l2 cs,.slice Pn l3 cn,.slice Pm l4 cm]:=o3.tchM hT4 (by have:=HGX.out;omega)
 have o24:Own 46 X4 b2 [.slice none 0 0,.int .i64 0,.slice none 0 0,.slice none 0 0,.slice none 0 0]:=o2.tchM hT4 (by have:=HGX.out;omega)
 have hXT:Tch (fun k=>k=h∨(Value.slice (some ⟨g,0,none⟩) N c).ownBlock=some k) X X4:=(Tch.of_below _ hb3).same (hT4.mono fun k _ hk=>by rw[hk];exact .inr rfl)
 have hDn:DnI leR (⟨v1,e0.n,J'⟩ :: t:List Rs).length 0 (⟨v1,e0.n,J'⟩ :: t):=by
  have:=DnI.root HH.out (⟨v1,e0.n,J'⟩:Rs)
  rw[hlen]
  rw[HEV.out.2.1] at this
  rw[HEV.out.2.1]
  exact this
 have hnb:∀ k,(k=h∨(Value.slice (some ⟨g,0,none⟩) N c).ownBlock=some k)→k<X.heap.size:=fun k hk=>by
  rcases hk with rfl | hk
  ·exact HX.out.box.lt
  ·injection hk with hk
   rw[← hk]
   exact HGX.out
 have HNB:=Lib.hid hnb
 have H4':=Lib.hid H4
 have HDN:=Lib.hid hDn
 have HXT:=Lib.hid hXT
 have HO3:=Lib.hid o34
 have HO24:=Lib.hid o24
 have HLN:=Lib.hid hlen
 have i2:1≤mm:=by omega
 have s1:mm - 1=m1:=by omega
 have HX4:=Lib.hid hX4
 have HV1:=Lib.hid hv1
 have H32:=Lib.hid h32
 have HMM:=Lib.hid (And.intro hmm hJl)
 have c4':=H4.box.cell (i:=0) rfl
 have p4:X4.cell? ⟨g,0,none⟩=some v1:=by
  obtain⟨A5,c5,e5,-,-,hc5⟩:=own_form hrow
  cases e5
  obtain⟨g',eg,-,hc5⟩:=hc5 (by rw[HN.out.1];exact HN.out.2)
  cases eg
  exact hc5 0 v1 rfl
 clear hX3 hb12 o3 o2 h32 H3 hc4 hmm hJl hX4 hv1 hrow hset hlen hT4 hrd H4 o34 o24 hXT hDn hb3 hb3e hrow3 hlc hnb
 have n1:0<N:=by rw[HN.out.1];exact HN.out.2
 go_upto_region 3 with (fail)
 go_cut [] from 12 to 19 (fun wx=>True∧wx=X4)
 case first =>
  by_cases hq1:q=1
  ·have hw:=HX4.out
   rw[HV1.out,if_pos hq1] at hw
   have HW:=Lib.hid hw
   clear hw c4' p4
   go_wp2_with fail
   go_meet
   exact⟨trivial,by rw[HW.out,show q - 1=0 from by omega]⟩
  ·have hw:=HX4.out
   rw[HV1.out,if_neg hq1] at hw
   have HW:=Lib.hid hw
   clear hw c4' p4
   go_wp2_with fail
   go_meet
   exact⟨trivial,by rw[HW.out];rfl⟩
 case rest =>
  obtain⟨-,hw⟩:=hcut
  subst hw
  rename World=>X4
  have hf:∃ A1 c1,v1=.slice A1 m1 c1:=⟨_,_,HV1.out⟩
  obtain⟨A1,c1,hv1⟩:=hf
  rw[hv1] at p4
  have HXC2:=Lib.hid (show (∃ vk vs vn vm,Ending.returned (.agg #[.slice Pk l1 ck,.int .i64 xc,.slice Ps l2 cs,.slice Pn l3 cn,.slice Pm l4 cm])=.returned (.agg #[vk,.int .i64 x.cnt,vs,vn,vm])∧CR w0 vk vs vn vm x∧inK .i64 x.cnt) from ⟨_,_,_,_,by rw[HXC.out],HCR.out.1,by rw[← HXC.out];exact HCR.out.2⟩)
  clear c0 p0 fz
  by_cases hJ:J'=[]
  ·have hm0:m1=0:=by rw[HM.out,hJ];rfl
   have e8:decide ((m1:Int) > 0)=false:=by simp;omega
   have e9:decide (0<m1)=false:=by simp;omega
   have HPO:=Lib.hid (heappop_any w0 B h X4 (.slice (some ⟨g,0,none⟩) N c) (⟨v1,e0.n,J'⟩ :: t) ⟨v1,e0.n,J'⟩ t H4'.out (.inr HDN.out) rfl (fun e he=>(HOK.out e (by rw[HEV.out.2.1];simp[he])).1) (by rw[HLN.out];exact HEV.out.2.2.2.1))
   have HJ:=Lib.hid hJ
   clear hm0 hJ
   go_wp2_with fail
   refine HPO.out.mono ?_
   rintro e w5 ⟨⟨u,rfl⟩,⟨v',l',H5,hp5,hh5,hbl⟩,ht5⟩
   have o3:=HO3.out.tchM ht5 (fun hk=>by have:=HNB.out b3 hk;have:=H32.out;omega)
   have o2:=HO24.out.tchM ht5 (fun hk=>by have:=HNB.out b2 hk;have:=H32.out;omega)
   obtain⟨W9,hW9⟩:∃ W9,W9=((((w5.setCell ⟨b2,0,none⟩ (.slice Pk l1 ck)).setCell ⟨b2,1,none⟩ (.int .i64 xc)).setCell ⟨b2,2,none⟩ (.slice Ps l2 cs)).setCell ⟨b2,3,none⟩ (.slice Pn l3 cn)).setCell ⟨b2,4,none⟩ (.slice Pm l4 cm):=⟨_,rfl⟩
   have oF:=((((o2.set_ 0 (.slice Pk l1 ck)).set_ 1 (.int .i64 xc)).set_ 2 (.slice Ps l2 cs)).set_ 3 (.slice Pn l3 cn)).set_ 4 (.slice Pm l4 cm)
   rw[← hW9] at oF
   have hT9:Tch (fun k=>k=b2) w5 W9:=by
    rw[hW9]
    exact ((((Tch.setCell (M:=fun k=>k=b2) (g:=b2) rfl _ _ _).same (Tch.setCell (M:=fun k=>k=b2) (g:=b2) rfl _ _ _)).same (Tch.setCell (M:=fun k=>k=b2) (g:=b2) rfl _ _ _)).same (Tch.setCell (M:=fun k=>k=b2) (g:=b2) rfl _ _ _)).same (Tch.setCell (M:=fun k=>k=b2) (g:=b2) rfl _ _ _)
   have hbX:X.heap.size≤X4.heap.size:=HXT.out.size
   have hlt2:=HO24.out.lt
   have H9:Hd w0 B h W9 v' l':=H5.stay hT9 fun k hk=>by
    rw[show k=b2 from hk]
    refine⟨fun e=>?_,fun e=>?_,Nat.le_trans HX.out.bw.size H32.out.1⟩
    ·have:=HX.out.box.lt;have:=H32.out;omega
    ·rcases hbl with q | ⟨k',q,q2⟩
     ·rw[e] at q
      have:=HNB.out b2 (.inr q.symm)
      have:=H32.out
      omega
     ·rw[e] at q
      injection q with q
      omega
   have hTT:Tch (fun k=>k=h∨(Value.slice (some ⟨g,0,none⟩) N c).ownBlock=some k) X W9:=(HXT.out.same ht5).trans hT9 fun k hk e=>by have:=H32.out;omega
   have hbl2:v'.ownBlock=(Value.slice (some ⟨g,0,none⟩) N c).ownBlock∨∃ k,v'.ownBlock=some k∧X.heap.size≤k:=hbl.imp id fun ⟨k,q,q2⟩=>⟨k,q,Nat.le_trans hbX q2⟩
   have htk:Took l x l':=⟨e0,J',t,HEV.out.2.1,HEV.out.2.2.1,.inl ⟨HJ.out,hp5⟩⟩
   have HF:=Lib.hid (show TakeP w0 B h (.slice (some ⟨g,0,none⟩) N c) l x X (.returned (.agg #[.slice Pk l1 ck,.int .i64 xc,.slice Ps l2 cs,.slice Pn l3 cn,.slice Pm l4 cm])) W9 from ⟨HXC2.out,⟨v',l',H9,hh5,htk,hbl2⟩,hTT⟩)
   obtain⟨a0,a1,a2,a3,a4⟩:=Own.bx o3
   obtain⟨z0,z1,z2,z3,z4⟩:=Own.bx o2
   have f0:=o2.frozen 0
   have f1:=o2.frozen 1
   have f2:=o2.frozen 2
   have f3:=o2.frozen 3
   have f4:=o2.frozen 4
   have HR:=Lib.hid (And.intro (oF.cell (i:=0) rfl) (And.intro (oF.cell (i:=1) rfl) (And.intro (oF.cell (i:=2) rfl) (And.intro (oF.cell (i:=3) rfl) (oF.cell (i:=4) rfl)))))
   have HW9:=Lib.hid hW9
   clear hW9 oF hT9 hbX hlt2 H9 hTT hbl2 htk o3 o2 H5 hp5 hh5 hbl ht5
   go_wp2_with fail
   rw[← HW9.out]
   obtain⟨r0,r1,r2,r3,r4⟩:=HR.out
   exact bodyPost_ret (v:=.agg #[.slice Pk l1 ck,.int .i64 xc,.slice Ps l2 cs,.slice Pn l3 cn,.slice Pm l4 cm]) (by simp[results,Tryz.results119,go_sem,r0,r1,r2,r3,r4]) rfl HF.out
  ·have hm0:0<m1:=by rw[HM.out];exact List.length_pos_iff.2 hJ
   have e8:decide ((m1:Int) > 0)=true:=by simp;omega
   have e9:decide (0<m1)=true:=by simp;omega
   have HPO:=Lib.hid (heapfix_any w0 B h X4 (.slice (some ⟨g,0,none⟩) N c) (⟨v1,e0.n,J'⟩ :: t) H4'.out HDN.out (by rw[HLN.out];exact HEV.out.2.2.2.1) (by rw[HLN.out,← HN.out.1];exact n1) (fun e he=>by
    rcases List.mem_cons.1 he with rfl | he
    ·exact hJ
    ·exact (HOK.out e (by rw[HEV.out.2.1];simp[he])).1))
   have HJ:=Lib.hid hJ
   clear hm0 hJ
   go_wp2_with fail
   refine HPO.out.mono ?_
   rintro e w5 ⟨⟨u,rfl⟩,⟨v',l',H5,hp5,hh5,hbl⟩,ht5⟩
   have o3:=HO3.out.tchM ht5 (fun hk=>by have:=HNB.out b3 hk;have:=H32.out;omega)
   have o2:=HO24.out.tchM ht5 (fun hk=>by have:=HNB.out b2 hk;have:=H32.out;omega)
   obtain⟨W9,hW9⟩:∃ W9,W9=((((w5.setCell ⟨b2,0,none⟩ (.slice Pk l1 ck)).setCell ⟨b2,1,none⟩ (.int .i64 xc)).setCell ⟨b2,2,none⟩ (.slice Ps l2 cs)).setCell ⟨b2,3,none⟩ (.slice Pn l3 cn)).setCell ⟨b2,4,none⟩ (.slice Pm l4 cm):=⟨_,rfl⟩
   have oF:=((((o2.set_ 0 (.slice Pk l1 ck)).set_ 1 (.int .i64 xc)).set_ 2 (.slice Ps l2 cs)).set_ 3 (.slice Pn l3 cn)).set_ 4 (.slice Pm l4 cm)
   rw[← hW9] at oF
   have hT9:Tch (fun k=>k=b2) w5 W9:=by
    rw[hW9]
    exact ((((Tch.setCell (M:=fun k=>k=b2) (g:=b2) rfl _ _ _).same (Tch.setCell (M:=fun k=>k=b2) (g:=b2) rfl _ _ _)).same (Tch.setCell (M:=fun k=>k=b2) (g:=b2) rfl _ _ _)).same (Tch.setCell (M:=fun k=>k=b2) (g:=b2) rfl _ _ _)).same (Tch.setCell (M:=fun k=>k=b2) (g:=b2) rfl _ _ _)
   have hbX:X.heap.size≤X4.heap.size:=HXT.out.size
   have hlt2:=HO24.out.lt
   have H9:Hd w0 B h W9 v' l':=H5.stay hT9 fun k hk=>by
    rw[show k=b2 from hk]
    refine⟨fun e=>?_,fun e=>?_,Nat.le_trans HX.out.bw.size H32.out.1⟩
    ·have:=HX.out.box.lt;have:=H32.out;omega
    ·rcases hbl with q | ⟨k',q,q2⟩
     ·rw[e] at q
      have:=HNB.out b2 (.inr q.symm)
      have:=H32.out
      omega
     ·rw[e] at q
      injection q with q
      omega
   have hTT:Tch (fun k=>k=h∨(Value.slice (some ⟨g,0,none⟩) N c).ownBlock=some k) X W9:=(HXT.out.same ht5).trans hT9 fun k hk e=>by have:=H32.out;omega
   have hbl2:v'.ownBlock=(Value.slice (some ⟨g,0,none⟩) N c).ownBlock∨∃ k,v'.ownBlock=some k∧X.heap.size≤k:=hbl.imp id fun ⟨k,q,q2⟩=>⟨k,q,Nat.le_trans hbX q2⟩
   have htk:Took l x l':=⟨e0,J',t,HEV.out.2.1,HEV.out.2.2.1,.inr ⟨HJ.out,v1,hp5⟩⟩
   have HF:=Lib.hid (show TakeP w0 B h (.slice (some ⟨g,0,none⟩) N c) l x X (.returned (.agg #[.slice Pk l1 ck,.int .i64 xc,.slice Ps l2 cs,.slice Pn l3 cn,.slice Pm l4 cm])) W9 from ⟨HXC2.out,⟨v',l',H9,hh5,htk,hbl2⟩,hTT⟩)
   obtain⟨a0,a1,a2,a3,a4⟩:=Own.bx o3
   obtain⟨z0,z1,z2,z3,z4⟩:=Own.bx o2
   have f0:=o2.frozen 0
   have f1:=o2.frozen 1
   have f2:=o2.frozen 2
   have f3:=o2.frozen 3
   have f4:=o2.frozen 4
   have HR:=Lib.hid (And.intro (oF.cell (i:=0) rfl) (And.intro (oF.cell (i:=1) rfl) (And.intro (oF.cell (i:=2) rfl) (And.intro (oF.cell (i:=3) rfl) (oF.cell (i:=4) rfl)))))
   have HW9:=Lib.hid hW9
   clear hW9 oF hT9 hbX hlt2 H9 hTT hbl2 htk o3 o2 H5 hp5 hh5 hbl ht5
   go_wp2_with fail
   rw[← HW9.out]
   obtain⟨r0,r1,r2,r3,r4⟩:=HR.out
   exact bodyPost_ret (v:=.agg #[.slice Pk l1 ck,.int .i64 xc,.slice Ps l2 cs,.slice Pn l3 cn,.slice Pm l4 cm]) (by simp[results,Tryz.results119,go_sem,r0,r1,r2,r3,r4]) rfl HF.out
end Go.Proofs.YtnjlkhhcfiedbaaGreatDoor

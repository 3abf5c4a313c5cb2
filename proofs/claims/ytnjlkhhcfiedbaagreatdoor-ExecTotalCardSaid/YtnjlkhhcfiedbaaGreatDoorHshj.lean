import Derived.Deep.Onto
import Derived.ScopeJumps
import Derived.IntWalk
import Derived.Test.YtnjlkhhcfiedbaaGreatDoorHshk
namespace Go.Proofs.YtnjlkhhcfiedbaaGreatDoor
open Go.RowKit
attribute [local go_sem] Oper.semAt_some
theorem okK_of {d a:Nat} {l:List Cel} (h:Fit d a l) {x:Cel} (hx:x ∈ l):okK x.key=true:=by
 unfold okK
 rw[List.all_eq_true]
 exact fun v hv=>decide_eq_true (h.val x hx v hv)
theorem putC_perm_new (c:Cel):∀ (l:List Cel),(∀ x ∈ l,x.key ≠ c.key)→(putC l c).Perm (c :: l)
 | [],_=>List.Perm.refl _
 | x :: l,h=>by
  simp only[putC]
  split
  ·exact (List.Perm.cons x (putC_perm_new c l fun y hy=>h y (by simp[hy]))).trans (List.Perm.swap c x l)
  ·rw[if_neg fun e=>h x (by simp) (cmpL_zero.1 e)]
theorem fold_perm_apart:∀ (l acc:List Cel),(l.Pairwise fun x y=>x.key ≠ y.key)→(∀ x ∈ acc,∀ y ∈ l,x.key ≠ y.key)→(l.foldl putC acc).Perm (l ++ acc)
 | [],acc,_,_=>List.Perm.refl _
 | c :: l,acc,h,hd=>by
  obtain⟨h1,h2⟩:=List.pairwise_cons.1 h
  have hp:=putC_perm_new c acc fun x hx=>hd x hx c (by simp)
  have:=fold_perm_apart l (putC acc c) h2 (fun x hx y hy=>by
   rcases List.mem_cons.1 (hp.mem_iff.1 hx) with rfl | hx
   ·exact h1 y hy
   ·exact hd x hx y (by simp[hy]))
  rw[List.foldl_cons]
  refine this.trans ((List.Perm.append_left l hp).trans ?_)
  exact List.perm_middle
theorem grp_perm_apart {l:List Cel} (h:l.Pairwise fun x y=>x.key ≠ y.key):(grpR l).Perm l:=by
 have:=fold_perm_apart l [] h (fun x hx=>by cases hx)
 simpa [grpR] using this
theorem fill_cells {n:Nat} {l:List Cel} {ts:List (Option Cel)} (h:fillT (List.replicate n none) l=some ts):InvT ts∧ts.length=n∧grpR (cellsT ts)=grpR l∧(cellsT ts).Perm (grpR l):=by
 obtain⟨h1,h2,h3⟩:=fill_some l (inv_new n) h
 rw[cells_new,List.length_replicate] at *
 have h4:grpR (cellsT ts)=grpR l:=by simpa [grpR] using h2
 exact⟨h1,by simpa using h3,h4,by rw[← h4];exact (grp_perm_apart (inv_apart h1)).symm⟩
theorem fill_ok {n mm dd:Nat} {l:List Cel} {ts:List (Option Cel)} (h:fillT (List.replicate n none) l=some ts) (hl:∀ x ∈ l,x.key.length=dd∧EvenC mm x):∀ y ∈ cellsT ts,y.key.length=dd∧EvenC mm y:=fun y hy=>by
 obtain⟨-,-,-,hp⟩:=fill_cells h
 have hy2:=hp.mem_iff.1 hy
 refine⟨?_,grp_even l [] (fun x h=>by cases h) (fun x hx=>(hl x hx).2) y hy2⟩
 rcases grp_keys l [] y hy2 with ⟨z,hz,_⟩ | ⟨z,hz,e⟩
 ·cases hz
 ·rw[← e];exact (hl z hz).1
theorem PutC.reads {B T g l mm:Nat} {w:World} {ts:List (Option Cel)} {x:Cel} {e:Ending} {w':World} (h:PutC B w T g l mm ts x e w'):(∃ ts',putT ts x=some ts'∧e=.returned (.bool true)∧∃ vs',Tb B w' T g l mm vs' ts'∧Tch (fun b=>b=g∨b=T) w w')∨putT ts x=none∧e=.returned (.bool false)∧Below w.heap.size w w':=by
 unfold PutC at h
 cases hp:putT ts x with
 | none=>rw[hp] at h;exact .inr ⟨rfl,h⟩
 | some ts'=>rw[hp] at h;exact .inl ⟨ts',rfl,h⟩
set_option maxRecDepth 100000 in
set_option maxHeartbeats 4000000 in
theorem add_step (F:Nat) (IH:AddSpec F):AddSpec (F+1):=by
 intro w0 w blk G s n c a f dd mm slots parts D outv us J hfF haf hdd hmm hs1 hs2 hP hFit hsn hDl hnc hn1 hk hb0 hH hTy hG hbG hob hJ hpa
 have hsl:=seg_len hsn
 obtain⟨L,hL⟩:∃ L,L=(seg D s n).map (·.2):=⟨_,rfl⟩
 have hLn:L.length=n:=by rw[hL,List.length_map,hsl]
 have hmem:∀ x ∈ L,∃ p ∈ D,p.2=x:=fun x hx=>by
  rw[hL] at hx
  obtain⟨p,hp,rfl⟩:=List.mem_map.1 hx
  exact⟨p,List.mem_of_mem_drop (List.mem_of_mem_take hp),rfl⟩
 have hLx:∀ x ∈ L,x.key.length=dd∧EvenC mm x∧inK .i64 x.cnt:=fun x hx=>by
  obtain⟨p,hp,rfl⟩:=hmem x hx
  exact⟨(hP.rd p hp).2,hP.ev p hp,(hP.rd p hp).1.2.2⟩
 have hCR:CellsR w ⟨blk,s*5,none⟩ L:=by
  rw[hL]
  exact (hH.seg s n).cellsR fun p hp=>((hP.rd p (List.mem_of_mem_drop (List.mem_of_mem_take hp))).1).keep hk
 rw[← hL] at hFit
 have hLp:=parts_perm slots f a L L (List.Perm.refl _)
 have hGlt:=hG.bx.lt
 have hblt:blk<w.heap.size:=by
  obtain⟨u,hu⟩:∃ u,(flatV (D.map (·.1)))[0]? = some u:=⟨_,List.getElem?_eq_getElem (by rw[flatV_len,List.length_map];omega)⟩
  exact block_lt (hH 0 u hu).1
 obtain⟨w1,hw1⟩:∃ w1,w1=w.alloc (.cells #[.slice (some ⟨blk,s*5,none⟩) n c,.int .i64 a] 104):=⟨_,rfl⟩
 have o1:Own 104 w1 w.heap.size [.slice (some ⟨blk,s*5,none⟩) n c,.int .i64 a]:=by rw[hw1];exact heap_alloc_new w _
 have hb1:Below w.heap.size w w1:=by rw[hw1];exact (Below.refl _ w).alloc (Nat.le_refl _) _
 have hz1:w1.heap.size=w.heap.size+1:=by rw[hw1];simp
 have HNW:=Lib.hid (hnew_any slots w1 hs1 hs2)
 have g0:=(hG.below hb1).bx.cell (i:=0) rfl
 have HB1:=Lib.hid hb1
 have HIH:=Lib.hid IH
 have HP:=Lib.hid hP
 have HF:=Lib.hid hFit
 have HK:=Lib.hid hk
 have HH:=Lib.hid hH
 have HG:=Lib.hid hG
 have HTY:=Lib.hid hTy
 have HC:=Lib.hid hCR
 have HLX:=Lib.hid hLx
 have HLN:=Lib.hid hLn
 have HLE:=Lib.hid hL
 obtain⟨b,eb⟩:∃ b,b=w.heap.size:=⟨_,rfl⟩
 rw[← eb] at o1
 have O1:=Lib.hid o1
 have Eb:=Lib.hid eb
 clear hTy hLp hsl hmem hLx hCR hL hLn IH hP hFit hk hH hG o1 hb1
 go_enter Tryz.func71,Tryz.ntmps71
 go_upto_region 1 with (fail)
 rw[← hw1,← eb]
 clear hw1 eb
 refine wp_scope_jumps 0 (fun a' w'=>∃ (u4 u5 u6 u7 u8 u9 u10 u11 u12 u13 u14 u15 u16 u17 u18 u19 u20 u21 u22 u23 u24 u25 u26 u27 u28 u29 u30 u31 u32 u33 u34 u35 u36 u37 u38 u39:Value),a'={ tmps:=#[Value.pointer (some ⟨G,0,none⟩),Value.agg #[.slice (some ⟨blk,s*5,none⟩) n c,.int .i64 (a:Int)],undef,Value.pointer (some ⟨b,0,none⟩),u4,u5,u6,u7,u8,u9,u10,u11,u12,u13,u14,u15,u16,u17,u18,u19,u20,u21,u22,u23,u24,u25,u26,u27,u28,u29,u30,u31,u32,u33,u34,u35,u36,u37,u38,u39],defers:=[] }∧¬ (grpR L).length≤slots∧Below w1.heap.size w1 w') (fun _ _=>0) rfl ?first ?pass
 case pass =>
  rintro a' wj ⟨u4,u5,u6,u7,u8,u9,u10,u11,u12,u13,u14,u15,u16,u17,u18,u19,u20,u21,u22,u23,u24,u25,u26,u27,u28,u29,u30,u31,u32,u33,u34,u35,u36,u37,u38,u39,rfl,hng,hbj⟩
  obtain⟨q,f',hqf,haq,hal,hno,hFq,hpq⟩:=parting_is hs1 hng f a haf HF.out
  have hbw:Below w.heap.size w wj:=HB1.out.trans (hbj.mono HB1.out.size)
  have hbj0:=hbj.size
  have hHs:=(HH.out.seg s n).below hbw
  have hsl:=seg_len hsn
  have hAP:=fun (W:World) (hb:Below wj.heap.size wj W)=>hapart_any blk (s*5) n c a q dd (seg D s n) w0 W (fun p hp=>HP.out.rd p (List.mem_of_mem_drop (List.mem_of_mem_take hp))) (HK.out.trans ((Keeps.of_below hbw).trans (Keeps.of_below hb))) hsl hn1 (by omega) hnc (hHs.below hb) hb0 haq (by omega) hdd (fun p h1 h2=>by rw[← HLE.out];exact hal p h1 h2) (by rw[← HLE.out];exact hno)
  have HAP:=Lib.hid (hAP wj (Below.refl _ _))
  have s0:=(O1.out.below hbj O1.out.lt).cell (i:=0) rfl
  have s1:=(O1.out.below hbj O1.out.lt).cell (i:=1) rfl
  have Hbw:=Lib.hid hbw
  have HFQ:=Lib.hid hFq
  have HPQ:=Lib.hid hpq
  have Hng:=Lib.hid hng
  clear hbw hHs hsl hAP hal hno hFq hpq hng hbj
  go_wp2_with fail
  clear s0 s1
  refine HAP.out.mono ?_
  rintro e w5 ⟨v,ns,mid,rfl,hperm,hrise,hcut,hsum,hm1,hrow,hH5,hel,htc,hty5⟩
  have hml:mid.length=n:=by rw[hperm.length_eq,seg_len hsn]
  obtain⟨L1,hL1⟩:∃ L1,L1=mid.map (·.2):=⟨_,rfl⟩
  rw[← hL1] at hrise hcut
  have hL1n:L1.length=n:=by rw[hL1,List.length_map,hml]
  have hpL:L.Perm L1:=by rw[HLE.out,hL1];exact (hperm.map _).symm
  have hF1:Fit dd q L1:=HFQ.out.perm hpL
  have hng1:¬ (grpR L1).length≤slots:=by rw[← grpR_perm hpL];exact Hng.out
  have hpart:partsP slots f a L=(cuts ns L1).flatMap (partsP slots f' (q+1)):=by
   rw[HPQ.out,parts_perm slots (f'+1) q L L1 hpL,parts_runs hqf hF1 hrise hng1,hL1n,hcut]
  have hpf:∀ p ∈ cuts ns L1,Fit dd (q+1) p∧p ≠ []:=by
   rw[hcut,← hL1n]
   exact runs_fit hF1 (by omega) hrise
  have hK1:1≤ns.length:=by
   rcases Nat.eq_zero_or_pos ns.length with h | h
   ·have:ns=[]:=List.eq_nil_of_length_eq_zero h
    rw[this] at hsum
    simp at hsum
    omega
   ·exact h
  obtain⟨K,hKe⟩:∃ K,K=ns.length:=⟨_,rfl⟩
  have hK60:K≤60:=by
   have h1:(cuts ns L1).length≤(cuts ns L1).flatten.length:=flat_len_ge fun p hp=>by
    exact List.length_pos_iff.2 (hpf p hp).2
   have h2:=cuts_flat ns L1
   rw[cuts_len] at h1
   omega
  rw[← hKe] at hrow hK1
  obtain⟨pb,cP,e1⟩:=ownsRow_succ (k:=K - 1) (by rw[show K - 1+1=K by omega];exact hrow)
  rw[show K - 1+1=K by omega] at e1
  subst e1
  have hrc:∀ j u,(rowP blk (s*5) c ((q:Int)+1) 0 ns)[j]? = some u→w5.cell? ⟨pb,j,none⟩=some u:=by
   obtain⟨A,c',e,-,-,hfo⟩:=own_form hrow
   obtain⟨g',rfl,-,hc⟩:=hfo (by omega)
   injection e with e _ _
   injection e with e
   injection e with e
   subst e
   exact hc
  have hH5':HoldsL w5 blk 0 ((spl3 D mid s n).map (·.1)):=(HH.out.below Hbw.out).splice hml hsn hH5 hel
  have hG5:Gs w0.heap.size w5 G slots outv us J parts:=by
   have hGj:=HG.out.below Hbw.out
   have hoi:∀ {v:Value} {xs:List Int},OI w0.heap.size wj v xs→OI w0.heap.size w5 v xs:=fun o=>by
    obtain⟨cur,hcur⟩:=HTY.out.of (Hbw.out.block blk hblt)
    exact o.tch htc hcur (by decide)
   refine⟨(htc.block G hGj.bx.lt (fun e=>hbG e.symm)).trans hGj.bx,⟨own_stay hGj.out.1 fun k hk=>htc.block k (hGj.out.1.lt k hk).2 (fun e=>hob (by rw[hk,e])),hGj.out.2.stay hoi⟩,hGj.hG⟩
  have hTy5:TyC w5 blk:=hty5 (HTY.out.of (Hbw.out.block blk hblt))
  have htw:Tch (fun b=>b=G∨b=blk∨outv.ownBlock=some b) w w5:=(Tch.of_below _ Hbw.out).same (htc.mono fun q _ h=>.inr (.inl h))
  obtain⟨Q1,hQ1⟩:∃ Q1,Q1=q+1:=⟨_,rfl⟩
  rw[← hQ1] at hpart hpf
  have hQf:Q1+f'=dd:=by omega
  have HQ1:=Lib.hid hQ1
  obtain⟨P,hPd⟩:∃ P,P=partsP slots f' Q1:=⟨_,rfl⟩
  obtain⟨C,hCd⟩:∃ C,C=cuts ns L1:=⟨_,rfl⟩
  have ho5:b ≠ pb:=by have:=(hrow.lt pb rfl).1;have:=O1.out.lt;have:=hbj0;omega
  have HPB:Hid (wj.heap.size≤pb):=Lib.hid (hrow.lt pb rfl).1
  have HRC:=Lib.hid hrc
  have HH5:=Lib.hid hH5'
  have HG5:=Lib.hid hG5
  have HTW:=Lib.hid htw
  have HTY5:=Lib.hid hTy5
  have HPA:=Lib.hid hpart
  have HPF:=Lib.hid hpf
  have HSU:=Lib.hid hsum
  have HKE:=Lib.hid hKe
  have HML:=Lib.hid hml
  have HL1:=Lib.hid hL1
  have HPE:=Lib.hid hperm
  have HPD:=Lib.hid hPd
  have HCD:=Lib.hid hCd
  have hpbG:pb ≠ G:=by have:=HPB.out;have:=Hbw.out.size;omega
  have hpbB:pb ≠ blk:=by have:=HPB.out;have:=Hbw.out.size;omega
  have hpbO:outv.ownBlock ≠ some pb:=fun e=>by have:=(HG.out.out.1.lt pb e).2;have:=HPB.out;have:=Hbw.out.size;omega
  clear hQ1 hrow hrc hH5 hH5' hG5 htw hTy5 hty5 htc hel hpart hpf hsum hKe hml hL1 hperm hPd hCd hrise hcut hF1 hng1 hpL hL1n HAP
  have dK:decide ((0:Int)<(K:Int))=true:=decide_eq_true (by omega)
  go_wp2_with fail
  go_loopw [32] (fun i wr=>∃ (k:Nat) (outv':Value) (us':List V5) (D':List (V5 × Cel)),i=.int .i64 k∧k≤K∧Gs w0.heap.size wr G slots outv' us' (J ++ ((C.take k).flatMap P).flatten) (parts+((C.take k).flatMap P).length)∧OutRel outv w5 outv'∧Tch (fun b=>b=G∨b=blk∨outv.ownBlock=some b) w5 wr∧HoldsL wr blk 0 (D'.map (·.1))∧TyC wr blk∧D'.Perm D∧D'.take s=D.take s∧D'.drop (s+(ns.take k).sum)=(spl3 D mid s n).drop (s+(ns.take k).sum)) (fun i _=>K - (intOf i).toNat)
  case atStart=>exact⟨0,outv,us,spl3 D mid s n,rfl,Nat.zero_le _,by simpa using HG5.out,OutRel.refl _ _,Tch.refl _ _,HH5.out,HTY5.out,spl3_perm HPE.out,spl3_take (by omega),rfl⟩
  case round =>
   obtain⟨k,outv',us',D',rfl,hk,hG',hR',hT',hH',hTy',hPe',hTa',hDr'⟩:=hrel
   rename World=>wr
   by_cases hlt:k<K
   ·have i0:(0:Int)≤(k:Int):=by omega
    have i1:(k:Int)<(K:Int):=by omega
    have d1:decide ((k:Int)<(K:Int))=true:=decide_eq_true i1
    obtain⟨m,hm⟩:∃ m,ns[k]? = some m:=⟨_,List.getElem?_eq_getElem (by rw[← HKE.out];exact hlt)⟩
    have hm1':=hm1 m (List.mem_of_getElem? hm)
    obtain⟨r0,r1⟩:=rowP_at blk (s*5) c ((q:Int)+1) ns 0 k m hm
    have hst:=sum_take ns k m hm
    have hsl:=sum_take_le ns (k+1)
    rw[HSU.out] at hsl
    obtain⟨sk,hsk⟩:∃ sk,sk=(ns.take k).sum:=⟨_,rfl⟩
    rw[← hsk] at hst hDr' r0
    rw[Nat.zero_add] at r0
    have hskm:sk+m≤n:=by omega
    have hce:∀ j u,(rowP blk (s*5) c ((q:Int)+1) 0 ns)[j]? = some u→wr.cell? ⟨pb,j,none⟩=some u:=fun j u h=>by
     have h1:=HRC.out j u h
     rw[World.cell?_of_block (hT'.block pb (block_lt h1) (fun e=>by
      rcases e with e | e | e
      ·exact hpbG e
      ·exact hpbB e
      ·exact hpbO e))]
     exact h1
    have c0:wr.cell? ⟨pb,k*2,none⟩=some (.slice (some ⟨blk,(s+sk)*5,none⟩) m (c - sk)):=by
     have:=hce _ _ r0
     rwa [show s*5+sk*5=(s+sk)*5 by omega] at this
    have c1:wr.cell? ⟨pb,k*2+1,none⟩=some (.int .i64 (Q1:Int)):=by
     have:=hce _ _ r1
     rwa [show (q:Int)+1=(Q1:Int) by rw[HQ1.out];push_cast;rfl] at this
    have hseg:seg D' (s+sk) m=(mid.drop sk).take m:=by rw[seg_drop hDr',seg_in HML.out hsn hskm]
    have hpc:((seg D' (s+sk) m).map (·.2))=(L1.drop sk).take m:=by rw[hseg,HL1.out,List.map_take,List.map_drop]
    have hCk:C[k]? = some ((L1.drop sk).take m):=by rw[HCD.out,hsk];exact cuts_at ns L1 k m hm
    obtain⟨hFp,hnp⟩:=HPF.out _ (by rw[← HCD.out];exact List.mem_of_getElem? hCk)
    have hDl':D'.length=D.length:=hPe'.length_eq
    have hpl:=pieces_le (slots:=slots) (d:=dd) (f:=f') (a:=Q1) hs1 hQf (C.take k) (fun p hp=>HPF.out p (by rw[← HCD.out];exact List.mem_of_mem_take hp))
    have hcf:(C.take k).flatten.length≤sk:=by rw[HCD.out,← cuts_take,hsk];exact cuts_flat _ _
    rw[← HPD.out] at hpl
    have hkw0:Keeps w0 wr:=fun p v hv=>by
     have h1:=HK.out p v hv
     have lw:=block_lt hv
     have e1:w5.heap[p.block]? = w.heap[p.block]?:=HTW.out.block p.block (block_lt h1) (fun e=>by
      rcases e with e | e | e
      ·have:=HG.out.hG;omega
      ·omega
      ·have:=(HG.out.out.1.lt _ e).1;omega)
     have e2:wr.heap[p.block]? = w5.heap[p.block]?:=hT'.block p.block (Nat.lt_of_lt_of_le (block_lt h1) HTW.out.size) (fun e=>by
      rcases e with e | e | e
      ·have:=HG.out.hG;omega
      ·omega
      ·have:=(HG.out.out.1.lt _ e).1;omega)
     rw[World.cell?_of_block (e2.trans e1)]
     exact h1
    have hob':outv'.ownBlock ≠ some blk:=fun e=>by
     rcases hR' with h | ⟨z,h1,h2⟩
     ·exact hob (h ▸ e)
     ·rw[h1] at e
      injection e with e
      have:=HTW.out.size
      omega
    obtain⟨w6,hw6⟩:∃ w6,w6=wr.alloc (.cells #[.slice (some ⟨blk,(s+sk)*5,none⟩) m (c - sk),.int .i64 (Q1:Int)] 104):=⟨_,rfl⟩
    have o6:Own 104 w6 wr.heap.size [.slice (some ⟨blk,(s+sk)*5,none⟩) m (c - sk),.int .i64 (Q1:Int)]:=by rw[hw6];exact heap_alloc_new wr _
    have hb6:Below wr.heap.size wr w6:=by rw[hw6];exact (Below.refl _ _).alloc (Nat.le_refl _) _
    have hih:=HIH.out w0 w6 blk G (s+sk) m (c - sk) Q1 f' dd mm slots _ D' outv' us' _ (by omega) hQf hdd hmm hs1 hs2 (HP.out.perm hPe') (by rw[hpc];exact hFp) (by omega) (by omega) (by omega) hm1' (hkw0.trans (Keeps.of_below hb6)) hb0 (hH'.below hb6) (hTy'.of (hb6.block blk hTy'.lt)) (hG'.below hb6) hbG hob' (by rw[List.length_append];omega) (by omega)
    unfold AddPost at hih
    rw[hpc,← HPD.out] at hih
    have htk:C.take (k+1)=C.take k ++ [(L1.drop sk).take m]:=by rw[List.take_add_one,hCk];rfl
    have t0:=o6.cell (i:=0) rfl
    have t1:=o6.cell (i:=1) rfl
    have HIHC:=Lib.hid hih
    have HTK:=Lib.hid htk
    have HST:=Lib.hid hst
    have HW6:=Lib.hid hw6
    have Hb6:=Lib.hid hb6
    have HR':=Lib.hid hR'
    have HT':=Lib.hid hT'
    have HPe':=Lib.hid hPe'
    have HTa':=Lib.hid hTa'
    have HDr':=Lib.hid hDr'
    clear hih htk hst hw6 hb6 hR' hT' hPe' hTa' hDr' hH' hTy' hG' o6 hob' hkw0 hcf hpl hDl' hFp hnp hCk hpc hseg hce r0 r1 hsl hsk hm hm1'
    go_upto_region 11 with (fail)
    rw[← HW6.out]
    clear c0 c1
    go_wp2_with fail
    clear t0 t1
    refine HIHC.out.mono ?_
    rintro e w7 ⟨⟨v7,rfl⟩,outv2,us2,D2,hG2,hR2,hT2,hH2,hTy2,hPe2,hTa2,hDr2⟩
    have eG:J ++ ((C.take (k+1)).flatMap P).flatten=J ++ ((C.take k).flatMap P).flatten ++ (P ((L1.drop sk).take m)).flatten:=by
     rw[HTK.out,List.flatMap_append,List.flatten_append,List.append_assoc]
     simp
    have eN:parts+((C.take (k+1)).flatMap P).length=parts+((C.take k).flatMap P).length+(P ((L1.drop sk).take m)).length:=by
     rw[HTK.out,List.flatMap_append,List.length_append]
     simp
     omega
    rw[← eG,← eN] at hG2
    have hRn:OutRel outv w5 outv2:=HR'.out.trans (hR2.down Hb6.out.size) HT'.out.size
    have hTn:Tch (fun b=>b=G∨b=blk∨outv.ownBlock=some b) w5 w7:=(HT'.out.same (Tch.of_below _ Hb6.out)).trans hT2 fun z hz e=>by
     rcases e with e | e | e
     ·exact .inl e
     ·exact .inr (.inl e)
     ·rcases HR'.out with h | ⟨y,h1,h2⟩
      ·exact .inr (.inr (h ▸ e))
      ·rw[h1] at e
       injection e with e
       omega
    have HG2:=Lib.hid hG2
    have HRn:=Lib.hid hRn
    have HTn:=Lib.hid hTn
    have HH2:=Lib.hid hH2
    have HTy2:=Lib.hid hTy2
    have HPn:=Lib.hid (hPe2.trans HPe'.out)
    have HTan:=Lib.hid ((take_less hTa2 (by omega)).trans HTa'.out)
    have HDn:Hid (D2.drop (s+(ns.take (k+1)).sum)=(spl3 D mid s n).drop (s+(ns.take (k+1)).sum)):=Lib.hid (by
     rw[HST.out,← Nat.add_assoc,hDr2]
     exact drop_more HDr'.out (by omega))
    clear hG2 hRn hTn hH2 hTy2 hPe2 hTa2 hDr2 hR2 hT2 eG eN HIHC
    go_wp2
    go_roundw
    case rel=>exact⟨k+1,outv2,us2,D2,by go_num,by omega,HG2.out,HRn.out,HTn.out,HH2.out,HTy2.out,HPn.out,HTan.out,HDn.out⟩
    case measure=>simp[intOf];omega
   ·obtain rfl:k=K:=by omega
    have d1:decide ((k:Int)<(k:Int))=false:=by simp
    have hCl:C.length=k:=by rw[HCD.out,cuts_len,HKE.out]
    have hns:ns.take k=ns:=List.take_of_length_le (Nat.le_of_eq HKE.out.symm)
    rw[List.take_of_length_le (Nat.le_of_eq hCl)] at hG'
    rw[hns,HSU.out,spl3_drop HML.out hsn] at hDr'
    have hpp:C.flatMap P=partsP slots f a ((seg D s n).map (·.2)):=by rw[HCD.out,HPD.out,← HPA.out,HLE.out]
    rw[hpp] at hG'
    have HFIN:Hid (AddPost w0.heap.size G blk s n a f slots parts D outv J w (.returned (.tuple #[])) wr):=Lib.hid ⟨⟨_,rfl⟩,outv',us',D',hG',hR'.down HTW.out.size,HTW.out.same hT',hH',hTy',hPe',hTa',hDr'⟩
    clear hG' hR' hT' hH' hTy' hPe' hTa' hDr' hpp hns hCl
    go_wp2
    go_end0
    exact HFIN.out
 case first =>
  --<<
  go_wp2_with fail
  clear g0
  refine HNW.out.mono ?_
  rintro e w2 ⟨rfl,hsl2,htb2,hb2⟩
  have hTB:Tb w1.heap.size w2 (w1.heap.size+1) w1.heap.size 0 0 (List.replicate slots none) (List.replicate slots none):=by
   refine⟨?_,TabO.new hsl2,by omega,Nat.le_refl _⟩
   rw[cells_new,List.length_replicate]
   exact htb2
  have HTB:=Lib.hid hTB
  have Hb2:=Lib.hid hb2
  have s0:=(O1.out.below hb2 O1.out.lt).cell (i:=0) rfl
  obtain⟨gt,egt⟩:∃ gt,gt=w1.heap.size:=⟨_,rfl⟩
  rw[← egt] at HTB ⊢
  have Egt:=Lib.hid egt
  clear hTB hb2 htb2 hsl2 HNW egt
  go_wp2
  clear s0
  go_loopw [17] (fun i wr=>∃ (k:Nat) (d me:Int) (vs:List (Option V5)) (ts:List (Option Cel)),i=.int .i64 k∧k≤n∧Tb gt wr (gt+1) gt d me vs ts∧fillT (List.replicate slots none) (L.take k)=some ts∧((cellsT ts).length=0∨(d=dd∧me=mm))∧Below gt w1 wr) (fun i _=>n - (intOf i).toNat)
  case atStart=>exact⟨0,0,0,_,_,rfl,Nat.zero_le _,HTB.out,rfl,.inl (by rw[cells_new];rfl),by rw[Egt.out];exact Hb2.out⟩
  case round =>
   obtain⟨k,d,me,vs,ts,rfl,hk,hT,hfl,hdm,hbr⟩:=hrel
   rename World=>wr
   by_cases hlt:k<n
   ·have i0:(0:Int)≤(k:Int):=by omega
    have i1:(k:Int)<(n:Int):=by omega
    have d1:decide ((k:Int)<(n:Int))=true:=decide_eq_true i1
    obtain⟨x,hx⟩:∃ x,L[k]? = some x:=⟨_,List.getElem?_eq_getElem (by rw[HLN.out];exact hlt)⟩
    have hxm:=List.mem_of_getElem? hx
    obtain⟨hxk,hxe,hxi⟩:=HLX.out x hxm
    have hok:=okK_of HF.out hxm
    have htk:L.take (k+1)=L.take k ++ [x]:=by rw[List.take_add_one,hx];rfl
    obtain⟨hI,htl,hgr,hpm⟩:=fill_cells hfl
    have hall:=fill_ok (dd:=dd) (mm:=mm) hfl (fun y hy=>⟨(HLX.out y (List.mem_of_mem_take hy)).1,(HLX.out y (List.mem_of_mem_take hy)).2.1⟩)
    have kp:=(Keeps.of_below HB1.out).trans (Keeps.of_below (hbr.mono (Nat.le_of_eq Egt.out.symm)))
    have hca:=(HC.out k x hx).keep kp
    rw[addO] at hca
    obtain⟨vk,vs5,vn,vm,p0,p1,p2,p3,p4,hcr,-⟩:=hca
    dsimp only at p0 p1 p2 p3 p4
    have hPT:=fun (W:World) (hb:Below wr.heap.size wr W)=>hPut_any gt (gt+1) gt d me mm vs ts vk vs5 vn vm x W (hT.below hb) (by rw[htl];exact hs1) (by rw[htl];exact hs2) (fun i y hy=>by
     obtain⟨h1,h2⟩:=hall y (mem_cells.2 ⟨i,hy⟩)
     exact⟨by omega,h2⟩) (by rw[hxk];exact hdm) (hcr.keep (Keeps.of_below hb)) hxi (by omega) hok hxe hmm
    obtain⟨⟨P1,d1',rfl,-⟩,⟨P2,d2',rfl,-⟩,⟨P3,d3',rfl,-⟩,⟨P4,d4',rfl,-⟩⟩:=hcr
    rw[hxk] at p0 hPT
    generalize x.sum.length=m2 at *
    generalize x.mn.length=m3 at *
    generalize x.mx.length=m4 at *
    obtain⟨xc,exc⟩:∃ z,z=x.cnt:=⟨_,rfl⟩
    rw[← exc] at p1 hPT
    obtain⟨w5,hw5⟩:∃ w5,w5=wr.alloc (.cells #[.slice P1 dd d1',.int .i64 xc,.slice P2 m2 d2',.slice P3 m3 d3',.slice P4 m4 d4'] 46):=⟨_,rfl⟩
    have o5:Own 46 w5 wr.heap.size [.slice P1 dd d1',.int .i64 xc,.slice P2 m2 d2',.slice P3 m3 d3',.slice P4 m4 d4']:=by rw[hw5];exact heap_alloc_new wr _
    have hb5:Below wr.heap.size wr w5:=by rw[hw5];exact (Below.refl _ _).alloc (Nat.le_refl _) _
    obtain⟨r0,r1,r2,r3,r4⟩:=o5.bx
    have HPT:=Lib.hid (hPT w5 hb5)
    have HW5:=Lib.hid hw5
    have Hb5:=Lib.hid (hbr.trans (hb5.mono (by rw[Egt.out];exact hbr.size)))
    have HX:=Lib.hid hx
    have HTK:=Lib.hid htk
    have HFL:=Lib.hid hfl
    clear hx hxm hxk hxe hxi hok htk hI htl hgr hpm hall kp hPT exc hw5 o5 hb5 hfl hT hdm hbr
    go_upto_region 5 with (fail)
    rw[← HW5.out]
    clear p0 p1 p2 p3 p4
    go_wp2_with fail
    clear r0 r1 r2 r3 r4
    refine HPT.out.mono ?_
    intro e w6 hp6
    rcases hp6.reads with ⟨ts',hp,rfl,vs',htb,htch⟩ | ⟨hp,rfl,hb6⟩
    ·have hfl2:fillT (List.replicate slots none) (L.take (k+1))=some ts':=by rw[HTK.out,fill_snoc,HFL.out];exact hp
     have hb7:Below gt w1 w6:=Hb5.out.trans (htch.below (fun q hq=>by rcases hq with h | h <;> omega) (by rw[Egt.out];exact Hb5.out.size))
     have HFL2:=Lib.hid hfl2
     have HTB2:=Lib.hid htb
     have Hb7:=Lib.hid hb7
     clear hfl2 htb hb7 htch hp hp6 HPT
     go_wp2
     go_roundw
     case rel=>exact⟨k+1,_,_,vs',ts',by go_num,by omega,HTB2.out,HFL2.out,.inr ⟨rfl,rfl⟩,Hb7.out⟩
     case measure=>simp[intOf];omega
    ·have hno:fillT (List.replicate slots none) L=none:=by
      have h1:fillT (List.replicate slots none) (L.take (k+1))=none:=by rw[HTK.out,fill_snoc,HFL.out];exact hp
      have h2:=fill_stop _ (L.drop (k+1)) _ h1
      rwa [List.take_append_drop] at h2
     have hng:¬ (grpR L).length≤slots:=fun h=>by
      obtain⟨t,ht⟩:=(fill_fits L slots).2 h
      rw[hno] at ht
      cases ht
     have Hng:=Lib.hid hng
     have Hb7:=Lib.hid (Hb5.out.trans (hb6.mono (by rw[Egt.out];exact Hb5.out.size)))
     clear hno hng hb6 hp hp6 HPT
     go_wp2
     go_step3
     exact⟨rfl,_,_,_,_,_,_,_,_,_,_,_,_,_,_,_,_,_,_,_,_,_,_,_,_,_,_,_,_,_,_,_,_,_,_,_,_,rfl,Hng.out,by rw[← Egt.out];exact Hb7.out⟩
   ·obtain rfl:k=n:=by omega
    have d1:decide ((k:Int)<(k:Int))=false:=by simp
    rw[List.take_of_length_le (Nat.le_of_eq HLN.out)] at hfl
    obtain⟨hI,htl,hgr,hpm⟩:=fill_cells hfl
    have hall:=fill_ok (dd:=dd) (mm:=mm) hfl (fun y hy=>⟨(HLX.out y hy).1,(HLX.out y hy).2.1⟩)
    have hfit:(grpR L).length≤slots:=(fill_fits L slots).1 ⟨ts,hfl⟩
    have hgl:(cellsT ts).length=(grpR L).length:=hpm.length_eq
    have hne:L ≠ []:=fun e=>by have:=HLN.out;rw[e] at this;simp at this;omega
    have hg1:=grp_pos hne
    have hg2:=grp_len_le L
    rw[HLN.out] at hg2
    have hbw:Below w.heap.size w wr:=HB1.out.trans (hbr.mono (by rw[Egt.out];exact HB1.out.size))
    have hul:=HG.out.out.len
    have htell:=htell_some w0.heap.size (gt+1) gt G parts slots d me vs ts outv us J wr (hT.mono (by rw[Egt.out,hz1];omega)) (by rw[htl];exact hs2) hI (fun y hy=>by have:=(hall y hy).1;omega) (by omega) (HG.out.below hbw) (by omega) (by omega)
    rw[hgr] at htell
    have HTE:=Lib.hid htell
    have Hbw:=Lib.hid hbw
    have Hfit:=Lib.hid hfit
    clear htell hI htl hgr hpm hall hgl hne hg1 hg2 hfl hT hdm hbr hfit hbw hul
    go_wp2_with fail
    refine HTE.out.mono ?_
    rintro e w6 ⟨⟨v0,rfl⟩,outv',us',hg6,hr6,ht6⟩
    have hpf:partsP slots f a L=[grpR L]:=parts_fit Hfit.out
    have hHf:HoldsL w6 blk 0 (D.map (·.1)):=fun j u hu=>by
     obtain⟨h1,h2⟩:=HH.out j u hu
     have hl:=block_lt h1
     have e1:w6.heap[blk]? = w.heap[blk]?:=(ht6.block blk (Nat.lt_of_lt_of_le hblt Hbw.out.size) (fun e=>by
      rcases e with e | e
      ·exact hbG e
      ·exact hob e)).trans (Hbw.out.block blk hblt)
     exact⟨by rw[World.cell?_of_block e1];exact h1,by rw[World.frozen?_of_block e1];exact h2⟩
    have htf:Tch (fun b=>b=G∨b=blk∨outv.ownBlock=some b) w w6:=(Tch.of_below _ Hbw.out).same (ht6.mono fun q _ hq=>by
     rcases hq with h | h
     ·exact .inl h
     ·exact .inr (.inr h))
    have HTYf:Hid (TyC w6 blk):=Lib.hid (HTY.out.of ((ht6.block blk (Nat.lt_of_lt_of_le hblt Hbw.out.size) (fun e=>by
      rcases e with e | e
      ·exact hbG e
      ·exact hob e)).trans (Hbw.out.block blk hblt)))
    have Hg6:=Lib.hid hg6
    have Hr6:=Lib.hid (hr6.down Hbw.out.size)
    have HPF:=Lib.hid hpf
    have HHF:=Lib.hid hHf
    have HTF:=Lib.hid htf
    clear hg6 hr6 ht6 hpf hHf htf HTE
    go_wp2
    go_end0
    refine⟨⟨_,rfl⟩,outv',us',D,?_,Hr6.out,HTF.out,HHF.out,HTYf.out,List.Perm.refl _,rfl,rfl⟩
    rw[← HLE.out,HPF.out]
    simpa using Hg6.out
  -->>
theorem add_all:∀ F:Nat,AddSpec F
 | 0=>fun _ _ _ _ _ _ _ _ _ _ _ _ _ _ _ _ _ h=>absurd h (Nat.not_lt_zero _)
 | F+1=>add_step F (add_all F)
end Go.Proofs.YtnjlkhhcfiedbaaGreatDoor

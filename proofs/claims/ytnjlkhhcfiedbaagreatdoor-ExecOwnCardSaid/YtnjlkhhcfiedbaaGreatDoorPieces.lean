import Derived.IntWalk
import Derived.Test.YtnjlkhhcfiedbaaGreatDoorSl
import Derived.Test.YtnjlkhhcfiedbaaGreatDoorCcmp
namespace Go.Proofs.YtnjlkhhcfiedbaaGreatDoor
open Go.RowKit Go.Shelf
attribute [local go_sem] Oper.semAt_some
def PInv {σ:Type} (J:List PX→σ→World→Prop) (ok:σ→Nat→Prop) (w0:World) (m:Nat) (D:List (V5 × Cel)) (z b4 b5 b6 mo:Nat) (yv:Value) (pre:List (V5 × Cel)) (st:σ × List PX × Value × List V5 × List Cel) (X:World):Prop :=
 PB J ok w0 z b4 b5 b6 mo yv st.1 st.2.1 st.2.2.1 st.2.2.2.1 st.2.2.2.2 X∧(pre.map (·.2)).foldl (dealS m) ([],[])=(st.2.1.map (·.2.2),st.2.2.2.2)∧pre=D.take pre.length
theorem deal_num {m:Nat}:∀ (l:List Cel) (s:List (List Cel) × List Cel),(l.foldl (dealS m) s).1.length≤s.1.length+l.length
 | [],s=>by simp
 | c :: l,s=>by
  rw[List.foldl_cons]
  have h1:=deal_num (m:=m) l (dealS m s c)
  have h2:(dealS m s c).1.length≤s.1.length+1:=by
   unfold dealS
   split
   ·simp
   ·split <;> simp
  rw[List.length_cons]
  omega
theorem RoundIn.wide {n m l0:Nat} {P:Program} {l:Nat} {f:FuncId} {tmps:Array Value} {assign body:Code} {w:World} {R:Ending→World→Prop} (h:RoundIn Fence.wide n P l f tmps assign body w R):RoundIn (Fence.wide.inRound l0) m P l f tmps assign body w R:=⟨h.1,fun c cs _=>h.2 c cs (room_wide _)⟩
set_option maxRecDepth 100000 in
set_option maxHeartbeats 8000000 in
theorem pieces_in {σ:Type} (n l bi bj bm bk me:Nat) (hn:3≤n) (A:Option Addr) (c N:Nat) (m:Nat) (hm:1≤m) (hm2:m≤9223372036854775807) (D:List (V5 × Cel)) (w0 W:World) (hN:N=D.length) (hN1:N≤60) (hme:me≤2)
  (hD:∀ x ∈ D,Reads w0 x.1 x.2∧GoodC me x.2) (hcv:0<N→∃ ad,A=some ad∧∀ j u,(flatV (D.map (·.1)))[j]? = some u→w0.cell? (ad.add j)=some u)
  (B0:Nat) (hB0:B0≤W.heap.size) (J:List PX→σ→World→Prop) (ok:σ→Nat→Prop) (tc:PX→σ→Nat→Prop)
  (hJr:∀ pre s X,J pre s X→Below w0.heap.size w0 X) (hJn:∀ pre s X k,J pre s X→X.heap.size≤k→ok s k)
  (hst:∀ pre s X Y M,J pre s X→Tch M X Y→(∀ k,M k→ok s k)→J pre s Y)
  (hto:∀ x s k,tc x s k→ok s k→x.1.ownBlock=some k)
  (hcap:∀ pre s X,J pre s X→X.cell? ⟨bi,0,none⟩=some (.func (.func 86) #[] #[.pointer (some ⟨bk,0,none⟩)])∧X.cell? ⟨bj,0,none⟩=some (.func (.func 62) #[] #[])∧X.cell? ⟨bm,0,none⟩=some (.int .i64 (m:Int))∧X.cell? ⟨bk,0,none⟩=some (.slice A N c))
  (hY:∀ pre s x W1,J pre s W1→PieceR w0 B0 me 60 (ok s) x W1→pre.length≤60→YieldAt Fence.wide (n - 1) Tryz.prog l #[x.1] W1 fun e W'=>e=.returned (.bool true)∧∃ s',J (pre ++ [x]) s' W'∧Tch (tc x s) W1 W'∧∀ k,k<W1.heap.size→ok s k→¬ tc x s k→ok s' k)
  (s0:σ) (h0:J [] s0 W) :
  CallsIn Fence.wide n Tryz.prog 85 #[.func (.yield l) #[] #[],.pointer (some ⟨bi,0,none⟩),.pointer (some ⟨bj,0,none⟩),.pointer (some ⟨bm,0,none⟩)] W fun e W'=>(∃ v,e=.returned v)∧∃ Ps s,Ps.map (·.2.2)=dealE ((D.map (·.2)).foldl (dealS m) ([],[]))∧J Ps s W':=by
 have HD:=Lib.hid hD
 have HCV:=Lib.hid hcv
 have HJR:=Lib.hid hJr
 have HJN:=Lib.hid hJn
 have HST:=Lib.hid hst
 have HTO:=Lib.hid hto
 have HCAP:=Lib.hid hcap
 have HY:=Lib.hid hY
 have HN:=Lib.hid hN
 have H0:=Lib.hid h0
 obtain⟨ci,cj,cm,-⟩:=hcap _ _ _ h0
 have hb4:Below W.heap.size W ((((W.alloc (.cells #[.func (.yield l) #[] #[]] 89)).alloc (.cells #[.slice none 0 0] 31)).alloc (.map #[] 0)).alloc (.cells #[.map (some (W.heap.size+1+1))] 117)):=((((Below.refl _ W).alloc (Nat.le_refl _) _).alloc (by simp) _).alloc (by simp;omega) _).alloc (by simp;omega) _
 have c4:=(Keeps.of_below hb4) _ _ ci
 have hmm:=@run_makeMap Tryz.prog
 clear hD hcv hJr hJn hst hto hcap hY hN h0
 refine callsIn_of_wp_marks Tryz.func85 rfl trivial ?_ rfl
 simp only[Tryz.ntmps85,List.size_toArray,List.length_cons,List.length_nil,Nat.reduceAdd,Nat.reduceSub,Array.replicate_succ,Array.replicate_zero,List.push_toArray,List.append_toArray,List.nil_append,List.cons_append]
 gi_wp2_with fail
 clear c4 hmm
 obtain⟨W4,hW4⟩:∃ W4,W4=((((W.alloc (.cells #[.func (.yield l) #[] #[]] 89)).alloc (.cells #[.slice none 0 0] 31)).alloc (.map #[] 0)).alloc (.cells #[.map (some (W.heap.size+1+1))] 117)):=⟨_,rfl⟩
 rw[← hW4] at hb4 ⊢
 have hzW:W4.heap.size=W.heap.size+4:=by rw[hW4];simp
 have J4:J [] s0 W4:=HST.out _ _ _ _ (fun _=>False) H0.out (Tch.of_below _ hb4) fun _ hk=>hk.elim
 obtain⟨e4,e5,em,e6⟩:W4.heap[W.heap.size]? = some (.cells #[.func (.yield l) #[] #[]] 89 (0,0))∧W4.heap[W.heap.size+1]? = some (.cells #[.slice none 0 0] 31 (0,0))∧MX W4 (W.heap.size+1+1) []∧W4.heap[W.heap.size+1+1+1]? = some (.cells #[.map (some (W.heap.size+1+1))] 117 (0,0)):=by
  obtain⟨Wa,ha⟩:∃ X,X=W.alloc (.cells #[.func (.yield l) #[] #[]] 89):=⟨_,rfl⟩
  obtain⟨Wb,hb⟩:∃ X,X=Wa.alloc (.cells #[.slice none 0 0] 31):=⟨_,rfl⟩
  obtain⟨Wc,hc⟩:∃ X,X=Wb.alloc (.map #[] 0):=⟨_,rfl⟩
  rw[← ha,← hb,← hc] at hW4
  have sa:Wa.heap.size=W.heap.size+1:=by rw[ha];simp
  have sb:Wb.heap.size=W.heap.size+1+1:=by rw[hb];simp[sa]
  have sc:Wc.heap.size=W.heap.size+1+1+1:=by rw[hc];simp[sb]
  have n1:Wa.heap[W.heap.size]? = some (.cells #[.func (.yield l) #[] #[]] 89 (0,0)):=by rw[ha];exact heap_alloc_new W _
  have n2:Wb.heap[W.heap.size+1]? = some (.cells #[.slice none 0 0] 31 (0,0)):=by rw[← sa,hb];exact heap_alloc_new Wa _
  have n3:MX Wc (W.heap.size+1+1) []:=by rw[← sb,hc];exact MX.made Wb
  have n4:W4.heap[W.heap.size+1+1+1]? = some (.cells #[.map (some (W.heap.size+1+1))] 117 (0,0)):=by rw[← sc,hW4];exact heap_alloc_new Wc _
  have q1:Below Wa.heap.size Wa Wb:=by rw[hb];exact (Below.refl _ _).alloc (Nat.le_refl _) _
  have q2:Below Wb.heap.size Wb Wc:=by rw[hc];exact (Below.refl _ _).alloc (Nat.le_refl _) _
  have q3:Below Wc.heap.size Wc W4:=by rw[hW4];exact (Below.refl _ _).alloc (Nat.le_refl _) _
  exact⟨(q3.block _ (by omega)).trans ((q2.block _ (by omega)).trans ((q1.block _ (by omega)).trans n1)),(q3.block _ (by omega)).trans ((q2.block _ (by omega)).trans n2),n3.stay (q3.block _ (by omega)),n4⟩
 have hPB:PB J ok w0 W4.heap.size W.heap.size (W.heap.size+1) (W.heap.size+1+1+1) (W.heap.size+1+1) (.func (.yield l) #[] #[]) s0 [] (.slice none 0 0) [] [] W4 :=
  ⟨J4,e4,e5,e6,em,World.ownsRow_nil _ _ _ _,RdO.nil,fun k hk=>HJN.out _ _ _ k H0.out (by omega),fun k hk=>by cases hk⟩
 obtain⟨b6,hb6⟩:∃ b,b=W.heap.size+1+1+1:=⟨_,rfl⟩
 obtain⟨mo,hmo⟩:∃ b,b=W.heap.size+1+1:=⟨_,rfl⟩
 obtain⟨b5,hb5⟩:∃ b,b=W.heap.size+1:=⟨_,rfl⟩
 obtain⟨b4,hb4e⟩:∃ b,b=W.heap.size:=⟨_,rfl⟩
 rw[← hb6,← hmo,← hb5,← hb4e] at hPB ⊢
 have hz:b4<W4.heap.size∧b5<W4.heap.size∧b6<W4.heap.size∧mo<W4.heap.size:=by omega
 have hd:b5 ≠ mo∧b4 ≠ mo∧b6 ≠ mo∧b4 ≠ b5∧b6 ≠ b5:=by omega
 have hB4:B0≤W4.heap.size:=by omega
 have HPB:=Lib.hid hPB
 clear hPB e4 e5 em e6 J4 hW4 hb6 hmo hb5 hb4e hzW hb4 ci cj cm H0 hB0
 refine range_st rfl (by omega) (gf:=86) (lb:=#[.pointer (some ⟨bk,0,none⟩)]) rfl trivial (enters_of Tryz.func86 (by kernel_rfl) rfl) (encs:=encK) (S:=fun xs (_:σ × List PX × Value × List V5 × List Cel)=>xs=D) (fun _=>rfl)
  (PInv J ok w0 m D W4.heap.size b4 b5 b6 mo (.func (.yield l) #[] #[]))
  (fun pre x _ _=>pre=D.take pre.length∧D[pre.length]? = some x) (fun _ _ k=>k ≠ W4.heap.size∧k ≠ W4.heap.size+1) (fun _ _=>False) (s0,[],.slice none 0 0,[],[])
  (fun x X=>{ tmps:=#[.func (.yield l) #[] #[],.pointer (some ⟨bi,0,none⟩),.pointer (some ⟨bj,0,none⟩),.pointer (some ⟨bm,0,none⟩),.pointer (some ⟨b4,0,none⟩),.pointer (some ⟨b5,0,none⟩),.pointer (some ⟨b6,0,none⟩),.string (strOf (textI x.2.key)),.pointer (some ⟨X.heap.size,0,none⟩),undef,undef,.map (some mo),.func (.func 86) #[] #[.pointer (some ⟨bk,0,none⟩)],.string (strOf (textI x.2.key)),.agg #[x.1.a,x.1.b,x.1.c,x.1.d,x.1.e],undef,undef,undef,undef,undef,undef,undef,undef,undef,undef,undef,undef,undef,undef,undef,undef,undef,undef,undef,undef,undef,undef,undef,undef,undef,undef,undef,undef,undef,undef,undef,undef,undef,undef,undef,undef,undef,undef,undef,undef],defers:=[] })
  (fun x X=>X.alloc (.cells #[x.1.a,x.1.b,x.1.c,x.1.d,x.1.e] 46))
  ?hit ?hI ?hok ?htc ?h0 ?hwa ?hassign ?hbody ?hdone
 case hit =>
  intro J' W2 hbW hsz hJI' hst' hYl h0'
  refine (keyed_in (n - 1) (W4.heap.size+1) bk (by omega) A c N D w0 W2 HN.out (by omega) (fun x hx=>⟨(HD.out x hx).1,(HD.out x hx).2.1,(HD.out x hx).2.2.1⟩) HCV.out J' (fun pre s X h=>HJR.out _ _ _ (hJI' _ _ _ h).1.1.out) (fun pre s X Y h hb=>hst' _ _ _ _ (fun _=>False) h (Tch.of_below _ hb) (fun _ hk=>hk.elim)) (fun pre s x W1 h hp hx=>?_) (HCAP.out _ _ _ (hJI' _ _ _ h0').1.1.out).2.2.2 _ h0').mono ?_
  ·obtain⟨fn,tmps,assign,body,hy,hR⟩:=hYl pre s x W1 h ⟨hp,hx⟩
   refine⟨fn,tmps,assign,body,hy,hR.mono ?_⟩
   rintro e W' ⟨he,s',hJ,-⟩
   exact⟨he,s',hJ⟩
  ·rintro e W' ⟨hv,s,hJ⟩
   exact⟨hv,D,s,rfl,hJ⟩
 case hI =>
  intro pre st X Y M ⟨h1,h2⟩ ht hM
  exact And.intro (h1.loops HST.out hz ht fun k hk=>(hM k hk).elim (fun h=>h.elim) id) h2
 case hok=>exact fun _ _ h=>h.elim
 case htc=>exact fun _ _ _ _ _ _ _ _ _ _ k hk=>hk
 case h0=>exact And.intro HPB.out (And.intro rfl rfl)
 case hwa=>exact fun x X=>(Below.refl _ _).alloc (Nat.le_refl _) _
 case hassign =>
  rintro pre st ⟨⟨ua,ub,uc,ud,ue⟩,y⟩ X K - hx hK
  obtain⟨⟨eb,⟨⟨P1,q1,e1,-⟩,⟨P2,q2,e2,-⟩,⟨P3,q3,e3,-⟩,⟨P4,q4,e4,-⟩⟩,-⟩,-⟩:=HD.out _ (List.mem_of_getElem? hx.2)
  dsimp only at eb e1 e2 e3 e4
  subst eb e1 e2 e3 e4
  unfold encK
  gi_wp2
  exact hK
 case hbody =>
  rintro pre ⟨s,Ps,hv,hus,H⟩ ⟨⟨ua,ub,uc,ud,ue⟩,y⟩ X Xb ⟨hPB,hdl,hpre⟩ ⟨-,hxD⟩ hsz ⟨r,hr⟩ hT
  dsimp only at hPB hdl hT hsz ⊢
  obtain⟨hxr,hxg⟩:=HD.out _ (List.mem_of_getElem? hxD)
  dsimp only at hxr hxg
  have hplen:pre.length<N:=by rw[HN.out];exact (List.getElem?_eq_some_iff.1 hxD).1
  obtain⟨hgH,haH,hlH⟩:=deal_held hm hdl (fun y hy=>by
   obtain⟨x,hx,rfl⟩:=List.mem_map.1 hy
   rw[hpre] at hx
   exact (HD.out x (List.mem_of_mem_take hx)).2) (by rw[List.length_map];omega)
  have HPL:=Lib.hid (show Ps.length≤60 by
   have h1:=deal_num (m:=m) (pre.map (·.2)) ([],[])
   rw[hdl,List.length_map,List.length_map,List.length_nil] at h1
   omega)
  have hpre2:pre ++ [(⟨ua,ub,uc,ud,ue⟩,y)]=D.take (pre ++ [((⟨ua,ub,uc,ud,ue⟩:V5),y)]).length:=by
   rw[List.length_append,List.length_singleton,List.take_add_one,hxD,Option.toList_some,← hpre]
  have hfold:(((pre ++ [((⟨ua,ub,uc,ud,ue⟩:V5),y)]).map (·.2)).foldl (dealS m) ([],[]))=dealS m (Ps.map (·.2.2),H) y:=by
   rw[List.map_append,List.foldl_append,hdl]
   rfl
  obtain⟨X1,hX1⟩:∃ X1,X1=X.alloc (.cells #[ua,ub,uc,ud,ue] 46):=⟨_,rfl⟩
  rw[← hX1] at hT
  have hb1:Below X.heap.size X X1:=by rw[hX1];exact (Below.refl _ _).alloc (Nat.le_refl _) _
  have o81:Own 46 X1 X.heap.size [ua,ub,uc,ud,ue]:=by rw[hX1];exact heap_alloc_new X _
  have hr1:X1.heap[W4.heap.size+1]? = some (.loop r):=(hb1.block _ (by omega)).trans hr
  have hPBb:=(hPB.below HST.out hb1).loops HST.out hz hT fun k hk=>⟨.inr hk,_,hk ▸ hr1,rfl⟩
  have o8b:Own 46 Xb X.heap.size [ua,ub,uc,ud,ue]:=(hT.block _ o81.lt (by omega)).trans o81
  have hszb:W4.heap.size+2≤Xb.heap.size:=by have:=hb1.size;have:=hT.size;omega
  have ok8:ok s X.heap.size:=HJN.out _ _ _ _ hPB.out (Nat.le_refl _)
  have rl8:∀ k,hv.ownBlock=some k→k<X.heap.size:=fun k hk=>(hPB.row.lt k hk).2
  obtain⟨B8,hB8⟩:∃ B8,B8=X.heap.size:=⟨_,rfl⟩
  rw[← hB8] at o8b ok8 rl8 hsz ⊢
  have hXb:=hszb
  clear hPB hr hT hX1 hb1 o81 hr1 hplen hxD hpre hdl hB8
  obtain⟨eb,hcr,hcy⟩:=id hxr
  dsimp only at eb hcr
  have hcrb:=hcr.keep (Keeps.of_below (HJR.out _ _ _ hPBb.out))
  obtain⟨⟨P1,q1,e1,-⟩,⟨P2,q2,e2,-⟩,⟨P3,q3,e3,-⟩,⟨P4,q4,e4,-⟩⟩:=id hcr
  subst eb e1 e2 e3 e4
  obtain⟨l1,hl1⟩:∃ z,z=y.key.length:=⟨_,rfl⟩
  obtain⟨l2,hl2⟩:∃ z,z=y.sum.length:=⟨_,rfl⟩
  obtain⟨l3,hl3⟩:∃ z,z=y.mn.length:=⟨_,rfl⟩
  obtain⟨l4,hl4⟩:∃ z,z=y.mx.length:=⟨_,rfl⟩
  obtain⟨yc,hyc⟩:∃ z,z=y.cnt:=⟨_,rfl⟩
  rw[← hl1,← hl2,← hl3,← hl4] at hcrb hxr o8b hfold hpre2 ⊢
  rw[← hyc] at hxr o8b hfold hpre2 ⊢
  obtain⟨c,hlook,hlk⟩:=hPBb.mp.look (k:=y.key) hxg.1 hxg.2.1
  have k6:=hPBb.o6.cell (i:=0) rfl
  have k5:=hPBb.o5.cell (i:=0) rfl
  have bx8:=Own.bx o8b
  obtain⟨Ph,ch,eh,-,-,hrow⟩:=own_form hPBb.row
  have hhl:=hPBb.rd.1
  obtain⟨-,cj,cm,-⟩:=HCAP.out _ _ _ hPBb.out
  have HF:=Lib.hid (show hus.length=H.length∧l1=y.key.length∧l2=y.sum.length∧l3=y.mn.length∧l4=y.mx.length∧yc=y.cnt from ⟨hhl,hl1,hl2,hl3,hl4,hyc⟩)
  have HFO:=Lib.hid hfold
  have HPR:=Lib.hid hpre2
  have HP:=Lib.hid hPBb
  have HXR:=Lib.hid hxr
  have HXG:=Lib.hid hxg
  have HGH:=Lib.hid hgH
  have HLH:=Lib.hid hlH
  have HCB:=Lib.hid hcrb
  have HCY:=Lib.hid hcy
  have O8:=Lib.hid o8b
  have HOK8:=Lib.hid ok8
  have HRL:=Lib.hid rl8
  obtain⟨nh,hnh⟩:∃ z,z=hus.length:=⟨_,rfl⟩
  have hnh6:nh≤60:=by omega
  have HNH:=Lib.hid hnh
  rw[← hnh] at eh hrow
  cases hix:ixK H y.key with
  | some i =>
   obtain⟨h,hh,hhk⟩:=ixK_some hix
   have hki:(H.map (·.key))[i]? = some y.key:=by rw[List.getElem?_map,hh,Option.map_some,hhk]
   have hcv:=hlk i hki
   rw[decide_eq_true (List.mem_of_getElem? hki)] at hlook
   subst hcv
   have hiH:=(List.getElem?_eq_some_iff.1 hh).1
   obtain⟨v,hv5⟩:∃ v,hus[i]? = some v:=⟨_,List.getElem?_eq_getElem (by rw[hhl];exact hiH)⟩
   have hvr:=(hPBb.rd.reads (HJR.out _ _ _ hPBb.out)).2 i v h hv5 hh
   obtain⟨va,vb,vc,vd,ve⟩:=v
   obtain⟨evb,hcv,hhc⟩:=hvr
   dsimp only at evb hcv
   subst evb
   obtain⟨g,egg,hgB,hcl⟩:=hrow (by rw[hnh,hhl];omega)
   subst egg
   obtain⟨f0,f1,f2,f3,f4⟩:=flatV_five hv5
   have r0:=hcl _ _ f0
   have r1:=hcl _ _ f1
   have r2:=hcl _ _ f2
   have r3:=hcl _ _ f3
   have r4:=hcl _ _ f4
   dsimp only at r0 r1 r2 r3 r4
   have kd:Keeps Xb Xb.drew:=(Keeps.refl Xb).drewN 1
   obtain⟨hc,hhcn⟩:∃ z,z=h.cnt:=⟨_,rfl⟩
   have hJ:=join_any va vc vd ve (.slice P1 l1 q1) (.slice P2 l2 q2) (.slice P3 l3 q3) (.slice P4 l4 q4) h y me Xb.drew (hcv.keep kd) (hcrb.keep kd) hhk (hgH h (List.mem_of_getElem? hh)).2.2.1 hxg.2.2.1 (by have:=(hgH h (List.mem_of_getElem? hh)).2.1;omega) (by omega) hhc hcy
   rw[← hhcn,← hyc] at hJ
   rw[← hhcn] at r1
   obtain⟨jc,hjc⟩:∃ z,z=(join2 h y).cnt:=⟨_,rfl⟩
   rw[← hjc] at hJ
   have HJ:=Lib.hid hJ
   have HJC:=Lib.hid hjc
   have HIX:=Lib.hid hix
   have HH:=Lib.hid hh
   have HV5:=Lib.hid hv5
   have i0:(0:Int)≤(i:Int):=by omega
   have i1:(i:Int)<(nh:Int):=by omega
   have hgB2:W4.heap.size+2≤g:=hgB
   clear hfold hpre2 hPBb hxr hxg hgH hlH hcrb hcy hcr o8b ok8 rl8 hhl hl1 hl2 hl3 hl4 hyc hix hh hhk hki hlk hiH hv5 hcv hhc hrow hcl f0 f1 f2 f3 f4 hJ hjc hhcn haH hnh cm
   subst eh
   gi_wp2_with fail
   refine region_N (S:=fun W'=>W'.cell? ⟨b5,0,none⟩=some (.slice (some ⟨g,0,none⟩) nh ch)∧W'.cell? ⟨bj,0,none⟩=some (.func (.func 62) #[] #[])∧W'.cell? ⟨g,i*5,none⟩=some va∧W'.cell? ⟨g,i*5+1,none⟩=some (.int .i64 hc)∧W'.cell? ⟨g,i*5+2,none⟩=some vc∧W'.cell? ⟨g,i*5+3,none⟩=some vd∧W'.cell? ⟨g,i*5+4,none⟩=some ve∧Bx W' B8 (.slice P1 l1 q1) (.int .i64 yc) (.slice P2 l2 q2) (.slice P3 l3 q3) (.slice P4 l4 q4)) (kill:=[9,10]) (by kernel_rfl) ⟨k5,cj,r0,r1,r2,r3,r4,bx8⟩ (fun hHeld=>?_)
   refine WTN (i:=0) (v:=?vpa0) ?ypa0 hHeld ?rpa0
   case ypa0=>(intro W hW;obtain⟨g5,gj,h0,h1,h2,h3,h4,g0,g1,g2,g3,g4⟩:=hW;go_simp;first | done | with_reducible rfl)
   try simp only[SL,Act.put]
   refine WTN (i:=1) (v:=?vpa1) ?ypa1 hHeld ?rpa1
   case ypa1=>(intro W hW;obtain⟨g5,gj,h0,h1,h2,h3,h4,g0,g1,g2,g3,g4⟩:=hW;go_simp;first | done | with_reducible rfl)
   try simp only[SL,Act.put]
   refine WTN (i:=2) (v:=?vpa2) ?ypa2 hHeld ?rpa2
   case ypa2=>(intro W hW;obtain⟨g5,gj,h0,h1,h2,h3,h4,g0,g1,g2,g3,g4⟩:=hW;go_simp;first | done | with_reducible rfl)
   try simp only[SL,Act.put]
   refine WTN (i:=3) (v:=?vpa3) ?ypa3 hHeld ?rpa3
   case ypa3=>(intro W hW;obtain⟨g5,gj,h0,h1,h2,h3,h4,g0,g1,g2,g3,g4⟩:=hW;go_simp;first | done | with_reducible rfl)
   try simp only[SL,Act.put]
   refine WTN (i:=4) (v:=?vpa4) ?ypa4 hHeld ?rpa4
   case ypa4=>(intro W hW;obtain⟨g5,gj,h0,h1,h2,h3,h4,g0,g1,g2,g3,g4⟩:=hW;go_simp;first | done | with_reducible rfl)
   try simp only[SL,Act.put]
   refine WTN (i:=5) (v:=?vpa5) ?ypa5 hHeld ?rpa5
   case ypa5=>(intro W hW;obtain⟨g5,gj,h0,h1,h2,h3,h4,g0,g1,g2,g3,g4⟩:=hW;go_simp;first | done | with_reducible rfl)
   try simp only[SL,Act.put]
   refine WTN (i:=6) (v:=?vpa6) ?ypa6 hHeld ?rpa6
   case ypa6=>(intro W hW;obtain⟨g5,gj,h0,h1,h2,h3,h4,g0,g1,g2,g3,g4⟩:=hW;go_simp;first | done | with_reducible rfl)
   try simp only[SL,Act.put]
   refine WTN (i:=7) (v:=?vpa7) ?ypa7 hHeld ?rpa7
   case ypa7=>(intro W hW;obtain⟨g5,gj,h0,h1,h2,h3,h4,g0,g1,g2,g3,g4⟩:=hW;go_simp;first | done | with_reducible rfl)
   try simp only[SL,Act.put]
   clear k5 k6 cj r0 r1 r2 r3 r4 bx8 hlook
   refine anyN_ready (rs:=[8]) (by kernel_rfl) (by simp) ?_
   refine AllN.cons (by kernel_rfl) rfl (by rfl) (fun K hK=>?_) (AllN.nil)
   refine⟨fun _ _=>trivial,?_⟩
   go_simp
   refine⟨fun _=>by omega,?_⟩
   refine (CallsIn.inRound _ (callsIn_wide.2 HJ.out)).mono ?_
   rintro e6 w6 ⟨k',s',n',m',rfl,hco,hb6⟩
   have kp6:=Keeps.of_below hb6
   refine hK.out _ _ (fun _=>⟨kp6 _ _ hHeld.1,kp6 _ _ hHeld.2.1,kp6 _ _ hHeld.2.2.1,kp6 _ _ hHeld.2.2.2.1,kp6 _ _ hHeld.2.2.2.2.1,kp6 _ _ hHeld.2.2.2.2.2.1,kp6 _ _ hHeld.2.2.2.2.2.2.1,hHeld.2.2.2.2.2.2.2.keep kp6⟩) ?_
   clear hK K
   try simp only[SL,Act.put]
   have hb26:Below Xb.heap.size Xb w6:=(Below.refl Xb.heap.size Xb).drew.trans (hb6.mono (Nat.le_refl _))
   have hP6:=HP.out.below HST.out hb26
   have hvO:OwnC (W4.heap.size+2) w6 ⟨k',.int .i64 jc,s',n',m'⟩ (join2 h y):=OwnC.stay (show OwnC Xb.drew.heap.size w6 ⟨k',.int .i64 jc,s',n',m'⟩ (join2 h y) from ⟨by rw[HJC.out],hco,join2_ok⟩) fun o=>o.mono hXb
   have z0:=kp6 _ _ hHeld.2.2.1
   have z1:=kp6 _ _ hHeld.2.2.2.1
   have z2:=kp6 _ _ hHeld.2.2.2.2.1
   have z3:=kp6 _ _ hHeld.2.2.2.2.2.1
   have z4:=kp6 _ _ hHeld.2.2.2.2.2.2.1
   obtain⟨R1,y1,hr1,-⟩:=hco.key.form
   obtain⟨R2,y2,hr2,-⟩:=hco.sum.form
   obtain⟨R3,y3,hr3,-⟩:=hco.mn.form
   obtain⟨R4,y4,hr4,-⟩:=hco.mx.form
   obtain⟨W9,hW9⟩:∃ W9,W9=setF w6 g i ⟨k',.int .i64 jc,s',n',m'⟩:=⟨_,rfl⟩
   rw[HNH.out] at hP6
   have zf:∀ j,w6.frozen? ⟨g,j,none⟩=false:=fun j=>World.ownsRow.frozenAt hP6.row j
   obtain⟨hP9,ht9⟩:=hP6.joined HST.out hz HH.out (y:=join2 h y) rfl hvO
   have hfo:dealS m (Ps.map (·.2.2),H) y=(Ps.map (·.2.2),H.set i (join2 h y)):=by unfold dealS;simp only[HIX.out,HH.out,Option.getD_some]
   rw[← hW9] at hP9 ht9
   have hT9:Tch (fun k=>k ≠ W4.heap.size∧k ≠ W4.heap.size+1) Xb W9:=((Tch.of_below _ hb26).same (ht9.mono fun k _ e=>by subst e;omega))
   have HE:=Lib.hid (And.intro hP9 (And.intro (HFO.out.trans hfo) (And.intro HPR.out hT9)))
   unfold setF at hW9
   dsimp only at hW9
   have HW9:=Lib.hid hW9
   clear hb26 hP6 hvO hW9 hP9 ht9 hT9 hfo hHeld kp6 hb6 hco
   subst hr1 hr2 hr3 hr4
   refine anyN_late (i:=9) (v:=?vpa9) (by kernel_rfl) rfl (by kernel_rfl) (by kernel_rfl) (by kernel_rfl) (by kernel_rfl) (by decide) (fun _ _ _ h=>h) (fun _=>rfl) (Or.inl ⟨by rfl,?ypa9⟩) ?rpa9
   case ypa9=>(intro W hW;go_simp;first | done | with_reducible rfl)
   try simp only[SL,Act.put]
   refine anyN_ready (rs:=[10]) (by kernel_rfl) (by simp) ?_
   refine AllN.cons (by kernel_rfl) rfl (by rfl) (fun K hK=>?_) (AllN.nil)
   refine⟨fun _ _=>trivial,?_⟩
   go_simp
   rw[← HW9.out]
   refine hK.out _ _ (fun h=>absurd (by decide) h) ?_
   clear hK K
   try simp only[SL,Act.put]
   refine anyN_done (by kernel_rfl) ?_ _
   clear z0 z1 z2 z3 z4 zf
   gi_wp2
   exact⟨(s,Ps,_,_,_),And.intro HE.out.1 (And.intro HE.out.2.1 HE.out.2.2.1),HE.out.2.2.2,fun _ _ h=>h.elim⟩
  | none =>
   have hnk:=ixK_none hix
   rw[decide_eq_false (fun hm=>by
    obtain⟨x,hx,e⟩:=List.mem_map.1 hm
    exact hnk x hx e)] at hlook
   by_cases hfull:H.length=m
   ·have hHne:H ≠ []:=fun e=>by rw[e] at hfull;simp at hfull;omega
    have hx:PieceR w0 B0 me 60 (ok s) (hv,hus,H) Xb:=⟨own_mono hPBb.row (by omega),hPBb.rd.mono (by omega),hPBb.okr,hgH,haH,hHne,hlH⟩
    obtain⟨fn,tmps,assign,body,hy,hR⟩:=HY.out Ps s (hv,hus,H) Xb hPBb.out hx HPL.out
    dsimp only at hy
    have k4:=hPBb.o4.cell (i:=0) rfl
    have hfo:dealS m (Ps.map (·.2.2),H) y=((Ps ++ [(hv,hus,H)]).map (·.2.2),[y]):=by
     unfold dealS
     simp only[hix,if_pos hfull,List.map_append,List.map_cons,List.map_nil]
    have HFO2:=Lib.hid (hfold.trans hfo)
    have hnm:nh=m:=by rw[hnh,hhl,hfull]
    have hnt:∀ k,ok s k→hv.ownBlock ≠ some k→¬ tc (hv,hus,H) s k:=fun k h1 h2 h3=>h2 (HTO.out _ _ _ h3 h1)
    have HNT:=Lib.hid hnt
    have nb:∀ k,k<W4.heap.size+2→hv.ownBlock ≠ some k:=fun k hk e=>by have:=(hPBb.row.lt k e).1;omega
    have HNB:=Lib.hid nb
    have nb8:hv.ownBlock ≠ some B8:=fun e=>by have:=rl8 _ e;omega
    have HNB8:=Lib.hid nb8
    have HR:=Lib.hid hR
    have hm1:((m:Int) == (m:Int))=true:=by simp
    clear hfold hpre2 hPBb hxr hxg hgH hlH hcrb hcy hcr o8b ok8 rl8 hhl hl1 hl2 hl3 hl4 hyc hix hnk hlk hrow haH hnh hHne hx hfo hnt nb nb8 hR hfull cj
    subst eh
    subst hnm
    gi_wp2
    refine⟨fun _=>by omega,?_⟩
    refine (RoundIn.wide HR.out).mono ?_
    rintro e X7 ⟨rfl,s',hJ7,ht7,hok7⟩
    have hPBb:=HP.out
    have bk7:∀ k,k<Xb.heap.size→ok s k→Value.ownBlock (.slice Ph nh ch) ≠ some k→X7.heap[k]? = Xb.heap[k]?:=fun k h1 h2 h3=>ht7.block k h1 (HNT.out k h2 h3)
    have ok7:∀ k,k<Xb.heap.size→ok s k→Value.ownBlock (.slice Ph nh ch) ≠ some k→ok s' k:=fun k h1 h2 h3=>hok7 k h1 h2 (HNT.out k h2 h3)
    have hoz:=hPBb.okz
    have o47:Own 89 X7 b4 [.func (.yield l) #[] #[]]:=(bk7 _ hPBb.o4.lt (hoz _ (by simp)) (HNB.out _ (by omega))).trans hPBb.o4
    have o57:Own 31 X7 b5 [.slice Ph nh ch]:=(bk7 _ hPBb.o5.lt (hoz _ (by simp)) (HNB.out _ (by omega))).trans hPBb.o5
    have o67:Own 117 X7 b6 [.map (some mo)]:=(bk7 _ hPBb.o6.lt (hoz _ (by simp)) (HNB.out _ (by omega))).trans hPBb.o6
    have m7:MX X7 mo (H.map (·.key)):=hPBb.mp.stay (bk7 _ hPBb.mp.lt (hoz _ (by simp)) (HNB.out _ (by omega)))
    have o87:Own 46 X7 B8 [.slice P1 l1 q1,.int .i64 yc,.slice P2 l2 q2,.slice P3 l3 q3,.slice P4 l4 q4]:=(bk7 _ O8.out.lt HOK8.out HNB8.out).trans O8.out
    have hokz7:∀ k,k=b4∨k=b5∨k=b6∨k=mo∨k=W4.heap.size∨k=W4.heap.size+1→ok s' k:=fun k hk=>ok7 k (by omega) (hoz k hk) (HNB.out k (by omega))
    have hs7:=ht7.size
    obtain⟨X8,hX8⟩:∃ X8,X8=X7.setCell ⟨b5,0,none⟩ (.slice none 0 0):=⟨_,rfl⟩
    have ht8:Tch (fun k=>k=b5) X7 X8:=by rw[hX8];exact Tch.of_only (only_setCell b5 X7 0 _) rfl
    have o58:Own 31 X8 b5 [.slice none 0 0]:=by rw[hX8];exact o57.set_ 0 _
    have m8:MX X8 mo (H.map (·.key)):=m7.stay (ht8.block _ m7.lt (by omega))
    have o68:Own 117 X8 b6 [.map (some mo)]:=(ht8.block _ o67.lt (by omega)).trans o67
    obtain⟨X9,hclr,m9,ht9⟩:=m8.clear
    have hs8:=ht8.size
    have hs9:=ht9.size
    have o59:Own 31 X9 b5 [.slice none 0 0]:=(ht9.block _ o58.lt hd.1).trans o58
    have o69:Own 117 X9 b6 [.map (some mo)]:=(ht9.block _ o68.lt hd.2.2.1).trans o68
    have o49:Own 89 X9 b4 [.func (.yield l) #[] #[]]:=(ht9.block _ (Nat.lt_of_lt_of_le o47.lt hs8) hd.2.1).trans ((ht8.block _ o47.lt hd.2.2.2.1).trans o47)
    have o89:Own 46 X9 B8 [.slice P1 l1 q1,.int .i64 yc,.slice P2 l2 q2,.slice P3 l3 q3,.slice P4 l4 q4]:=(ht9.block _ (Nat.lt_of_lt_of_le o87.lt hs8) (by omega)).trans ((ht8.block _ o87.lt (by omega)).trans o87)
    have hJ9:J (Ps ++ [(.slice Ph nh ch,hus,H)]) s' X9:=HST.out _ _ _ _ _ (HST.out _ _ _ _ _ hJ7 ht8 fun k hk=>hokz7 k (by omega)) ht9 fun k hk=>hokz7 k (by omega)
    have hP9:PB J ok w0 W4.heap.size b4 b5 b6 mo (.func (.yield l) #[] #[]) s' (Ps ++ [(.slice Ph nh ch,hus,H)]) (.slice none 0 0) [] [] X9:=⟨hJ9,o49,o59,o69,m9,World.ownsRow_nil _ _ _ _,RdO.nil,hokz7,fun k hk=>by cases hk⟩
    have hsz9:W4.heap.size+2≤X9.heap.size:=by omega
    have ht79:Tch (fun k=>k ≠ W4.heap.size∧k ≠ W4.heap.size+1) Xb X9:=((ht7.mono fun k _ hk=>⟨fun e=>HNT.out k (hoz k (by omega)) (HNB.out k (by omega)) hk,fun e=>HNT.out k (hoz k (by omega)) (HNB.out k (by omega)) hk⟩).same (ht8.mono fun k _ e=>by subst e;omega)).same (ht9.mono fun k _ e=>by subst e;omega)
    have k57:=o57.cell (i:=0) rfl
    have f57:=o57.frozen 0
    have k68:=o68.cell (i:=0) rfl
    have k59:=o59.cell (i:=0) rfl
    have k69:=o69.cell (i:=0) rfl
    rw[hX8] at k68 hclr
    clear hPBb bk7 ok7 hoz o47 o57 o67 m7 o87 hokz7 hs7 ht8 o58 m8 o68 ht9 hs8 hs9 o59 o69 o49 hJ9 hJ7 ht7 hok7 m9 hX8 hy k4 k5 k6 bx8 hlook cm
    obtain⟨Y,v',Z,hrunY,o5Y,o8Y,hrunZ,o5Z,hPF,htF⟩:=hP9.tail HST.out HJN.out hz hd hsz9 HXR.out HXG.out (fun _ h=>by cases h) (fun _ h=>by cases h) (by simp) o89 (by omega)
    rw[show (([]:List Cel).length:Int)=0 from rfl] at hrunY
    have k5Y:=o5Y.cell (i:=0) rfl
    obtain⟨g0,g1,g2,g3,g4⟩:=Own.bx o8Y
    have k5Z:=o5Z.cell (i:=0) rfl
    have f5Z:=o5Z.frozen 0
    obtain⟨Pv,cv,ev,-⟩:=own_form hPF.row
    rw[List.nil_append,List.length_singleton] at ev
    have HRZ:=Lib.hid hrunZ
    have HE:=Lib.hid (And.intro hPF (And.intro HFO2.out (And.intro HPR.out (show Tch (fun k=>k ≠ W4.heap.size∧k ≠ W4.heap.size+1) Xb (Z.setCell ⟨b5,0,none⟩ v') from (ht79.same (htF.mono fun k _ e=>by rcases e with e | e | e <;> first | (constructor <;> omega) | cases e))))))
    clear hPF htF hrunZ o5Y o8Y o5Z hP9 o89 ht79 hsz9
    subst ev
    gi_wp2_with (gi_at_builtin;have _t:=HRZ;refine wpListIn_append_eq rfl (.tmp 45) (.tmp 47) 31 rfl _ _ _ _ rfl rfl HRZ.out ?_;clear _t HRZ)
    first | exact⟨(s',Ps ++ [(.slice Ph nh ch,hus,H)],_,_,_),And.intro HE.out.1 (And.intro HE.out.2.1 HE.out.2.2.1),HE.out.2.2.2,fun _ _ h=>h.elim⟩ | exact⟨(s',Ps ++ [(.slice Ph nh ch,hus,H)],_,_,_),And.intro HE.out.1 (And.intro HE.out.2.1 HE.out.2.2.1),HE.out.2.2.2⟩
   ·have hfo:dealS m (Ps.map (·.2.2),H) y=(Ps.map (·.2.2),H ++ [y]):=by
     unfold dealS
     simp only[hix,if_neg hfull]
    have HFO2:=Lib.hid (hfold.trans hfo)
    have hm1:((nh:Int) == (m:Int))=false:=by
     rw[beq_eq_false_iff_ne]
     intro e
     exact hfull (by omega)
    subst eh
    obtain⟨Y,v',Z,hrunY,o5Y,o8Y,hrunZ,o5Z,hPF,htF⟩:=HP.out.tail HST.out HJN.out hz hd hXb HXR.out HXG.out hnk hgH hlH O8.out (by omega)
    rw[← hhl,← hnh] at hrunY
    have k5Y:=o5Y.cell (i:=0) rfl
    obtain⟨g0,g1,g2,g3,g4⟩:=Own.bx o8Y
    have k5Z:=o5Z.cell (i:=0) rfl
    have f5Z:=o5Z.frozen 0
    obtain⟨Pv,cv,ev,-⟩:=own_form hPF.row
    rw[List.length_append,List.length_singleton,← hnh] at ev
    have HRZ:=Lib.hid hrunZ
    have HE:=Lib.hid (And.intro hPF (And.intro HFO2.out (And.intro HPR.out (show Tch (fun k=>k ≠ W4.heap.size∧k ≠ W4.heap.size+1) Xb (Z.setCell ⟨b5,0,none⟩ v') from (htF.mono fun k _ e=>by rcases e with e | e | e <;> first | (constructor <;> omega) | (have:=(HP.out.row.lt k e).1;constructor <;> omega))))))
    clear hPF htF hrunZ o5Y o8Y o5Z hfold hpre2 hPBb hxr hxg hgH hlH hcrb hcy hcr o8b ok8 rl8 hhl hl1 hl2 hl3 hl4 hyc hix hnk hlk hrow haH hnh hfo hfull cj
    subst ev
    gi_wp2_with (gi_at_builtin;have _t:=HRZ;refine wpListIn_append_eq rfl (.tmp 45) (.tmp 47) 31 rfl _ _ _ _ rfl rfl HRZ.out ?_;clear _t HRZ)
    first | exact⟨(s,Ps,_,_,_),And.intro HE.out.1 (And.intro HE.out.2.1 HE.out.2.2.1),HE.out.2.2.2,fun _ _ h=>h.elim⟩ | exact⟨(s,Ps,_,_,_),And.intro HE.out.1 (And.intro HE.out.2.1 HE.out.2.2.1),HE.out.2.2.2⟩
 case hdone =>
  rintro xs ⟨s,Ps,hv,hus,H⟩ X hxs ⟨hPB,hdl,-⟩ hD0
  dsimp only at hPB hdl
  rw[hxs] at hdl
  clear hxs xs
  obtain⟨hgH,haH,hlH⟩:=deal_held hm hdl (fun y hy=>by
   obtain⟨x,hx,rfl⟩:=List.mem_map.1 hy
   exact (HD.out x hx).2) (by rw[List.length_map,← HN.out];exact hN1)
  have HPL:=Lib.hid (show Ps.length≤60 by
   have h1:=deal_num (m:=m) (D.map (·.2)) ([],[])
   rw[hdl,List.length_map,List.length_map,List.length_nil] at h1
   have:=HN.out
   omega)
  have c4:=hPB.o4.cell (i:=0) rfl
  have c5:=hPB.o5.cell (i:=0) rfl
  obtain⟨Ph,ch,eh,-⟩:=own_form hPB.row
  have hhl:=hPB.rd.1
  obtain⟨nh,hnh⟩:∃ z,z=hus.length:=⟨_,rfl⟩
  have HDL:=Lib.hid hdl
  have HP:=Lib.hid hPB
  have HD0:=Lib.hid hD0
  have hokz:=hPB.okz W4.heap.size (by simp)
  by_cases hH:H=[]
  ·have e0:nh=0:=by rw[hnh,hhl,hH];rfl
   have hfin:Ps.map (·.2.2)=dealE ((D.map (·.2)).foldl (dealS m) ([],[])):=by rw[hdl,hH];rfl
   have HF:=Lib.hid (show ∃ Ps s,Ps.map (·.2.2)=dealE ((D.map (·.2)).foldl (dealS m) ([],[]))∧J Ps s (X.putObj W4.heap.size (.deferred none)) from ⟨Ps,s,hfin,HST.out _ _ _ _ _ hPB.out (tch_put (M:=fun k=>k=W4.heap.size) _ rfl) fun k hk=>hk ▸ hokz⟩)
   rw[← hnh,e0] at eh
   clear hPB hdl hD0 hgH haH hlH hhl hnh e0 hfin hokz
   subst eh
   gi_wp2
   refine⟨by simp,.inl ⟨_,_,rfl,run_takeDeferred HD0.out,?_⟩⟩
   exact⟨_,results_none rfl _ _ _,⟨_,rfl⟩,HF.out⟩
  ·have hpos:0<nh:=by
    rw[hnh,hhl]
    exact List.length_pos_iff.2 hH
   have d1:decide ((0:Int)<(nh:Int))=true:=decide_eq_true (by omega)
   have d2:decide (0<nh)=true:=decide_eq_true hpos
   have hx:PieceR w0 B0 me 60 (ok s) (hv,hus,H) X:=⟨own_mono hPB.row (by omega),hPB.rd.mono (by omega),hPB.okr,hgH,haH,hH,hlH⟩
   obtain⟨fn,tmps,assign,body,hy,hR⟩:=HY.out Ps s (hv,hus,H) X hPB.out hx HPL.out
   have hfin:(Ps ++ [(hv,hus,H)]).map (·.2.2)=dealE ((D.map (·.2)).foldl (dealS m) ([],[])):=by
    rw[hdl,List.map_append]
    unfold dealE
    rw[if_neg hH]
    rfl
   have hrow:=hPB.row
   have HF:=Lib.hid hfin
   have HR:=Lib.hid hR
   have hzt:¬ tc (hv,hus,H) s W4.heap.size:=fun h=>by
    have h1:=HTO.out _ _ _ h hokz
    have:=(hrow.lt _ h1).1
    omega
   have HZT:=Lib.hid hzt
   have HOK:=Lib.hid hokz
   dsimp only at hy
   rw[← hnh] at eh
   clear hPB hdl hD0 hgH haH hlH hhl hnh hfin hokz hx hR hzt hrow
   subst eh
   gi_wp2
   refine⟨fun _=>by omega,HR.out.mono ?_⟩
   rintro e X2 ⟨rfl,s',hJ',ht',hok'⟩
   have hlt:=(Array.getElem?_eq_some_iff.1 HD0.out).1
   have hD2:=(ht'.block _ hlt HZT.out).trans HD0.out
   have hFF:∃ Ps s,Ps.map (·.2.2)=dealE ((D.map (·.2)).foldl (dealS m) ([],[]))∧J Ps s (X2.putObj W4.heap.size (.deferred none)):=⟨_,s',HF.out,HST.out _ _ _ _ _ hJ' (tch_put (M:=fun k=>k=W4.heap.size) _ rfl) fun k hk=>hk ▸ hok' _ hlt HOK.out HZT.out⟩
   have HFF:=Lib.hid hFF
   have HD2:=Lib.hid hD2
   clear hJ' ht' hok' hD2 hFF hlt hy
   gi_wp2
   refine⟨by simp,.inl ⟨_,_,rfl,run_takeDeferred HD2.out,?_⟩⟩
   exact⟨_,results_none rfl _ _ _,⟨_,rfl⟩,HFF.out⟩
end Go.Proofs.YtnjlkhhcfiedbaaGreatDoor

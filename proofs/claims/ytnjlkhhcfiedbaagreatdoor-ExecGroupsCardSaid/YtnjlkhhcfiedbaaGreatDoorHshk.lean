import Derived.Shelf.SlSortCmp.KitK
import Derived.Deep.Onto
import Derived.IntWalk
import Derived.Test.YtnjlkhhcfiedbaaGreatDoorSl
import Derived.Test.YtnjlkhhcfiedbaaGreatDoorSortC
import Derived.Test.YtnjlkhhcfiedbaaGreatDoorHshd
import Derived.Test.YtnjlkhhcfiedbaaGreatDoorHsha
import Derived.Test.YtnjlkhhcfiedbaaGreatDoorRegP
import Derived.Test.YtnjlkhhcfiedbaaGreatDoorHshe
import Derived.Test.YtnjlkhhcfiedbaaGreatDoorExQ
namespace Go.Proofs.YtnjlkhhcfiedbaaGreatDoor
open Go.RowKit Go.Shelf Go.Sort Go.Lib
attribute [local go_sem] Oper.semAt_some
set_option maxRecDepth 100000 in
set_option maxHeartbeats 1000000 in
theorem tcmp_grow (k s n m k' s' n' m':Value) (x y:Cel) (w:World) (hx:CR w k s n m x) (hy:CR w k' s' n' m' y) (h1:x.key.length≤1000000) (h2:y.key.length≤1000000) :
  Calls Tryz.prog 128 #[.agg #[k,.int .i64 x.cnt,s,n,m],.agg #[k',.int .i64 y.cnt,s',n',m']] w fun e w'=>e=.returned (.int .i64 (cmpL x.key y.key))∧∃ os,w'=grow w os:=by
 obtain⟨⟨Pk,ck,rfl,hk⟩,⟨Ps,cs,rfl,hs⟩,⟨Pn,cn,rfl,hn⟩,⟨Pm,cm,rfl,hm⟩⟩:=hx
 obtain⟨⟨Qk,dk,rfl,gk⟩,⟨Qs,ds,rfl,gs⟩,⟨Qn,dn,rfl,gn⟩,⟨Qm,dm,rfl,gm⟩⟩:=hy
 have R1:Hid (RI w (.slice Pk x.key.length ck) x.key):=Lib.hid ⟨_,_,rfl,hk⟩
 have R2:Hid (RI w (.slice Qk y.key.length dk) y.key):=Lib.hid ⟨_,_,rfl,gk⟩
 have L1:=Lib.hid h1
 have L2:=Lib.hid h2
 clear hk hs hn hm gk gs gn gm h1 h2
 generalize hlk:x.key.length=lk at R1 L1 ⊢
 generalize hlq:y.key.length=lq at R2 L2 ⊢
 have hb:RowKit.Below w.heap.size w ((w.alloc (.cells #[.slice Pk lk ck,.int .i64 x.cnt,.slice Ps x.sum.length cs,.slice Pn x.mn.length cn,.slice Pm x.mx.length cm] 163)).alloc (.cells #[.slice Qk lq dk,.int .i64 y.cnt,.slice Qs y.sum.length ds,.slice Qn y.mn.length dn,.slice Qm y.mx.length dm] 163)):=((RowKit.Below.refl _ w).alloc (Nat.le_refl _) _).alloc (by simp) _
 have HB:=Lib.hid hb
 have E1:=Lib.hid hlk
 have E2:=Lib.hid hlq
 clear hb hlk hlq
 go_enter Tryz.func128,Tryz.ntmps128
 go_wp2_with fail
 refine (less_any _ _ x.key y.key _ (R1.out.keep (Keeps.of_below HB.out)) (R2.out.keep (Keeps.of_below HB.out)) (by rw[E1.out];exact L1.out) (by rw[E2.out];exact L2.out)).mono ?_
 rintro e w' ⟨rfl,rfl⟩
 go_wp2
 go_ret
 exact⟨rfl,_,by rw[alloc_eq_grow,alloc_eq_grow,grow_grow]⟩
abbrev QOH (B:Nat) (w:World):V5 × Cel→Prop:=fun p=>OwnC B w p.1 p.2∧p.2.key.length≤1000000
def cfKH {Q:V5 × Cel→Prop} (p q:SP Q):Int:=cmpL p.1.2.key q.1.2.key
theorem swoKH {Q:V5 × Cel→Prop}:SWO (ltOf (cfKH (Q:=Q))) where
 irrefl x:=by simp[ltOf,cfKH,cmpL_self]
 trans x y z h1 h2:=by
  have a:=of_decide_eq_true h1
  have b:=of_decide_eq_true h2
  refine decide_eq_true ?_
  unfold cfKH at *
  have c:=cmpL_trans (Int.le_of_lt a) (Int.le_of_lt b)
  rcases Int.lt_or_eq_of_le c with h | h
  ·exact h
  ·rw[← cmpL_zero.1 h] at b
   have:=cmpL_anti x.1.2.key y.1.2.key
   omega
 ntrans x y z h1 h2:=by
  have a:=of_decide_eq_false h1
  have b:=of_decide_eq_false h2
  refine decide_eq_false ?_
  unfold cfKH at *
  have e1:=cmpL_anti x.1.2.key y.1.2.key
  have e2:=cmpL_anti y.1.2.key z.1.2.key
  have e3:=cmpL_anti x.1.2.key z.1.2.key
  have:=cmpL_trans (s:=z.1.2.key) (t:=y.1.2.key) (u:=x.1.2.key) (by omega) (by omega)
  omega
theorem sorted_grpH {l J:List Cel} (hp:l.Perm J) (ha:J.Pairwise fun x y=>x.key ≠ y.key) (hs:l.Pairwise fun x y=>cmpL x.key y.key≤0):l=grpR J:=by
 have ha2:l.Pairwise fun x y=>x.key ≠ y.key:=(hp.symm.pairwise_iff (fun {a b} h e=>h e.symm)).1 ha
 have hr:RiseC l:=by
  refine (hs.and ha2).imp ?_
  rintro a b ⟨h1,h2⟩
  rcases Int.lt_or_eq_of_le h1 with h | h
  ·exact h
  ·exact absurd (cmpL_zero.1 h) h2
 rw[← grpR_perm hp]
 exact (grp_same l [] (by simpa using hr)).symm
theorem mk_own {B:Nat} {w:World}:∀ {vs:List V5} {l:List Cel},OwnL B w vs l→(∀ x ∈ l,x.key.length≤1000000)→∃ D:List (V5 × Cel),D.map (·.1)=vs∧D.map (·.2)=l∧∀ p ∈ D,QOH B w p
 | [],[],_,_=>⟨[],rfl,rfl,fun p hp=>by cases hp⟩
 | [],_ :: _,h,_=>by have:=h.1;simp at this
 | _ :: _,[],h,_=>by have:=h.1;simp at this
 | v :: vs,x :: l,h,hk=>by
  obtain⟨D,h1,h2,h3⟩:=mk_own (vs:=vs) (l:=l) ⟨by have:=h.1;simpa using this,fun i u y hu hy=>h.2 (i+1) u y (by simpa using hu) (by simpa using hy)⟩ fun y hy=>hk y (List.mem_cons_of_mem _ hy)
  refine⟨(v,x) :: D,by simp[h1],by simp[h2],fun p hp=>?_⟩
  rcases List.mem_cons.1 hp with rfl | hp
  ·exact⟨h.2 0 v x rfl rfl,hk x (by simp)⟩
  ·exact h3 p hp
theorem OI.tch {B g:Nat} {w w':World} {v:Value} {xs:List Int} {cur:Array Value} {T:TypeId} (h:OI B w v xs) (ht:Tch (fun b=>b=g) w w') (hg:w.heap[g]? = some (.cells cur T (0,0))) (hT:T ≠ 3):OI B w' v xs:=by
 refine⟨own_stay h.1 fun k hk=>ht.block k (h.1.lt k hk).2 fun e=>?_,h.2⟩
 subst e
 rcases h.1.2 with ⟨rfl,_⟩ | ⟨g',cap,cur',rfl,_,hh,_⟩
 ·simp[Value.ownBlock] at hk
 ·simp only[Value.ownBlock,Option.some.injEq] at hk
  subst hk
  rw[hh] at hg
  injection hg with hg
  injection hg with _ h2
  exact hT h2.symm
set_option maxRecDepth 100000 in
set_option maxHeartbeats 1000000 in
theorem ksort_any (B B1 g c N:Nat) (vs:List V5) (J:List Cel) (w:World) (ho:w.ownsRow B1 163 5 (.slice (some ⟨g,0,none⟩) N c) N (flatV vs)) (hL:OwnL B w vs J) (hkl:∀ x ∈ J,x.key.length≤1000000) (hN:vs.length=N) (hn1:1≤N) (hn:N≤1000000) (hap:J.Pairwise fun x y=>x.key ≠ y.key) :
  Calls Tryz.prog 127 #[.slice (some ⟨g,0,none⟩) N c,.func (.func 128) #[] #[]] w fun e w'=>e=.returned (.tuple #[])∧∃ us:List V5,us.length=N∧(∀ j u,(flatV us)[j]? = some u→w'.cell? ⟨g,j,none⟩=some u)∧OwnL B w' us (grpR J)∧Tch (fun b=>b=g) w w':=by
 obtain⟨D,hD1,hD2,hQ⟩:=mk_own hL hkl
 obtain⟨dl,hd1⟩:=mk_sp (Q:=QOH B w) hQ
 have hpos:0<dl.length:=by rw[← List.length_map (f:=fun p:SP _=>p.1),hd1,← List.length_map (f:=fun p:V5 × Cel=>p.1),hD1,hN];exact hn1
 haveI:Inhabited (SP (QOH B w)):=⟨dl[0]⟩
 obtain⟨d,rfl⟩:∃ d:Array (SP (QOH B w)),dl=d.toList:=⟨dl.toArray,by simp⟩
 have hv1:vs=d.toList.map fun p=>p.1.1:=by rw[← hD1,← hd1,List.map_map];rfl
 have hsz:d.size=N:=by rw[← hN,hv1];simp
 obtain⟨cur,hh,hcur⟩:∃ cur,w.heap[g]? = some (.cells cur 163 (0,0))∧cur.toList.take (N*5)=flatV vs:=by
  rcases ho.2 with ⟨e,_⟩ | ⟨g',cap,cur,e,_,h3,_,_,_,h7⟩
  ·cases e
  ·injection e with e1 _ _
   injection e1 with e1
   injection e1 with e1
   subst e1
   exact⟨cur,h3,h7⟩
 have hgs:g<w.heap.size:=(Array.getElem?_eq_some_iff.1 hh).1
 have hcell:∀ j u,(flatV vs)[j]? = some u→w.cell? ⟨g,j,none⟩=some u:=fun j u hu=>by
  rw[← hcur,List.getElem?_take] at hu
  split at hu
  ·simpa [World.cell?,hh] using hu
  ·cases hu
 have hHK:HoldsK encS 5 w g 0 d:=fun j hj=>by
  rw[size_flatK] at hj
  rw[Nat.zero_add]
  exact⟨hcell _ _ (by rw[hv1];exact flat_someS d j hj),by simp[World.frozen?,hh]⟩
 have hoS:∀ (m:Nat) (dk:Array (SP (QOH B w))) (os:Array Obj) {v:Value} {xs:List Int},OI B w v xs→OI B (sortWorldK encS 5 w g 0 m dk os) v xs:=fun m dk os {v xs} o=>o.tch (tch_sortWorld encS g 0 m dk os w) hh (by decide)
 have hcmp:CmpLays Tryz.prog 128 #[] encS 5 cfKH g 0 d.size w:=fun m os dk _ (x y:SP (QOH B w))=>by
  obtain⟨⟨⟨a1,b1,s,n,mm⟩,cx⟩,⟨h1,h2,h3⟩,hx⟩:=x
  obtain⟨⟨⟨a',b',s',n',mm'⟩,cy⟩,⟨h1',h2',h3'⟩,hy⟩:=y
  dsimp only at h1 h2 h1' h2' hx hy
  subst h1 h1'
  refine (tcmp_grow a1 s n mm a' s' n' mm' cx cy (sortWorldK encS 5 w g 0 m dk os) (CO.cr ⟨hoS m dk os h2.key,hoS m dk os h2.sum,hoS m dk os h2.mn,hoS m dk os h2.mx⟩) (CO.cr ⟨hoS m dk os h2'.key,hoS m dk os h2'.sum,hoS m dk os h2'.mn,hoS m dk os h2'.mx⟩) hx hy).mono ?_
  rintro e w' ⟨rfl,os',rfl⟩
  exact⟨rfl,0,os',rfl⟩
 have hs:=AnyQ.slices_SortFunc sortKd 5 (show ∀ w,(isAgg 163).run Tryz.prog w=.ok true w from fun _=>by go_simp) (show ∀ w,(Go.sizeOf 163).run Tryz.prog w=.ok 5 w from fun _=>by go_simp) encS (fun x=>rfl) (fun x v hv=>x.2.1.reads.one v hv) cfKH swoKH 128 #[] g 0 c d w (enters_of Tryz.func128 (by kernel_rfl) rfl) hcmp hHK hgs (by omega)
 rw[hsz] at hs
 refine hs.mono ?_
 rintro e w3 ⟨rfl,d',q,os,P,Q,rfl⟩
 have hs':d'.size=d.size:=P.1
 have hH':=holdsK_sortWorldK_c encS 5 w g 0 d d' q os hHK hgs hs'
 have hperm:(d'.toList.map fun p=>p.1).Perm D:=by
  rw[← hd1]
  have hp:=P.2.2
  rw[show N=d.size from hsz.symm] at hp
  have e1:(d.extract 0 d.size).toList=d.toList:=by simp
  have e2:(d'.extract 0 d.size).toList=d'.toList:=by rw[← hs'];simp
  rw[e1,e2] at hp
  exact hp.map _
 have hg:(d'.toList.map fun p=>p.1.2)=grpR J:=by
  refine sorted_grpH ?_ hap ?_
  ·rw[← hD2]
   have:=hperm.map (fun p:V5 × Cel=>p.2)
   rwa [List.map_map] at this
  ·rw[List.pairwise_iff_getElem]
   intro i j hi hj hij
   simp only[List.length_map,Array.length_toList] at hi hj
   have h:=Q i j (Nat.zero_le _) hij (by omega)
   rw[getElem!_pos d' i hi,getElem!_pos d' j hj] at h
   have h2:=of_decide_eq_false h
   unfold cfKH at h2
   simp only[List.getElem_map,Array.getElem_toList]
   have:=cmpL_anti d'[i].1.2.key d'[j].1.2.key
   omega
 refine⟨rfl,d'.toList.map fun p=>p.1.1,by simp;omega,fun j u hu=>?_,?_,tch_sortWorld encS g 0 q d' os w⟩
 ·obtain⟨hj,e⟩:=flat_atS d' j u hu
  have h1:=(hH' j (by rw[size_flatK];exact hj)).1
  rw[Nat.zero_add] at h1
  rw[h1,e];rfl
 ·rw[← hg]
  refine⟨by simp,fun i v x hv hx=>?_⟩
  simp only[List.getElem?_map,Option.map_eq_some_iff] at hv hx
  obtain⟨p,hp,rfl⟩:=hv
  obtain⟨p',hp',rfl⟩:=hx
  rw[hp] at hp'
  injection hp' with hp'
  subst hp'
  exact OwnC.stay p.2.1 fun o=>hoS q d' os o
end Go.Proofs.YtnjlkhhcfiedbaaGreatDoor
namespace Go.Proofs.YtnjlkhhcfiedbaaGreatDoor
open Go.RowKit
attribute [local go_sem] Oper.semAt_some
theorem own_ne {B b s n:Nat} {w:World} {e T:TypeId} {v:Value} {xs l:List Value} (h:w.ownsRow B e s v n xs) (hb:Own T w b l) (hT:T ≠ e):v.ownBlock ≠ some b:=fun e0=>by
 rcases h.2 with ⟨rfl,_⟩ | ⟨g,cap,cur,rfl,_,hh,_⟩
 ·cases e0
 ·simp only[Value.ownBlock,Option.some.injEq] at e0
  subst e0
  unfold Own at hb
  rw[hh] at hb
  injection hb with hb
  injection hb with _ h2
  exact hT h2.symm
theorem GRs.onlyL {B b:Nat} {w w':World} {v:Value} {us:List V5} {J:List Cel} {T:TypeId} {l:List Value} (h:GRs B w v us J) (ho:Only b w w') (hb:Own T w b l) (hT:T ≠ 3) (hT2:T ≠ 46):GRs B w' v us J :=
 ⟨own_stay h.1 fun k hk=>ho.block k (h.1.lt k hk).2 fun e=>own_ne h.1 hb hT2 (by rw[hk,e]),h.2.stay fun o=>o.onlyL ho hb hT⟩
theorem own_heap {B e s g c n:Nat} {w:World} {xs:List Value} (h:w.ownsRow B e s (.slice (some ⟨g,0,none⟩) n c) n xs):∃ cur,w.heap[g]? = some (.cells cur e (0,0)):=by
 rcases h.2 with ⟨e0,_⟩ | ⟨g',cap,cur,e0,_,h3,_⟩
 ·cases e0
 ·injection e0 with e1 _ _
  injection e1 with e1
  injection e1 with e1
  subst e1
  exact⟨cur,h3⟩
structure Gs (B:Nat) (w:World) (G:Nat) (slots:Int) (outv:Value) (us:List V5) (J:List Cel) (parts:Nat):Prop where
 bx:Own 101 w G [.int .i64 slots,outv,.int .i64 parts]
 out:GRs B w outv us J
 hG:B≤G
theorem Gs.below {B G parts:Nat} {w w':World} {slots:Int} {outv:Value} {us:List V5} {J:List Cel} (h:Gs B w G slots outv us J parts) (hb:Below w.heap.size w w'):Gs B w' G slots outv us J parts:=⟨h.bx.below hb h.bx.lt,h.out.below hb,h.hG⟩
def OutRel (outv:Value) (w:World) (outv':Value):Prop:=outv'.ownBlock=outv.ownBlock∨∃ b,outv'.ownBlock=some b∧w.heap.size≤b
theorem OutRel.refl (v:Value) (w:World):OutRel v w v:=.inl rfl
theorem OutRel.trans {a b c:Value} {w w':World} (h:OutRel a w b) (h':OutRel b w' c) (hw:w.heap.size≤w'.heap.size):OutRel a w c:=by
 rcases h' with h' | ⟨k,h1,h2⟩
 ·rcases h with h | ⟨k,h1,h2⟩
  ·exact .inl (h'.trans h)
  ·exact .inr ⟨k,h'.trans h1,h2⟩
 ·exact .inr ⟨k,h1,by omega⟩
def TchG (G:Nat) (outv:Value):World→World→Prop:=Tch fun b=>b=G∨outv.ownBlock=some b
theorem TchG.trans {G:Nat} {v v':Value} {a b c:World} (h:TchG G v a b) (hr:OutRel v a v') (h':TchG G v' b c):TchG G v a c :=
 Tch.trans h h' fun k hk hn=>by
  rcases hn with hn | hn
  ·exact .inl hn
  ·rcases hr with hr | ⟨q,h1,h2⟩
   ·exact .inr (hr ▸ hn)
   ·rw[h1] at hn
    injection hn with hn
    omega
theorem OutRel.down {a b:Value} {w w':World} (h:OutRel a w' b) (hw:w.heap.size≤w'.heap.size):OutRel a w b:=by
 rcases h with h | ⟨k,h1,h2⟩
 ·exact .inl h
 ·exact .inr ⟨k,h1,by omega⟩
theorem OI.tchG {B B' G parts:Nat} {w w':World} {slots:Int} {outv v:Value} {us:List V5} {J:List Cel} {xs:List Int} (h:OI B w v xs) (hG:Gs B' w G slots outv us J parts) (ht:TchG G outv w w'):OI B w' v xs :=
 ⟨own_stay h.1 fun k hk=>ht.block k (h.1.lt k hk).2 fun e=>by
  rcases e with e | e
  ·exact own_ne h.1 hG.bx (by decide) (by rw[hk,e])
  ·rcases own_apart h.1 hG.out.1 (by decide) with h0 | h0
   ·rw[h0] at hk;cases hk
   ·exact h0 (by rw[hk,e]),h.2⟩
theorem Gs.step {B G parts:Nat} {w:World} {slots:Int} {outv:Value} {us:List V5} {J:List Cel} {u:V5} {x:Cel} (h:Gs B w G slots outv us J parts) (hu:OwnC B w u x) (hl:us.length+1≤1000000) :
  ∃ g c X3,(Builtin.append_ #[31,31] 31 #[outv,.slice (some ⟨w.heap.size,0,none⟩) 1 1]).run Tryz.prog (w.alloc (.cells #[u.a,u.b,u.c,u.d,u.e] 46))=.ok (.slice (some ⟨g,0,none⟩) (us.length+1) c) X3 ∧
   Own 101 X3 G [.int .i64 slots,outv,.int .i64 parts]∧Gs B (X3.setCell ⟨G,1,none⟩ (.slice (some ⟨g,0,none⟩) (us.length+1) c)) G slots (.slice (some ⟨g,0,none⟩) (us.length+1) c) (us ++ [u]) (J ++ [x]) parts ∧
   OutRel outv w (.slice (some ⟨g,0,none⟩) (us.length+1) c)∧TchG G outv w (X3.setCell ⟨G,1,none⟩ (.slice (some ⟨g,0,none⟩) (us.length+1) c)):=by
 have hB:B≤w.heap.size:=Nat.le_of_lt (Nat.lt_of_le_of_lt h.hG h.bx.lt)
 obtain⟨v',X3,hrun,hG3,hgr,hbl⟩:=append_one h.out hu hl hB
 obtain⟨g,c,e⟩:=ownsRow_succ (k:=us.length) (by simpa using hG3.1)
 subst e
 have hbx:=h.bx.alloc (.cells #[u.a,u.b,u.c,u.d,u.e] 46)
 have hbx3:Own 101 X3 G [.int .i64 slots,outv,.int .i64 parts]:=(hgr.block G hbx.lt (fun e=>own_ne h.out.1 h.bx (by decide) e.symm)).trans hbx
 have hon:Only G X3 (X3.setCell ⟨G,1,none⟩ (.slice (some ⟨g,0,none⟩) (us.length+1) c)):=(Only.refl G X3).setCell _ _
 refine⟨g,c,X3,hrun,hbx3,⟨hbx3.set_ 1 _,hG3.onlyL hon hbx3 (by decide) (by decide),h.hG⟩,?_,?_⟩
 ·rcases hbl with h1 | h1
  ·exact .inl h1
  ·exact .inr ⟨_,h1,by omega⟩
 ·have t1:Tch (fun b=>b=G∨outv.ownBlock=some b) w (w.alloc (.cells #[u.a,u.b,u.c,u.d,u.e] 46)):=Tch.alloc _ w _
  exact (t1.same (Tch.of_grown hgr fun k e=>.inr e.symm.symm)).same (Tch.of_only hon (.inl rfl))
set_option maxRecDepth 100000 in
set_option maxHeartbeats 4000000 in
theorem htell_some (B T g G parts:Nat) (slots d me:Int) (vs:List (Option V5)) (ts:List (Option Cel)) (outv:Value) (us:List V5) (J:List Cel) (w:World) (hB:Tb B w T g d me vs ts) (hN2:ts.length≤10000) (hI:InvT ts) (hkl:∀ x ∈ cellsT ts,x.key.length≤1000000) (hne:1≤(cellsT ts).length) (hG:Gs B w G slots outv us J parts) (hul:us.length+(cellsT ts).length≤100000) (hp:parts≤1000000) :
  Calls Tryz.prog 103 #[.pointer (some ⟨G,0,none⟩),.pointer (some ⟨T,0,none⟩)] w fun e w'=>(∃ v,e=.returned v)∧∃ outv' us',Gs B w' G slots outv' us' (J ++ grpR (cellsT ts)) (parts+1)∧OutRel outv w outv'∧TchG G outv w w':=by
 have HE:=Lib.hid (hentries_any B T g d me vs ts w hB hN2)
 have hap:=inv_apart hI
 have hil:=inv_len hI
 obtain⟨E,hE⟩:∃ E,E=cellsT ts:=⟨_,rfl⟩
 rw[← hE] at HE hkl hne hap hil hul ⊢
 obtain⟨N,hN⟩:∃ N,N=E.length:=⟨_,rfl⟩
 rw[← hN] at hne hul hil
 have hcl:N≤10000:=by rw[hN,hE];exact Nat.le_trans (cells_le ts) hN2
 have HG:=Lib.hid hG
 have HAP:=Lib.hid hap
 have HKL:=Lib.hid hkl
 have HN:=Lib.hid hN
 clear hB hI hG hap hkl hE hN hN2
 go_enter Tryz.func103,Tryz.ntmps103
 go_wp2_with fail
 refine HE.out.mono ?_
 rintro e w2 ⟨lv,ue,rfl,ho2,hL2,hb2⟩
 clear HE
 have hel:ue.length=N:=by rw[hL2.1,HN.out]
 obtain⟨ge,c,e1⟩:=ownsRow_succ (k:=N - 1) (by rw[show N - 1+1=ue.length by omega];exact ho2)
 rw[show N - 1+1=N by omega] at e1
 subst e1
 rw[hel] at ho2
 have hlt:=(ho2.lt ge rfl)
 obtain⟨cur,hcur⟩:=own_heap ho2
 have HSO:=Lib.hid (ksort_any B w.heap.size ge c N ue E w2 ho2 hL2 HKL.out hel hne (by omega) HAP.out)
 have HG2:=Lib.hid (HG.out.below hb2)
 have Hb2:=Lib.hid hb2
 have HGE:Hid (w.heap.size≤ge):=Lib.hid hlt.1
 have hgG:ge ≠ G:=by have:=HG.out.bx.lt;omega
 have hgO:∀ (k:Nat),outv.ownBlock=some k→k ≠ ge:=fun k hk=>by have:=(HG.out.out.1.lt k hk).2;omega
 have HGO:=Lib.hid hgO
 clear hb2 ho2 hL2 hel hlt hgO
 go_wp2_with fail
 refine HSO.out.mono ?_
 rintro e w3 ⟨rfl,es,hes,hce,hL3,ht3⟩
 clear HSO
 have hg3:Gs B w3 G slots outv us J parts:=by
  refine⟨(ht3.block G HG2.out.bx.lt (fun e=>hgG e.symm)).trans HG2.out.bx,⟨own_stay HG2.out.out.1 fun k hk=>ht3.block k (HG2.out.out.1.lt k hk).2 (fun e=>HGO.out k hk e),?_⟩,HG2.out.hG⟩
  exact HG2.out.out.2.stay fun o=>o.tch ht3 hcur (by decide)
 have Hb3:Hid (Tch (fun b=>b=G∨outv.ownBlock=some b) w w3):=Lib.hid ((Tch.of_below _ Hb2.out).trans ht3 fun k hk e=>by have:=HGE.out;omega)
 have Z3:Hid (w.heap.size≤w3.heap.size):=Lib.hid Hb3.out.size
 have HG3:=Lib.hid hg3
 have HCE:=Lib.hid hce
 have HL3:=Lib.hid hL3
 have Hes:=Lib.hid hes
 have GE:Hid ((grpR E).length=N):=Lib.hid hil
 clear hg3 hce hL3 hes ht3 hcur
 have dN:decide ((0:Int)<(N:Int))=true:=decide_eq_true (by omega)
 go_wp2_with fail
 go_loopw [15] (fun i wr=>∃ (k:Nat) (outv':Value) (us':List V5),i=.int .i64 k∧k≤N∧us'.length=us.length+k∧Gs B wr G slots outv' us' (J ++ (grpR E).take k) parts∧OutRel outv w3 outv'∧TchG G outv w3 wr) (fun i _=>N - (intOf i).toNat)
 case atStart=>exact⟨0,outv,us,rfl,Nat.zero_le _,rfl,by simpa using HG3.out,OutRel.refl _ _,Tch.refl _ _⟩
 case round =>
  obtain⟨k,outv',us',rfl,hk,hul',hG',hR',hT'⟩:=hrel
  rename World=>wr
  by_cases hlt:k<N
  ·have i0:(0:Int)≤(k:Int):=by omega
   have i1:(k:Int)<(N:Int):=by omega
   have d1:decide ((k:Int)<(N:Int))=true:=decide_eq_true i1
   obtain⟨x,hx⟩:∃ x,(grpR E)[k]? = some x:=⟨_,List.getElem?_eq_getElem (by rw[GE.out];exact hlt)⟩
   obtain⟨u,hu⟩:∃ u,es[k]? = some u:=⟨_,List.getElem?_eq_getElem (by rw[Hes.out];exact hlt)⟩
   obtain⟨ka,kb,kc,kd,ke⟩:=u
   have hoc:=HL3.out.2 k _ x hu hx
   obtain⟨f0,f1,f2,f3,f4⟩:=flatV_at hu
   have hce:∀ j u,(flatV es)[j]? = some u→wr.cell? ⟨ge,j,none⟩=some u:=fun j u h=>by
    have h1:=HCE.out j u h
    rw[World.cell?_of_block (hT'.block ge (block_lt h1) (fun e=>by
     rcases e with e | e
     ·exact hgG e
     ·exact HGO.out ge e rfl))]
    exact h1
   have hoc2:OwnC B wr ⟨ka,kb,kc,kd,ke⟩ x:=hoc.stay fun o=>o.tchG HG3.out hT'
   obtain⟨e0,hco,hix⟩:=hoc2
   dsimp only at e0 hco
   subst e0
   have q0:wr.cell? ⟨ge,k*5,none⟩=some ka:=hce _ _ f0
   have q1:wr.cell? ⟨ge,k*5+1,none⟩=some (.int .i64 x.cnt):=hce _ _ f1
   have q2:wr.cell? ⟨ge,k*5+2,none⟩=some kc:=hce _ _ f2
   have q3:wr.cell? ⟨ge,k*5+3,none⟩=some kd:=hce _ _ f3
   have q4:wr.cell? ⟨ge,k*5+4,none⟩=some ke:=hce _ _ f4
   have hx5:OwnC B wr ⟨ka,.int .i64 x.cnt,kc,kd,ke⟩ x:=⟨rfl,hco,hix⟩
   obtain⟨P1,d1',g1,-⟩:=hco.key.form
   obtain⟨P2,d2',g2,-⟩:=hco.sum.form
   obtain⟨P3,d3',g3,-⟩:=hco.mn.form
   obtain⟨P4,d4',g4,-⟩:=hco.mx.form
   generalize x.key.length=m1 at g1
   generalize x.sum.length=m2 at g2
   generalize x.mn.length=m3 at g3
   generalize x.mx.length=m4 at g4
   subst g1 g2 g3 g4
   obtain⟨xc,exc⟩:∃ z,z=x.cnt:=⟨_,rfl⟩
   rw[← exc] at q1 hx5
   have htk:(grpR E).take (k+1)=(grpR E).take k ++ [x]:=by rw[List.take_add_one,hx];rfl
   obtain⟨w5,hw5⟩:∃ w5,w5=wr.alloc (.cells #[.slice P1 m1 d1',.int .i64 xc,.slice P2 m2 d2',.slice P3 m3 d3',.slice P4 m4 d4'] 163):=⟨_,rfl⟩
   have o5:Own 163 w5 wr.heap.size [.slice P1 m1 d1',.int .i64 xc,.slice P2 m2 d2',.slice P3 m3 d3',.slice P4 m4 d4']:=by rw[hw5];exact heap_alloc_new wr _
   have hb5:Below wr.heap.size wr w5:=by rw[hw5];exact (Below.refl _ _).alloc (Nat.le_refl _) _
   have bx5:=o5.bx
   have hG5:=(hG'.below hb5).below (Below.refl _ w5).drew
   obtain⟨g,cp,X3,hrun,hbx3,hG7,hR7,hT7⟩:=hG5.step ((hx5.stay fun o=>o.below hb5).stay fun o=>o.below (Below.refl _ w5).drew) (by omega)
   dsimp only at hrun hG7
   have z1:=hG5.bx.cell (i:=1) rfl
   have y1:=hbx3.cell (i:=1) rfl
   have yf:=hbx3.frozen 1
   have hR8:OutRel outv w3 (.slice (some ⟨g,0,none⟩) (us'.length+1) cp):=hR'.trans (hR7.down (w:=wr) (Nat.le_trans hb5.size (Nat.le_refl _))) hT'.size
   have hT8:TchG G outv w3 (X3.setCell ⟨G,1,none⟩ (.slice (some ⟨g,0,none⟩) (us'.length+1) cp)):=hT'.trans hR' (Tch.same (Tch.of_below _ (hb5.trans ((Below.refl _ w5).drew.mono hb5.size))) hT7)
   have lt5:wr.heap.size ≠ G:=by have:=hG'.bx.lt;omega
   have HUL:=Lib.hid hul'
   have Hrun:=Lib.hid hrun
   have HG7:=Lib.hid hG7
   have HR8:=Lib.hid hR8
   have HT8:=Lib.hid hT8
   have HW5:=Lib.hid hw5
   have HTK:=Lib.hid htk
   clear hul' hrun hbx3 hG7 hR7 hT7 hR8 hT8 hG5 hw5 o5 hb5 hx hu hoc f0 f1 f2 f3 f4 hce hx5 exc htk hco hix hG' hR' hT'
   go_upto_region 5 with (fail)
   rw[← HW5.out]
   clear q0 q1 q2 q3 q4
   refine region_P (S:=fun W=>W.cell? ⟨G,1,none⟩=some outv'∧Bx W wr.heap.size (.slice P1 m1 d1') (.int .i64 xc) (.slice P2 m2 d2') (.slice P3 m3 d3') (.slice P4 m4 d4')) (kill:=[7,10]) (by kernel_rfl) ⟨z1,bx5⟩ (fun hHeld=>?_)
   refine anyP_pure (i:=0) (v:=?vpa0) rfl (by kernel_rfl) (by kernel_rfl) (by kernel_rfl) (by kernel_rfl) (fun _ _ _ h=>h) (Or.inl ⟨by rfl,?ypa0⟩) ?rpa0
   case ypa0=>(intro W hW;go_simp;first | done | with_reducible rfl)
   try simp only[SL,Act.put]
   refine WTP (i:=1) (v:=?vpa1) ?ypa1 hHeld ?rpa1
   case ypa1=>(intro W hW;obtain⟨p0,p1,p2,p3,p4,p5⟩:=hW;go_simp;first | done | with_reducible rfl)
   try simp only[SL,Act.put]
   refine WTP (i:=2) (v:=?vpa2) ?ypa2 hHeld ?rpa2
   case ypa2=>(intro W hW;obtain⟨p0,p1,p2,p3,p4,p5⟩:=hW;go_simp;first | done | with_reducible rfl)
   try simp only[SL,Act.put]
   refine WTP (i:=3) (v:=?vpa3) ?ypa3 hHeld ?rpa3
   case ypa3=>(intro W hW;obtain⟨p0,p1,p2,p3,p4,p5⟩:=hW;go_simp;first | done | with_reducible rfl)
   try simp only[SL,Act.put]
   refine WTP (i:=4) (v:=?vpa4) ?ypa4 hHeld ?rpa4
   case ypa4=>(intro W hW;obtain⟨p0,p1,p2,p3,p4,p5⟩:=hW;go_simp;first | done | with_reducible rfl)
   try simp only[SL,Act.put]
   refine WTP (i:=5) (v:=?vpa5) ?ypa5 hHeld ?rpa5
   case ypa5=>(intro W hW;obtain⟨p0,p1,p2,p3,p4,p5⟩:=hW;go_simp;first | done | with_reducible rfl)
   try simp only[SL,Act.put]
   have kp6:Keeps w5.drew (w5.drew.alloc (.cells #[.slice P1 m1 d1',.int .i64 xc,.slice P2 m2 d2',.slice P3 m3 d3',.slice P4 m4 d4'] 46)):=(Keeps.refl _).alloc _
   refine anyP_ready (rs:=[6]) (by kernel_rfl) (by simp) ?_
   refine AllP.cons rfl (fun K hK=>?_) (AllP.nil)
   go_simp
   refine hK.out _ _ (fun _ hh=>⟨kp6 _ _ hh.1,hh.2.keep kp6⟩) ?_
   clear hK K
   try simp only[SL,Act.put]
   clear hHeld kp6 z1 bx5
   refine anyP_ready (rs:=[7]) (by kernel_rfl) (by simp) ?_
   refine AllP.cons rfl (fun K hK=>?_) (AllP.nil)
   refine step_append_eq (by rfl) (.tmp 23) (.tmp 25) 31 (by rfl) outv' (.slice (some ⟨w5.heap.size,0,none⟩) 1 1) (.slice (some ⟨g,0,none⟩) (us'.length+1) cp) X3 (by rfl) (by rfl) Hrun.out ?_
   refine hK.out _ _ (fun h=>absurd (by decide) h) ?_
   clear hK K
   try simp only[SL,Act.put]
   refine anyP_pure (i:=8) (v:=?vpa8) rfl (by kernel_rfl) (by kernel_rfl) (by kernel_rfl) (by kernel_rfl) (fun _ _ _ h=>h) (Or.inl ⟨by rfl,?ypa8⟩) ?rpa8
   case ypa8=>(intro W hW;go_simp;first | done | with_reducible rfl)
   try simp only[SL,Act.put]
   refine anyP_pure (i:=9) (v:=?vpa9) rfl (by kernel_rfl) (by kernel_rfl) (by kernel_rfl) (by kernel_rfl) (fun _ _ _ h=>h) (Or.inl ⟨by rfl,?ypa9⟩) ?rpa9
   case ypa9=>(intro W hW;go_simp;first | done | with_reducible rfl)
   try simp only[SL,Act.put]
   refine anyP_ready (rs:=[10]) (by kernel_rfl) (by simp) ?_
   refine AllP.cons rfl (fun K hK=>?_) (AllP.nil)
   go_simp
   refine hK.out _ _ (fun h=>absurd (by decide) h) ?_
   clear hK K
   try simp only[SL,Act.put]
   refine anyP_done (by kernel_rfl) ?_ _
   clear y1 yf
   go_wp2
   go_roundw
   case rel=>exact⟨k+1,_,us' ++ [⟨.slice P1 m1 d1',.int .i64 xc,.slice P2 m2 d2',.slice P3 m3 d3',.slice P4 m4 d4'⟩],by go_num,by omega,by rw[List.length_append,HUL.out];simp;omega,by rw[HTK.out,← List.append_assoc];exact HG7.out,HR8.out,HT8.out⟩
   case measure=>simp[intOf];omega
  ·obtain rfl:k=N:=by omega
   rw[List.take_of_length_le (Nat.le_of_eq GE.out)] at hG'
   have d1:decide ((k:Int)<(k:Int))=false:=by simp
   have y2:=hG'.bx.cell (i:=2) rfl
   have yf:=hG'.bx.frozen 2
   have hwr:IntKind.i64.wrap ((parts:Int)+1)=((parts+1:Nat):Int):=by rw[IntWalk.i64_in _ (by omega)];push_cast;rfl
   have hon:Only G wr (wr.setCell ⟨G,2,none⟩ (.int .i64 ((parts+1:Nat):Int))):=(Only.refl G wr).setCell _ _
   have hfin:Gs B (wr.setCell ⟨G,2,none⟩ (.int .i64 ((parts+1:Nat):Int))) G slots outv' us' (J ++ grpR E) (parts+1):=⟨hG'.bx.set_ 2 _,hG'.out.onlyL hon hG'.bx (by decide) (by decide),hG'.hG⟩
   have htf:TchG G outv w (wr.setCell ⟨G,2,none⟩ (.int .i64 ((parts+1:Nat):Int))):=(Hb3.out.same hT').same (Tch.of_only hon (.inl rfl))
   have Hfin:=Lib.hid hfin
   have Htf:=Lib.hid htf
   have HRf:=Lib.hid (hR'.down Z3.out)
   clear hfin htf hon hG' hR' hT'
   go_wp2
   go_end0
   have e:((parts+1:Nat):Int)=(parts:Int)+1:=by push_cast;rfl
   rw[← e]
   exact⟨⟨_,rfl⟩,outv',us',Hfin.out,HRf.out,Htf.out⟩
end Go.Proofs.YtnjlkhhcfiedbaaGreatDoor
namespace Go.Proofs.YtnjlkhhcfiedbaaGreatDoor
open Go.RowKit
theorem fill_snoc:∀ (l:List Cel) (ts:List (Option Cel)) (c:Cel),fillT ts (l ++ [c])=(fillT ts l).bind fun ts'=>putT ts' c
 | [],ts,c=>by
  simp only[List.nil_append,fillT,Option.bind_some]
  cases putT ts c <;> rfl
 | x :: l,ts,c=>by
  simp only[List.cons_append,fillT]
  cases h:putT ts x with
  | none=>rfl
  | some t=>exact fill_snoc l t c
theorem fill_stop:∀ (l l':List Cel) (ts:List (Option Cel)),fillT ts l=none→fillT ts (l ++ l')=none
 | [],_,ts,h=>by simp[fillT] at h
 | x :: l,l',ts,h=>by
  simp only[List.cons_append,fillT] at h ⊢
  cases hx:putT ts x with
  | none=>rfl
  | some t=>rw[hx] at h;exact fill_stop l l' t h
theorem parts_fit {slots f a:Nat} {l:List Cel} (h:(grpR l).length≤slots):partsP slots f a l=[grpR l]:=by
 cases f with
 | zero=>rfl
 | succ f=>unfold partsP;rw[if_pos h]
theorem grp_len_le (l:List Cel):(grpR l).length≤l.length:=by have:=grp_lt l [];simpa [grpR] using this
theorem flat_len_ge:∀ {ps:List (List Cel)},(∀ p ∈ ps,1≤p.length)→ps.length≤ps.flatten.length
 | [],_=>Nat.le_refl _
 | p :: ps,h=>by
  have h1:=flat_len_ge (ps:=ps) fun q hq=>h q (by simp[hq])
  have h2:=h p (by simp)
  rw[List.flatten_cons,List.length_append,List.length_cons]
  omega
theorem parts_lenH {slots d f a:Nat} {l:List Cel} (hs:1≤slots) (hd:a+f=d) (h:Fit d a l) (hne:l ≠ []):(partsP slots f a l).length≤l.length:=by
 have h1:=flat_len_ge (fun p hp=>(parts_each slots d hs f a l hd h hne p hp).1)
 rw[parts_flat slots d f a l hd h] at h1
 exact Nat.le_trans h1 (grp_len_le l)
def seg (D:List (V5 × Cel)) (s n:Nat):List (V5 × Cel):=(D.drop s).take n
theorem seg_len {D:List (V5 × Cel)} {s n:Nat} (h:s+n≤D.length):(seg D s n).length=n:=by unfold seg;rw[List.length_take,List.length_drop];omega
theorem flatV_drop5:∀ (vs:List V5) (s j:Nat),(flatV (vs.drop s))[j]? = (flatV vs)[s*5+j]?
 | vs,0,j=>by simp
 | [],s+1,j=>by simp[flatV]
 | v :: vs,s+1,j=>by
  rw[List.drop_succ_cons,flatV_drop5 vs s j]
  show _=(flatV (v :: vs))[(s+1)*5+j]?
  rw[show flatV (v :: vs)=v.l ++ flatV vs from by simp[flatV],List.getElem?_append_right (by simp[V5.l];omega)]
  congr 1
  simp[V5.l]
  omega
theorem flatV_take5 (vs:List V5) (n j:Nat) (u:Value) (h:(flatV (vs.take n))[j]? = some u):(flatV vs)[j]? = some u:=by
 have e:flatV vs=flatV (vs.take n) ++ flatV (vs.drop n):=by rw[← flatV_append,List.take_append_drop]
 rw[e,List.getElem?_append_left (List.getElem?_eq_some_iff.1 h).1]
 exact h
theorem HoldsL.seg {w:World} {blk:Nat} {D:List (V5 × Cel)} (h:HoldsL w blk 0 (D.map (·.1))) (s n:Nat):HoldsL w blk (s*5) ((seg D s n).map (·.1)):=fun j u hu=>by
 unfold Go.Proofs.YtnjlkhhcfiedbaaGreatDoor.seg at hu
 rw[List.map_take,List.map_drop] at hu
 have h1:=flatV_take5 _ _ _ _ hu
 rw[flatV_drop5] at h1
 have:=h _ u h1
 rwa [Nat.zero_add] at this
def spl3 (D mid:List (V5 × Cel)) (s n:Nat):List (V5 × Cel):=D.take s ++ mid ++ D.drop (s+n)
theorem spl3_perm {D mid:List (V5 × Cel)} {s n:Nat} (h:mid.Perm (seg D s n)):(spl3 D mid s n).Perm D:=by
 have e:D=D.take s ++ seg D s n ++ D.drop (s+n):=by
  unfold seg
  rw[List.append_assoc,← List.drop_drop,List.take_append_drop,List.take_append_drop]
 unfold spl3
 conv=>rhs;rw[e]
 exact ((List.Perm.refl _).append h).append (List.Perm.refl _)
theorem spl3_take {D mid:List (V5 × Cel)} {s n:Nat} (h:s≤D.length):(spl3 D mid s n).take s=D.take s:=by
 unfold spl3
 rw[List.append_assoc,List.take_append_of_le_length (by rw[List.length_take];omega),List.take_of_length_le (by rw[List.length_take];omega)]
theorem spl3_drop {D mid:List (V5 × Cel)} {s n:Nat} (hm:mid.length=n) (h:s+n≤D.length):(spl3 D mid s n).drop (s+n)=D.drop (s+n):=by
 unfold spl3
 rw[List.drop_append_of_le_length (by rw[List.length_append,List.length_take,hm];omega),List.drop_of_length_le (by rw[List.length_append,List.length_take,hm];omega)]
 rfl
theorem HoldsL.splice {w w':World} {blk s n:Nat} {D mid:List (V5 × Cel)} (h:HoldsL w blk 0 (D.map (·.1))) (hm:mid.length=n) (hn:s+n≤D.length) (hl:HoldsL w' blk (s*5) (mid.map (·.1))) (he:Else blk (s*5) n w w'):HoldsL w' blk 0 ((spl3 D mid s n).map (·.1)):=fun j u hu=>by
 rw[Nat.zero_add]
 have old:∀ v,(flatV (D.map (·.1)))[j]? = some v→(j<s*5∨s*5+n*5≤j)→w'.cell? ⟨blk,j,none⟩=some v∧w'.frozen? ⟨blk,j,none⟩=false:=fun v hv hc=>by
  obtain⟨h1,h2⟩:=h j v hv
  rw[Nat.zero_add] at h1 h2
  obtain⟨e1,e2⟩:=he ⟨blk,j,none⟩ (block_lt h1) (.inr hc)
  exact⟨e1.trans h1,e2.trans h2⟩
 have e:(spl3 D mid s n).map (·.1)=(D.map (·.1)).take s ++ mid.map (·.1) ++ (D.map (·.1)).drop (s+n):=by unfold spl3;simp
 rw[e,flatV_append,flatV_append] at hu
 have l1:(flatV ((D.map (·.1)).take s)).length=s*5:=by rw[flatV_len,List.length_take,List.length_map,Nat.min_eq_left (by omega)]
 have l2:(flatV (mid.map (·.1))).length=n*5:=by rw[flatV_len,List.length_map,hm]
 rcases Nat.lt_or_ge j (s*5) with c | c
 ·rw[List.append_assoc,List.getElem?_append_left (by omega)] at hu
  exact old u (flatV_take5 _ _ _ _ hu) (.inl c)
 ·rcases Nat.lt_or_ge j (s*5+n*5) with c2 | c2
  ·rw[List.getElem?_append_left (by rw[List.length_append];omega),List.getElem?_append_right (by omega),l1] at hu
   have:=hl _ u hu
   rwa [show s*5+(j - s*5)=j by omega] at this
  ·rw[List.getElem?_append_right (by rw[List.length_append];omega),List.length_append,l1,l2,flatV_drop5,show (s+n)*5+(j - (s*5+n*5))=j by omega] at hu
   exact old u hu (.inr c2)
structure PIn (w0:World) (dd mm:Nat) (D:List (V5 × Cel)):Prop where
 rd:∀ p ∈ D,Reads w0 p.1 p.2∧p.2.key.length=dd
 ev:∀ p ∈ D,EvenC mm p.2
theorem PIn.perm {w0:World} {dd mm:Nat} {D D':List (V5 × Cel)} (h:PIn w0 dd mm D) (hp:D'.Perm D):PIn w0 dd mm D':=⟨fun p hm=>h.rd p (hp.mem_iff.1 hm),fun p hm=>h.ev p (hp.mem_iff.1 hm)⟩
def AddPost (B G blk s n a f slots parts:Nat) (D:List (V5 × Cel)) (outv:Value) (J:List Cel) (w:World) (e:Ending) (w':World):Prop :=
 (∃ v,e=.returned v)∧∃ (outv':Value) (us':List V5) (D':List (V5 × Cel)),Gs B w' G slots outv' us' (J ++ (partsP slots f a ((seg D s n).map (·.2))).flatten) (parts+(partsP slots f a ((seg D s n).map (·.2))).length)∧OutRel outv w outv'∧Tch (fun b=>b=G∨b=blk∨outv.ownBlock=some b) w w'∧HoldsL w' blk 0 (D'.map (·.1))∧TyC w' blk∧D'.Perm D∧D'.take s=D.take s∧D'.drop (s+n)=D.drop (s+n)
def AddSpec (F:Nat):Prop:=∀ (w0 w:World) (blk G s n c a f dd mm slots parts:Nat) (D:List (V5 × Cel)) (outv:Value) (us:List V5) (J:List Cel),f<F→a+f=dd→dd≤1000→mm≤1000000→1≤slots→slots≤10000→PIn w0 dd mm D→Fit dd a ((seg D s n).map (·.2))→s+n≤D.length→D.length≤60→n≤c→1≤n→Keeps w0 w→w0.heap.size≤blk→HoldsL w blk 0 (D.map (·.1))→TyC w blk→Gs w0.heap.size w G slots outv us J parts→blk ≠ G→outv.ownBlock ≠ some blk→J.length+n≤100000→parts+n≤100000 →
 Calls Tryz.prog 71 #[.pointer (some ⟨G,0,none⟩),.agg #[.slice (some ⟨blk,s*5,none⟩) n c,.int .i64 a]] w fun e w'=>AddPost w0.heap.size G blk s n a f slots parts D outv J w e w'
end Go.Proofs.YtnjlkhhcfiedbaaGreatDoor
namespace Go.Proofs.YtnjlkhhcfiedbaaGreatDoor
open Go.RowKit
theorem HoldsL.below {w w':World} {blk off:Nat} {vs:List V5} (h:HoldsL w blk off vs) (hb:Below w.heap.size w w'):HoldsL w' blk off vs:=fun j u hu=>by
 have hl:=block_lt (h j u hu).1
 exact⟨by rw[hb.cell (by exact hl)];exact (h j u hu).1,by rw[hb.frozen (by exact hl)];exact (h j u hu).2⟩
theorem runs_fit {d a:Nat} {l:List Cel} (h:Fit d a l) (hb:a<d) (hr:RiseV a l):∀ p ∈ runsK a l.length l,Fit d (a+1) p∧p ≠ []:=fun p hp=>by
 rw[runs_by a 16 l.length 0 l (Nat.le_refl _) rfl hr (fun x hx=>by have:=valK_in h hb hx;omega)] at hp
 obtain⟨h1,h2⟩:=List.mem_filter.1 hp
 obtain⟨v,-,rfl⟩:=List.mem_map.1 h1
 refine⟨h.by hb,fun e=>?_⟩
 rw[e] at h2
 cases h2
theorem rowP_at (blk off c:Nat) (q:Int):∀ (ns:List Nat) (s0 k m:Nat),ns[k]? = some m→(rowP blk off c q s0 ns)[k*2]? = some (.slice (some ⟨blk,off+(s0+(ns.take k).sum)*5,none⟩) m (c - (s0+(ns.take k).sum)))∧(rowP blk off c q s0 ns)[k*2+1]? = some (.int .i64 q)
 | [],_,_,_,h=>by simp at h
 | n :: ns,s0,0,m,h=>by
  simp only[List.getElem?_cons_zero,Option.some.injEq] at h
  subst h
  simp[rowP]
 | n :: ns,s0,k+1,m,h=>by
  rw[List.getElem?_cons_succ] at h
  obtain⟨h1,h2⟩:=rowP_at blk off c q ns (s0+n) k m h
  rw[show (k+1)*2=k*2+1+1 by omega]
  simp only[rowP,List.getElem?_cons_succ,List.take_succ_cons,List.sum_cons]
  rw[h1,h2,Nat.add_assoc]
  exact⟨rfl,rfl⟩
theorem cuts_len (ns:List Nat):∀ L:List Cel,(cuts ns L).length=ns.length:=by
 induction ns with
 | nil=>intro L;rfl
 | cons n ns ih=>intro L;simp[cuts,ih]
theorem cuts_flat:∀ (ns:List Nat) (L:List Cel),(cuts ns L).flatten.length≤ns.sum
 | [],_=>Nat.le_refl _
 | n :: ns,L=>by
  have:=cuts_flat ns (L.drop n)
  simp only[cuts,List.flatten_cons,List.length_append,List.length_take,List.sum_cons]
  omega
theorem cuts_take:∀ (k:Nat) (ns:List Nat) (L:List Cel),cuts (ns.take k) L=(cuts ns L).take k
 | 0,_,_=>by simp[cuts]
 | k+1,[],_=>by simp[cuts]
 | k+1,n :: ns,L=>by simp[cuts,cuts_take k ns (L.drop n)]
theorem cuts_at:∀ (ns:List Nat) (L:List Cel) (k m:Nat),ns[k]? = some m→(cuts ns L)[k]? = some ((L.drop (ns.take k).sum).take m)
 | [],_,_,_,h=>by simp at h
 | n :: ns,L,0,m,h=>by
  simp only[List.getElem?_cons_zero,Option.some.injEq] at h
  subst h
  simp[cuts]
 | n :: ns,L,k+1,m,h=>by
  rw[List.getElem?_cons_succ] at h
  have:=cuts_at ns (L.drop n) k m h
  simp only[cuts,List.getElem?_cons_succ,List.take_succ_cons,List.sum_cons,this,List.drop_drop]
theorem sum_take:∀ (ns:List Nat) (k m:Nat),ns[k]? = some m→(ns.take (k+1)).sum=(ns.take k).sum+m
 | ns,k,m,h=>by rw[List.take_add_one,h,Option.toList_some,List.sum_append];simp
theorem sum_take_le:∀ (ns:List Nat) (k:Nat),(ns.take k).sum≤ns.sum
 | [],k=>by simp
 | n :: ns,0=>by simp
 | n :: ns,k+1=>by have:=sum_take_le ns k;simp only[List.take_succ_cons,List.sum_cons];omega
theorem pieces_le {slots d f a:Nat} (hs:1≤slots) (hd:a+f=d):∀ ps:List (List Cel),(∀ p ∈ ps,Fit d a p∧p ≠ [])→(ps.flatMap (partsP slots f a)).length≤ps.flatten.length∧(ps.flatMap (partsP slots f a)).flatten.length≤ps.flatten.length
 | [],_=>⟨Nat.le_refl _,Nat.le_refl _⟩
 | p :: ps,h=>by
  obtain⟨h1,h2⟩:=pieces_le hs hd ps fun q hq=>h q (by simp[hq])
  obtain⟨h3,h4⟩:=h p (by simp)
  have h5:=parts_lenH hs hd h3 h4
  have h6:=grp_len_le p
  rw[List.flatMap_cons,List.flatten_append,List.flatten_cons,List.length_append,List.length_append,List.length_append,parts_flat slots d f a p hd h3]
  omega
theorem seg_in {D mid:List (V5 × Cel)} {s n sk m:Nat} (hm:mid.length=n) (hs:s+n≤D.length) (hk:sk+m≤n):seg (spl3 D mid s n) (s+sk) m=(mid.drop sk).take m:=by
 unfold seg spl3
 rw[List.append_assoc,← List.drop_drop,List.drop_append_of_le_length (by rw[List.length_take];omega),List.drop_of_length_le (l:=D.take s) (by rw[List.length_take];omega),List.nil_append,List.drop_append_of_le_length (by omega),List.take_append_of_le_length (by rw[List.length_drop];omega)]
theorem seg_drop {D D':List (V5 × Cel)} {s n:Nat} (h:D'.drop s=D.drop s):seg D' s n=seg D s n:=by unfold seg;rw[h]
theorem take_less {D D':List (V5 × Cel)} {s t:Nat} (h:D'.take t=D.take t) (hs:s≤t):D'.take s=D.take s:=by
 have:=congrArg (List.take s) h
 rwa [List.take_take,List.take_take,Nat.min_eq_left hs] at this
theorem drop_more {D D':List (V5 × Cel)} {s t:Nat} (h:D'.drop s=D.drop s) (hs:s≤t):D'.drop t=D.drop t:=by
 have:=congrArg (List.drop (t - s)) h
 rwa [List.drop_drop,List.drop_drop,show s+(t - s)=t by omega] at this
end Go.Proofs.YtnjlkhhcfiedbaaGreatDoor

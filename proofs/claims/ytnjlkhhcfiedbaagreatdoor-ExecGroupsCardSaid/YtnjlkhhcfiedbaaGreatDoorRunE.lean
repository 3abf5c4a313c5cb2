import Derived.Shelf.SlSortCmp.KitK
import Derived.IntWalk
import Derived.Test.YtnjlkhhcfiedbaaGreatDoorSl
import Derived.Test.YtnjlkhhcfiedbaaGreatDoorSortC
import Derived.Test.YtnjlkhhcfiedbaaGreatDoorCcmp
import Derived.Test.YtnjlkhhcfiedbaaGreatDoorHshd
namespace Go.Proofs.YtnjlkhhcfiedbaaGreatDoor
open Go.RowKit Go.Shelf Go.Sort Go.Lib
attribute [local go_sem] Oper.semAt_some
abbrev QO (w0:World) (B:Nat) (w:World):V5 × Cel→Prop:=fun p=>(Reads w0 p.1 p.2∨OwnC B w p.1 p.2)∧p.2.key.length≤1000000
def cfK {Q:V5 × Cel→Prop} (p q:SP Q):Int:=cmpL p.1.2.key q.1.2.key
theorem swoK {Q:V5 × Cel→Prop}:SWO (ltOf (cfK (Q:=Q))) where
 irrefl x:=by simp[ltOf,cfK,cmpL_self]
 trans x y z h1 h2:=by
  have a:=of_decide_eq_true h1
  have b:=of_decide_eq_true h2
  refine decide_eq_true ?_
  unfold cfK at *
  have c:=cmpL_trans (Int.le_of_lt a) (Int.le_of_lt b)
  rcases Int.lt_or_eq_of_le c with h | h
  ·exact h
  ·rw[← cmpL_zero.1 h] at b
   have:=cmpL_anti x.1.2.key y.1.2.key
   omega
 ntrans x y z h1 h2:=by
  have a:=of_decide_eq_false h1
  have b:=of_decide_eq_false h2
  refine decide_eq_false ?_
  unfold cfK at *
  have e1:=cmpL_anti x.1.2.key y.1.2.key
  have e2:=cmpL_anti y.1.2.key z.1.2.key
  have e3:=cmpL_anti x.1.2.key z.1.2.key
  have:=cmpL_trans (s:=z.1.2.key) (t:=y.1.2.key) (u:=x.1.2.key) (by omega) (by omega)
  omega
theorem sorted_grp {l J:List Cel} (hp:l.Perm J) (ha:J.Pairwise fun x y=>x.key ≠ y.key) (hs:l.Pairwise fun x y=>cmpL x.key y.key≤0):l=grpR J:=by
 have ha2:l.Pairwise fun x y=>x.key ≠ y.key:=(hp.symm.pairwise_iff (fun {a b} h e=>h e.symm)).1 ha
 have hr:RiseC l:=by
  refine (hs.and ha2).imp ?_
  rintro a b ⟨h1,h2⟩
  rcases Int.lt_or_eq_of_le h1 with h | h
  ·exact h
  ·exact absurd (cmpL_zero.1 h) h2
 rw[← grpR_perm hp]
 exact (grp_same l [] (by simpa using hr)).symm
theorem mk_rdo {w0:World} {B:Nat} {w:World}:∀ {vs:List V5} {l:List Cel},RdO w0 B w vs l→(∀ x ∈ l,x.key.length≤1000000)→∃ D:List (V5 × Cel),D.map (·.1)=vs∧D.map (·.2)=l∧∀ p ∈ D,QO w0 B w p
 | [],[],_,_=>⟨[],rfl,rfl,fun p hp=>by cases hp⟩
 | [],_ :: _,h,_=>by have:=h.1;simp at this
 | _ :: _,[],h,_=>by have:=h.1;simp at this
 | v :: vs,x :: l,h,hk=>by
  obtain⟨D,h1,h2,h3⟩:=mk_rdo (vs:=vs) (l:=l) ⟨by have:=h.1;simpa using this,fun i u y hu hy=>h.2 (i+1) u y (by simpa using hu) (by simpa using hy)⟩ fun y hy=>hk y (List.mem_cons_of_mem _ hy)
  refine⟨(v,x) :: D,by simp[h1],by simp[h2],fun p hp=>?_⟩
  rcases List.mem_cons.1 hp with rfl | hp
  ·exact⟨h.2 0 v x rfl rfl,hk x (by simp)⟩
  ·exact h3 p hp
theorem cells_sortWorld {α:Type} [Inhabited α] (enc:α→List Value) (blk off m:Nat) (d:Array α) (os:Array Obj) (w:World) {cur:Array Value} {T:TypeId} (h:w.heap[blk]? = some (.cells cur T (0,0))):∃ cur':Array Value,(sortWorldK enc 5 w blk off m d os).heap[blk]? = some (.cells cur' T (0,0))∧cur'.size=cur.size:=by
 have hl:=(Array.getElem?_eq_some_iff.1 h).1
 unfold sortWorldK
 rw[heap_grow_old _ _ (by rw[size_putRowK];exact hl)]
 have hc2:(Sort.ahead w m).heap[blk]? = some (.cells cur T (0,0)):=h
 simp only[putRowK,putRow,mapBlock,Array.getElem?_modify,if_true,hc2,Option.map_some]
 exact⟨_,rfl,by simp[putCells]⟩
theorem row_sorted {B g c N:Nat} {vs us:List V5} {w w':World} (ho:w.ownsRow B 46 5 (.slice (some ⟨g,0,none⟩) N c) N (flatV vs)) (hN:us.length=N) (hc:∀ j u,(flatV us)[j]? = some u→w'.cell? ⟨g,j,none⟩=some u)
  (hh:∃ cur':Array Value,w'.heap[g]? = some (.cells cur' 46 (0,0))∧∀ cur,w.heap[g]? = some (.cells cur 46 (0,0))→cur'.size=cur.size):w'.ownsRow B 46 5 (.slice (some ⟨g,0,none⟩) N c) N (flatV us):=by
 have hfl:(flatV us).length=N*5:=by rw[flatV_len,hN]
 rcases ho.2 with ⟨e,_⟩ | ⟨g',cap,cur,e,h2,h3,h4,h5,h6,-⟩
 ·cases e
 ·injection e with e1 e2 e3
  injection e1 with e1
  injection e1 with e1
  subst e1 e3
  obtain⟨cur',h7,h8⟩:=hh
  have h9:=h8 cur h3
  refine⟨hfl,.inr ⟨g,c,cur',rfl,h2,h7,h4,h5,by rw[h9,h6],?_⟩⟩
  apply List.ext_getElem?
  intro j
  rw[List.getElem?_take]
  rcases Nat.lt_or_ge j (N*5) with hj | hj
  ·rw[if_pos hj]
   have hu:=List.getElem?_eq_getElem (l:=flatV us) (i:=j) (by omega)
   have:=hc j _ hu
   rw[cell_of_row w' g j cur' 46 (0,0) h7] at this
   rw[hu,Array.getElem?_toList]
   exact this
  ·rw[if_neg (by omega),List.getElem?_eq_none (by omega)]
set_option maxRecDepth 100000 in
set_option maxHeartbeats 1000000 in
theorem csort_any (w0:World) (B B1 g c N:Nat) (vs:List V5) (J:List Cel) (w:World) (hb0:Below w0.heap.size w0 w) (hg0:w0.heap.size≤g) (ho:w.ownsRow B1 46 5 (.slice (some ⟨g,0,none⟩) N c) N (flatV vs)) (hL:RdO w0 B w vs J) (hkl:∀ x ∈ J,x.key.length≤1000000) (hN:vs.length=N) (hn1:1≤N) (hn:N≤1000000) (hap:J.Pairwise fun x y=>x.key ≠ y.key) :
  Calls Tryz.prog 91 #[.slice (some ⟨g,0,none⟩) N c,.func (.func 92) #[] #[]] w fun e w'=>e=.returned (.tuple #[])∧∃ us:List V5,us.length=N∧(∀ j u,(flatV us)[j]? = some u→w'.cell? ⟨g,j,none⟩=some u)∧RdO w0 B w' us (grpR J)∧Tch (fun b=>b=g) w w'∧w'.ownsRow B1 46 5 (.slice (some ⟨g,0,none⟩) N c) N (flatV us):=by
 obtain⟨D,hD1,hD2,hQ⟩:=mk_rdo hL hkl
 obtain⟨dl,hd1⟩:=mk_sp (Q:=QO w0 B w) hQ
 have hpos:0<dl.length:=by rw[← List.length_map (f:=fun p:SP _=>p.1),hd1,← List.length_map (f:=fun p:V5 × Cel=>p.1),hD1,hN];exact hn1
 haveI:Inhabited (SP (QO w0 B w)):=⟨dl[0]⟩
 obtain⟨d,rfl⟩:∃ d:Array (SP (QO w0 B w)),dl=d.toList:=⟨dl.toArray,by simp⟩
 have hv1:vs=d.toList.map fun p=>p.1.1:=by rw[← hD1,← hd1,List.map_map];rfl
 have hsz:d.size=N:=by rw[← hN,hv1];simp
 have ho0:=ho
 obtain⟨cur,hh,hcur⟩:∃ cur,w.heap[g]? = some (.cells cur 46 (0,0))∧cur.toList.take (N*5)=flatV vs:=by
  rcases ho.2 with ⟨e,_⟩ | ⟨g',cap,cur,e,_,h3,_,_,_,h7⟩
  ·cases e
  ·injection e with e1 _ _
   injection e1 with e1
   injection e1 with e1
   subst e1
   exact⟨cur,h3,h7⟩
 have hgs:g<w.heap.size:=(Array.getElem?_eq_some_iff.1 hh).1
 have hcell:∀ j u,(flatV vs)[j]? = some u→w.cell? ⟨g,j,none⟩=some u:=fun j u hu=>by
  rw[← hcur,List.getElem?_take] at hu
  split at hu
  ·simpa [World.cell?,hh] using hu
  ·cases hu
 have hHK:HoldsK encS 5 w g 0 d:=fun j hj=>by
  rw[size_flatK] at hj
  rw[Nat.zero_add]
  exact⟨hcell _ _ (by rw[hv1];exact flat_someS d j hj),by simp[World.frozen?,hh]⟩
 have hni:NotInt w g:=notint_row ho rfl (by decide)
 have hoS:∀ (m:Nat) (dk:Array (SP (QO w0 B w))) (os:Array Obj) {u:V5} {x:Cel},(Reads w0 u x∨OwnC B w u x)→Reads w0 u x∨OwnC B (sortWorldK encS 5 w g 0 m dk os) u x:=fun m dk os {u x} o=>o.imp id fun o=>o.stay fun q=>q.tchN (tch_sortWorld encS g 0 m dk os w) fun k hk=>by rw[hk];exact hni
 have hbS:∀ (m:Nat) (dk:Array (SP (QO w0 B w))) (os:Array Obj),Below w0.heap.size w0 (sortWorldK encS 5 w g 0 m dk os):=fun m dk os=>hb0.trans ((tch_sortWorld encS g 0 m dk os w).below (fun k hk=>by rw[hk];exact hg0) hb0.size)
 have hcS:∀ (m:Nat) (dk:Array (SP (QO w0 B w))) (os:Array Obj) {u:V5} {x:Cel},(Reads w0 u x∨OwnC B w u x)→Reads (sortWorldK encS 5 w g 0 m dk os) u x:=fun m dk os {u x} o=>by
  rcases hoS m dk os o with h | h
  ·exact h.keep (Keeps.of_below (hbS m dk os))
  ·exact h.reads
 have hcmp:CmpLays Tryz.prog 92 #[] encS 5 cfK g 0 d.size w:=fun m os dk _ (x y:SP (QO w0 B w))=>by
  obtain⟨⟨⟨a1,b1,s,n,mm⟩,cx⟩,hx0,hx⟩:=x
  obtain⟨⟨⟨a',b',s',n',mm'⟩,cy⟩,hy0,hy⟩:=y
  obtain⟨h1,h2,-⟩:=hcS m dk os hx0
  obtain⟨h1',h2',-⟩:=hcS m dk os hy0
  dsimp only at h1 h2 h1' h2' hx hy
  subst h1 h1'
  refine (ccmp_grow a1 s n mm a' s' n' mm' cx cy (sortWorldK encS 5 w g 0 m dk os) h2 h2' hx hy).mono ?_
  rintro e w' ⟨rfl,os',rfl⟩
  exact⟨rfl,0,os',rfl⟩
 have hone:∀ x:SP (QO w0 B w),∀ v ∈ x.1.1.l,v.oneCell'=true:=fun x v hv=>(hcS 0 d #[] x.2.1).one v hv
 have hs:=AnyQ.slices_SortFunc sortCl 5 (show ∀ w,(isAgg 46).run Tryz.prog w=.ok true w from fun _=>by go_simp) (show ∀ w,(Go.sizeOf 46).run Tryz.prog w=.ok 5 w from fun _=>by go_simp) encS (fun x=>rfl) (fun x v hv=>hone x v hv) cfK swoK 92 #[] g 0 c d w (enters_of Tryz.func92 (by kernel_rfl) rfl) hcmp hHK hgs (by omega)
 rw[hsz] at hs
 refine hs.mono ?_
 rintro e w3 ⟨rfl,d',q,os,P,Q,rfl⟩
 have hs':d'.size=d.size:=P.1
 have hH':=holdsK_sortWorldK_c encS 5 w g 0 d d' q os hHK hgs hs'
 have hperm:(d'.toList.map fun p=>p.1).Perm D:=by
  rw[← hd1]
  have hp:=P.2.2
  rw[show N=d.size from hsz.symm] at hp
  have e1:(d.extract 0 d.size).toList=d.toList:=by simp
  have e2:(d'.extract 0 d.size).toList=d'.toList:=by rw[← hs'];simp
  rw[e1,e2] at hp
  exact hp.map _
 have hg:(d'.toList.map fun p=>p.1.2)=grpR J:=by
  refine sorted_grp ?_ hap ?_
  ·rw[← hD2]
   have:=hperm.map (fun p:V5 × Cel=>p.2)
   rwa [List.map_map] at this
  ·rw[List.pairwise_iff_getElem]
   intro i j hi hj hij
   simp only[List.length_map,Array.length_toList] at hi hj
   have h:=Q i j (Nat.zero_le _) hij (by omega)
   rw[getElem!_pos d' i hi,getElem!_pos d' j hj] at h
   have h2:=of_decide_eq_false h
   unfold cfK at h2
   simp only[List.getElem_map,Array.getElem_toList]
   have:=cmpL_anti d'[i].1.2.key d'[j].1.2.key
   omega
 have hcells:∀ j u,(flatV (d'.toList.map fun p=>p.1.1))[j]? = some u→(sortWorldK encS 5 w g 0 q d' os).cell? ⟨g,j,none⟩=some u:=fun j u hu=>by
  obtain⟨hj,e⟩:=flat_atS d' j u hu
  have h1:=(hH' j (by rw[size_flatK];exact hj)).1
  rw[Nat.zero_add] at h1
  rw[h1,e];rfl
 refine⟨rfl,d'.toList.map fun p=>p.1.1,by simp;omega,hcells,?_,tch_sortWorld encS g 0 q d' os w,row_sorted ho0 (by simp;omega) hcells (by
  obtain⟨cur',h1,h2⟩:=cells_sortWorld encS g 0 q d' os w hh
  exact⟨cur',h1,fun cur2 h=>by
   rw[hh] at h
   injection h with h
   injection h with h _ _
   rw[← h];exact h2⟩)⟩
 ·rw[← hg]
  refine⟨by simp,fun i v x hv hx=>?_⟩
  simp only[List.getElem?_map,Option.map_eq_some_iff] at hv hx
  obtain⟨p,hp,rfl⟩:=hv
  obtain⟨p',hp',rfl⟩:=hx
  rw[hp] at hp'
  injection hp' with hp'
  subst hp'
  exact hoS q d' os p.2.1
end Go.Proofs.YtnjlkhhcfiedbaaGreatDoor
namespace Go.Proofs.YtnjlkhhcfiedbaaGreatDoor
open Go.RowKit
attribute [local go_sem] Oper.semAt_some
set_option maxRecDepth 100000 in
set_option maxHeartbeats 4000000 in
theorem rcloned_any (k s n m:Value) (x:Cel) (w:World) (hx:CR w k s n m x) (h1:x.key.length≤1000000) (h2:x.sum.length≤1000000) (h3:x.mn.length≤1000000) (h4:x.mx.length≤1000000) :
  Calls Tryz.prog 93 #[.agg #[k,.int .i64 x.cnt,s,n,m]] w fun e w'=>∃ k' s' n' m',e=.returned (.agg #[k',.int .i64 x.cnt,s',n',m'])∧CO w.heap.size w' k' s' n' m' x∧Ap4 k' s' n' m'∧Below w.heap.size w w':=by
 obtain⟨⟨Pk,ck,rfl,hk⟩,⟨Ps,cs,rfl,hs⟩,⟨Pn,cn,rfl,hn⟩,⟨Pm,cm,rfl,hm⟩⟩:=hx
 have Rk:Hid (RI w (.slice Pk x.key.length ck) x.key):=Lib.hid ⟨_,_,rfl,hk⟩
 have Rs:Hid (RI w (.slice Ps x.sum.length cs) x.sum):=Lib.hid ⟨_,_,rfl,hs⟩
 have Rn:Hid (RI w (.slice Pn x.mn.length cn) x.mn):=Lib.hid ⟨_,_,rfl,hn⟩
 have Rm:Hid (RI w (.slice Pm x.mx.length cm) x.mx):=Lib.hid ⟨_,_,rfl,hm⟩
 clear hk hs hn hm
 have L1:=Lib.hid h1
 have L2:=Lib.hid h2
 have L3:=Lib.hid h3
 have L4:=Lib.hid h4
 clear h1 h2 h3 h4
 generalize hlk:x.key.length=lk at Rk ⊢
 generalize hls:x.sum.length=ls at Rs ⊢
 generalize hln:x.mn.length=ln at Rn ⊢
 generalize hlm:x.mx.length=lm at Rm ⊢
 generalize hcnt:x.cnt=cnt at *
 clear hlk hls hln hlm hcnt
 have o1:Own 46 ((w.alloc (.cells #[.slice Pk lk ck,.int .i64 cnt,.slice Ps ls cs,.slice Pn ln cn,.slice Pm lm cm] 46)).alloc (.cells #[.slice none 0 0,.int .i64 0,.slice none 0 0,.slice none 0 0,.slice none 0 0] 46)) w.heap.size [.slice Pk lk ck,.int .i64 cnt,.slice Ps ls cs,.slice Pn ln cn,.slice Pm lm cm] :=
  (show Own 46 (w.alloc (.cells #[.slice Pk lk ck,.int .i64 cnt,.slice Ps ls cs,.slice Pn ln cn,.slice Pm lm cm] 46)) w.heap.size [.slice Pk lk ck,.int .i64 cnt,.slice Ps ls cs,.slice Pn ln cn,.slice Pm lm cm] from heap_alloc_new w _).below ((Below.refl _ _).alloc (Nat.le_refl _) _) (by simp)
 have o2:Own 46 ((w.alloc (.cells #[.slice Pk lk ck,.int .i64 cnt,.slice Ps ls cs,.slice Pn ln cn,.slice Pm lm cm] 46)).alloc (.cells #[.slice none 0 0,.int .i64 0,.slice none 0 0,.slice none 0 0,.slice none 0 0] 46)) (w.heap.size+1) [.slice none 0 0,.int .i64 0,.slice none 0 0,.slice none 0 0,.slice none 0 0]:=by
  have:=heap_alloc_new (w.alloc (.cells #[.slice Pk lk ck,.int .i64 cnt,.slice Ps ls cs,.slice Pn ln cn,.slice Pm lm cm] 46)) (.cells #[.slice none 0 0,.int .i64 0,.slice none 0 0,.slice none 0 0,.slice none 0 0] 46)
  rw[show (w.alloc (.cells #[.slice Pk lk ck,.int .i64 cnt,.slice Ps ls cs,.slice Pn ln cn,.slice Pm lm cm] 46)).heap.size=w.heap.size+1 from by simp] at this
  exact this
 have hb:Below w.heap.size w ((w.alloc (.cells #[.slice Pk lk ck,.int .i64 cnt,.slice Ps ls cs,.slice Pn ln cn,.slice Pm lm cm] 46)).alloc (.cells #[.slice none 0 0,.int .i64 0,.slice none 0 0,.slice none 0 0,.slice none 0 0] 46)):=((Below.refl _ w).alloc (Nat.le_refl _) _).alloc (by simp) _
 have hz:((w.alloc (.cells #[.slice Pk lk ck,.int .i64 cnt,.slice Ps ls cs,.slice Pn ln cn,.slice Pm lm cm] 46)).alloc (.cells #[.slice none 0 0,.int .i64 0,.slice none 0 0,.slice none 0 0,.slice none 0 0] 46)).heap.size=w.heap.size+2:=by simp
 have O1:=Lib.hid o1
 have O2:=Lib.hid o2
 have Hb:=Lib.hid hb
 have Hz:=Lib.hid hz
 clear o1 o2 hb hz
 go_enter Tryz.func93,Tryz.ntmps93
 go_upto_region 1 with (fail)
 generalize (w.alloc (.cells #[.slice Pk lk ck,.int .i64 cnt,.slice Ps ls cs,.slice Pn ln cn,.slice Pm lm cm] 46)).alloc (.cells #[.slice none 0 0,.int .i64 0,.slice none 0 0,.slice none 0 0,.slice none 0 0] 46)=W1 at O1 O2 Hb Hz ⊢
 obtain⟨b,eb⟩:∃ b,b=w.heap.size:=⟨_,rfl⟩
 rw[← eb] at O1 O2 ⊢
 have Eb:=Lib.hid eb
 clear eb
 have bx0:=O1.out.bx
 refine wp_region_held_drew (S:=fun W=>Bx W b (.slice Pk lk ck) (.int .i64 cnt) (.slice Ps ls cs) (.slice Pn ln cn) (.slice Pm lm cm)) (by kernel_rfl) (show Bx W1.drew b _ _ _ _ _ from bx0) (fun hHeld=>?_)
 refine WTH (i:=0) (v:=?va0) ?ya0 hHeld ?ra0
 case ya0=>(intro W hW;obtain⟨h0,h1,h2,h3,h4⟩:=hW;go_simp;first | done | with_reducible rfl)
 try simp only[SL,Act.put]
 refine WTH (i:=1) (v:=?va1) ?ya1 hHeld ?ra1
 case ya1=>(intro W hW;obtain⟨h0,h1,h2,h3,h4⟩:=hW;go_simp;first | done | with_reducible rfl)
 try simp only[SL,Act.put]
 refine WTH (i:=3) (v:=?va3) ?ya3 hHeld ?ra3
 case ya3=>(intro W hW;obtain⟨h0,h1,h2,h3,h4⟩:=hW;go_simp;first | done | with_reducible rfl)
 try simp only[SL,Act.put]
 refine WTH (i:=4) (v:=?va4) ?ya4 hHeld ?ra4
 case ya4=>(intro W hW;obtain⟨h0,h1,h2,h3,h4⟩:=hW;go_simp;first | done | with_reducible rfl)
 try simp only[SL,Act.put]
 refine WTH (i:=5) (v:=?va5) ?ya5 hHeld ?ra5
 case ya5=>(intro W hW;obtain⟨h0,h1,h2,h3,h4⟩:=hW;go_simp;first | done | with_reducible rfl)
 try simp only[SL,Act.put]
 refine WTH (i:=6) (v:=?va6) ?ya6 hHeld ?ra6
 case ya6=>(intro W hW;obtain⟨h0,h1,h2,h3,h4⟩:=hW;go_simp;first | done | with_reducible rfl)
 try simp only[SL,Act.put]
 refine WTH (i:=8) (v:=?va8) ?ya8 hHeld ?ra8
 case ya8=>(intro W hW;obtain⟨h0,h1,h2,h3,h4⟩:=hW;go_simp;first | done | with_reducible rfl)
 try simp only[SL,Act.put]
 refine WTH (i:=9) (v:=?va9) ?ya9 hHeld ?ra9
 case ya9=>(intro W hW;obtain⟨h0,h1,h2,h3,h4⟩:=hW;go_simp;first | done | with_reducible rfl)
 try simp only[SL,Act.put]
 refine WTH (i:=11) (v:=?va11) ?ya11 hHeld ?ra11
 case ya11=>(intro W hW;obtain⟨h0,h1,h2,h3,h4⟩:=hW;go_simp;first | done | with_reducible rfl)
 try simp only[SL,Act.put]
 refine WTH (i:=12) (v:=?va12) ?ya12 hHeld ?ra12
 case ya12=>(intro W hW;obtain⟨h0,h1,h2,h3,h4⟩:=hW;go_simp;first | done | with_reducible rfl)
 try simp only[SL,Act.put]
 refine wpAnyH_ready (rs:=[2]) (by kernel_rfl) (by simp) ?_
 refine AllReadyH.cons rfl (fun K hK=>?_) (AllReadyH.nil)
 go_simp
 refine (clone_any _ x.key W1.drew (Rk.out.keep (show Keeps w W1.drew from (Keeps.of_below Hb.out).drewN 1)) L1.out).mono ?_
 rintro e V1 ⟨v1,rfl,ho1,hb1⟩
 have B1:=Lib.hid ((below_drewN Hb.out 1).trans (hb1.mono Hb.out.size))
 have D1:=Lib.hid (show Below W1.heap.size W1 V1 from (below_drewN (Below.refl _ _) 1).trans hb1)
 have Q1:=Lib.hid (ho1.mono (show w.heap.size≤W1.drew.heap.size from Hb.out.size))
 clear ho1 hb1
 go_wp2_with fail
 refine hK.out _ _ (bx0.keep (Keeps.of_below D1.out)) (fun hHeld=>?_)
 clear hK K
 try simp only[SL,Act.put]
 refine wpAnyH_ready (rs:=[7]) (by kernel_rfl) (by simp) ?_
 refine AllReadyH.cons rfl (fun K hK=>?_) (AllReadyH.nil)
 go_simp
 refine (clone_any _ x.sum V1 (Rs.out.keep (Keeps.of_below B1.out)) L2.out).mono ?_
 rintro e V2 ⟨v2,rfl,ho1,hb1⟩
 have B2:=Lib.hid (B1.out.trans (hb1.mono B1.out.size))
 have D2:=Lib.hid (D1.out.trans (hb1.mono D1.out.size))
 have Q1_:=Lib.hid (Q1.out.below hb1)
 have A12:Ap v1 v2:=Q1.out.ap ho1 (Nat.le_refl _)
 have Q2:=Lib.hid (ho1.mono (show w.heap.size≤V1.heap.size from B1.out.size))
 clear ho1 hb1
 go_wp2_with fail
 refine hK.out _ _ (bx0.keep (Keeps.of_below D2.out)) (fun hHeld=>?_)
 clear hK K
 try simp only[SL,Act.put]
 refine wpAnyH_ready (rs:=[10]) (by kernel_rfl) (by simp) ?_
 refine AllReadyH.cons rfl (fun K hK=>?_) (AllReadyH.nil)
 go_simp
 refine (clone_any _ x.mn V2 (Rn.out.keep (Keeps.of_below B2.out)) L3.out).mono ?_
 rintro e V3 ⟨v3,rfl,ho1,hb1⟩
 have B3:=Lib.hid (B2.out.trans (hb1.mono B2.out.size))
 have D3:=Lib.hid (D2.out.trans (hb1.mono D2.out.size))
 have Q1__:=Lib.hid (Q1_.out.below hb1)
 have Q2_:=Lib.hid (Q2.out.below hb1)
 have A13:Ap v1 v3:=Q1_.out.ap ho1 (Nat.le_refl _)
 have A23:Ap v2 v3:=Q2.out.ap ho1 (Nat.le_refl _)
 have Q3:=Lib.hid (ho1.mono (show w.heap.size≤V2.heap.size from B2.out.size))
 clear ho1 hb1
 go_wp2_with fail
 refine hK.out _ _ (bx0.keep (Keeps.of_below D3.out)) (fun hHeld=>?_)
 clear hK K
 try simp only[SL,Act.put]
 refine wpAnyH_ready (rs:=[13]) (by kernel_rfl) (by simp) ?_
 refine AllReadyH.cons rfl (fun K hK=>?_) (AllReadyH.nil)
 go_simp
 refine (clone_any _ x.mx V3 (Rm.out.keep (Keeps.of_below B3.out)) L4.out).mono ?_
 rintro e V4 ⟨v4,rfl,ho1,hb1⟩
 have B4:=Lib.hid (B3.out.trans (hb1.mono B3.out.size))
 have D4:=Lib.hid (D3.out.trans (hb1.mono D3.out.size))
 have Q1___:=Lib.hid (Q1__.out.below hb1)
 have Q2__:=Lib.hid (Q2_.out.below hb1)
 have Q3_:=Lib.hid (Q3.out.below hb1)
 have A14:Ap v1 v4:=Q1__.out.ap ho1 (Nat.le_refl _)
 have A24:Ap v2 v4:=Q2_.out.ap ho1 (Nat.le_refl _)
 have A34:Ap v3 v4:=Q3.out.ap ho1 (Nat.le_refl _)
 have Q4:=Lib.hid (ho1.mono (show w.heap.size≤V3.heap.size from B3.out.size))
 clear ho1 hb1
 go_wp2_with fail
 refine hK.out _ _ (bx0.keep (Keeps.of_below D4.out)) (fun hHeld=>?_)
 clear hK K
 try simp only[SL,Act.put]
 obtain⟨P1,c1,e1,-⟩:=Q1___.out.form
 obtain⟨P2,c2,e2,-⟩:=Q2__.out.form
 obtain⟨P3,c3,e3,-⟩:=Q3_.out.form
 obtain⟨P4,c4,e4,-⟩:=Q4.out.form
 subst e1 e2 e3 e4
 have HAp:=Lib.hid (show Ap4 _ _ _ _ from ⟨A12,A13,A14,A23,A24,A34⟩)
 clear A12 A13 A14 A23 A24 A34
 have o4:=O2.out.below D4.out (by have:=Hz.out;have:=Eb.out;omega)
 have z0:=o4.cell (i:=0) rfl
 have z1:=o4.cell (i:=1) rfl
 have z2:=o4.cell (i:=2) rfl
 have z3:=o4.cell (i:=3) rfl
 have z4:=o4.cell (i:=4) rfl
 have zf:=o4.frozen
 have O4:=Lib.hid o4
 clear o4
 obtain⟨W5,hW5⟩:∃ W5,W5=put5 V4 (b+1) (.slice P1 x.key.length c1) (.int .i64 cnt) (.slice P2 x.sum.length c2) (.slice P3 x.mn.length c3) (.slice P4 x.mx.length c4):=⟨_,rfl⟩
 have o5:Own 46 W5 (b+1) [.slice P1 x.key.length c1,.int .i64 cnt,.slice P2 x.sum.length c2,.slice P3 x.mn.length c3,.slice P4 x.mx.length c4]:=hW5 ▸ put5_own O4.out
 have on5:Only (b+1) V4 W5:=hW5 ▸ put5_only
 have hfin:CO w.heap.size W5 (.slice P1 x.key.length c1) (.slice P2 x.sum.length c2) (.slice P3 x.mn.length c3) (.slice P4 x.mx.length c4) x:=(show CO w.heap.size V4 _ _ _ _ x from ⟨Q1___.out,Q2__.out,Q3_.out,Q4.out⟩).only on5 O4.out (by decide)
 have hbf:Below w.heap.size w W5:=B4.out.trans (on5.below (by have:=Eb.out;omega) B4.out.size)
 have hbx5:Bx W5 b (.slice Pk lk ck) (.int .i64 cnt) (.slice Ps ls cs) (.slice Pn ln cn) (.slice Pm lm cm):=(bx0.keep (Keeps.of_below D4.out)).only on5 (by omega) (by have:=D4.out.size;have:=Hz.out;have:=Eb.out;omega)
 have HW5:=Lib.hid hW5
 have Hfin:=Lib.hid hfin
 have Hbf:=Lib.hid hbf
 have Hbx5:=Lib.hid hbx5
 have r0:=o5.cell (i:=0) rfl
 have r1:=o5.cell (i:=1) rfl
 have r2:=o5.cell (i:=2) rfl
 have r3:=o5.cell (i:=3) rfl
 have r4:=o5.cell (i:=4) rfl
 clear hW5 o5 on5 hfin hbf hbx5
 refine WTH (i:=14) (v:=?va14) ?ya14 hHeld ?ra14
 case ya14=>(intro W hW;go_simp;first | done | with_reducible rfl)
 try simp only[SL,Act.put]
 refine wpAnyH_ready (rs:=[15]) (by kernel_rfl) (by simp) ?_
 refine AllReadyH.cons rfl (fun K hK=>?_) (AllReadyH.nil)
 go_simp
 have e5:=HW5.out
 unfold put5 at e5
 rw[← e5]
 clear e5
 refine hK.out _ _ (Hbx5.out) (fun hHeld=>?_)
 clear hK K
 try simp only[SL,Act.put]
 refine wpAnyH_done (by kernel_rfl) ?_ _
 go_wp2
 exact bodyPost_ret (v:=.agg #[.slice P1 x.key.length c1,.int .i64 cnt,.slice P2 x.sum.length c2,.slice P3 x.mn.length c3,.slice P4 x.mx.length c4]) (by simp[results,Tryz.results93,go_sem,r0,r1,r2,r3,r4]) rfl ⟨_,_,_,_,rfl,Hfin.out,HAp.out,Hbf.out⟩
set_option maxRecDepth 100000 in
set_option maxHeartbeats 4000000 in
theorem reven_any (ad:Addr) (c:Nat) (l:List Cel) (me:Nat) (w:World) (hl:CellsR w ad l) (he:∀ x ∈ l,EvenC me x) (_hm:me≤1000000) (hn:l.length≤1000000) :
  Calls Tryz.prog 59 #[.slice (some ad) l.length c] w fun e w'=>e=.returned (.bool true)∧Below w.heap.size w w':=by
 obtain⟨N,hN⟩:∃ N,N=l.length:=⟨_,rfl⟩
 rw[← hN] at hn ⊢
 have HN:=Lib.hid hN
 have Hl:=Lib.hid hl
 have He:=Lib.hid he
 clear hN hl he
 go_enter Tryz.func59,Tryz.ntmps59
 go_wp2_with fail
 go_loopw [8] (fun i wr=>∃ k:Nat,k≤N∧i=.int .i64 k∧Below w.heap.size w wr) (fun i _=>N - (intOf i).toNat)
 case atStart=>exact⟨0,by omega,rfl,Below.refl _ _⟩
 case round =>
  obtain⟨k,hk,rfl,hb⟩:=hrel
  rename World=>wr
  have Hb:=Lib.hid hb
  clear hb
  by_cases hlt:k<N
  ·obtain⟨x,hx⟩:∃ x,l[k]? = some x:=⟨_,List.getElem?_eq_getElem (by have:=HN.out;omega)⟩
   obtain⟨y,hy⟩:∃ y,l[0]? = some y:=⟨_,List.getElem?_eq_getElem (by have:=HN.out;omega)⟩
   obtain⟨ex1,ex2,ex3⟩:=He.out x (List.mem_of_getElem? hx)
   obtain⟨ey1,_,_⟩:=He.out y (List.mem_of_getElem? hy)
   obtain⟨vk,vs,vn,vm,a0,a1,a2,a3,a4,⟨⟨Pk,ck,rfl,_⟩,⟨Ps,cs,rfl,_⟩,⟨Pn,cn,rfl,_⟩,⟨Pm,cm,rfl,_⟩⟩,_⟩:=(Hl.out k x hx).keep (Keeps.of_below Hb.out)
   have hy0:=(Hl.out 0 y hy).keep (Keeps.of_below Hb.out)
   rw[show ad.add (0*5)=ad from by simp[Addr.add]] at hy0
   obtain⟨uk,us,un,um,c0,c1,c2,c3,c4,⟨⟨Qk,dk,rfl,_⟩,⟨Qs,ds,rfl,_⟩,⟨Qn,dn,rfl,_⟩,⟨Qm,dm,rfl,_⟩⟩,_⟩:=hy0
   rw[ex1] at a2
   rw[ex2] at a3
   rw[ex3] at a4
   rw[ey1] at c2
   have hbx:=Below.alloc Hb.out Hb.out.size (.cells #[.slice Pk x.key.length ck,.int .i64 x.cnt,.slice Ps me cs,.slice Pn me cn,.slice Pm me cm] 46)
   have c2':(wr.alloc (.cells #[.slice Pk x.key.length ck,.int .i64 x.cnt,.slice Ps me cs,.slice Pn me cn,.slice Pm me cm] 46)).cell? ⟨ad.block,ad.off+2,none⟩=some (.slice Qs me ds):=((Keeps.refl wr).alloc _) _ _ c2
   have Hbx:=Lib.hid hbx
   have i0:(0:Int)≤(k:Int):=by omega
   have i1:(k:Int)<(N:Int):=by omega
   have d1:decide (k<N)=true:=by simp;omega
   have q0:0<N:=by omega
   have q1:(0:Int)<(N:Int):=by omega
   generalize x.key.length=lk at *
   generalize x.cnt=cnt at *
   clear hx hy ex1 ex2 ex3 ey1 hbx c0 c1 c3 c4
   go_wp2
   go_roundw
   case rel=>exact⟨k+1,by omega,by go_num,Hbx.out⟩
   case measure=>simp[intOf];omega
  ·obtain rfl:k=N:=by omega
   have d1:decide (k<k)=false:=by simp
   go_wp2
   go_ret
   exact⟨rfl,Hb.out⟩
end Go.Proofs.YtnjlkhhcfiedbaaGreatDoor
namespace Go.Proofs.YtnjlkhhcfiedbaaGreatDoor
open Go.RowKit Go.Shelf
attribute [local go_sem] Oper.semAt_some
theorem putC_perm_newR (c:Cel):∀ (l:List Cel),(∀ x ∈ l,x.key ≠ c.key)→(putC l c).Perm (c :: l)
 | [],_=>List.Perm.refl _
 | x :: l,h=>by
  simp only[putC]
  split
  ·exact (List.Perm.cons x (putC_perm_newR c l fun y hy=>h y (by simp[hy]))).trans (List.Perm.swap c x l)
  ·rw[if_neg fun e=>h x (by simp) (cmpL_zero.1 e)]
theorem fold_perm_apartR:∀ (l acc:List Cel),(l.Pairwise fun x y=>x.key ≠ y.key)→(∀ x ∈ acc,∀ y ∈ l,x.key ≠ y.key)→(l.foldl putC acc).Perm (l ++ acc)
 | [],acc,_,_=>List.Perm.refl _
 | c :: l,acc,h,hd=>by
  obtain⟨h1,h2⟩:=List.pairwise_cons.1 h
  have hp:=putC_perm_newR c acc fun x hx=>hd x hx c (by simp)
  have:=fold_perm_apartR l (putC acc c) h2 (fun x hx y hy=>by
   rcases List.mem_cons.1 (hp.mem_iff.1 hx) with rfl | hx
   ·exact h1 y hy
   ·exact hd x hx y (by simp[hy]))
  rw[List.foldl_cons]
  refine this.trans ((List.Perm.append_left l hp).trans ?_)
  exact List.perm_middle
theorem grp_perm_apartR {l:List Cel} (h:l.Pairwise fun x y=>x.key ≠ y.key):(grpR l).Perm l:=by
 have:=fold_perm_apartR l [] h (fun x hx=>by cases hx)
 simpa [grpR] using this
def PartO (w0:World) (B Bn:Nat) (X:World) (us:List V5) (H:List Cel) (k:Nat):Prop:=us.length=H.length∧∀ (i:Nat) u x,us[i]? = some u→H[i]? = some x→if i<k then OwnC Bn X u x else (Reads w0 u x∨OwnC B X u x)
theorem PartO.start {w0 X:World} {B Bn:Nat} {us:List V5} {H:List Cel} (h:RdO w0 B X us H):PartO w0 B Bn X us H 0:=⟨h.1,fun i u x hu hx=>by rw[if_neg (by omega)];exact h.2 i u x hu hx⟩
theorem PartO.all {w0 X:World} {B Bn:Nat} {us:List V5} {H:List Cel} (h:PartO w0 B Bn X us H H.length):OwnL Bn X us H:=⟨h.1,fun i u x hu hx=>by
 have:=h.2 i u x hu hx
 rwa [if_pos (List.getElem?_eq_some_iff.1 hx).1] at this⟩
theorem PartO.tchN {w0 X Y:World} {B Bn k:Nat} {us:List V5} {H:List Cel} {M:Nat→Prop} (h:PartO w0 B Bn X us H k) (ht:Tch M X Y) (hM:∀ k,M k→NotInt X k):PartO w0 B Bn Y us H k:=⟨h.1,fun i u x hu hx=>by
 have:=h.2 i u x hu hx
 split at this
 ·rename_i hi;rw[if_pos hi];exact this.stay fun q=>q.tchN ht hM
 ·rename_i hi;rw[if_neg hi];exact this.imp id fun o=>o.stay fun q=>q.tchN ht hM⟩
theorem PartO.set {w0 X:World} {B Bn k:Nat} {us:List V5} {H:List Cel} {v:V5} {x:Cel} (h:PartO w0 B Bn X us H k) (hx:H[k]? = some x) (hv:OwnC Bn X v x):PartO w0 B Bn X (us.set k v) H (k+1):=⟨by rw[List.length_set,h.1],fun i u y hu hy=>by
 rw[List.getElem?_set] at hu
 by_cases e:k=i
 ·subst e
  rw[if_pos rfl] at hu
  rw[hx] at hy
  injection hy with hy
  subst hy
  split at hu
  ·injection hu with hu;subst hu;rw[if_pos (by omega)];exact hv
  ·cases hu
 ·rw[if_neg e] at hu
  have:=h.2 i u y hu hy
  split at this
  ·rename_i hi;rw[if_pos (by omega)];exact this
  ·rename_i hi;rw[if_neg (by omega)];exact this⟩
set_option maxRecDepth 100000 in
set_option maxHeartbeats 8000000 in
theorem run_any (w0:World) (B me g c N:Nat) (us:List V5) (H:List Cel) (w:World) (hrow:w.ownsRow B 46 5 (.slice (some ⟨g,0,none⟩) N c) N (flatV us)) (hN:us.length=N) (hrd:RdO w0 B w us H) (hb0:Below w0.heap.size w0 w) (hg0:w0.heap.size≤g) (hgd:∀ c ∈ H,GoodC me c) (hap:Apart H) (hn1:1≤N) (hn:N≤60) (hme:me≤2) (hBw:B≤w.heap.size) :
  Calls Tryz.prog 63 #[.slice (some ⟨g,0,none⟩) N c] w fun e w'=>e=.returned (.slice (some ⟨g,0,none⟩) N c)∧(∃ us',GRs B w' (.slice (some ⟨g,0,none⟩) N c) us' (grpR H)∧us'.length=N∧OwnL w.heap.size w' us' (grpR H))∧Tch (fun k=>k=g) w w':=by
 have hS:=csort_any w0 B B g c N us H w hb0 hg0 hrow hrd (fun x hx=>by have:=(hgd x hx).2.1;omega) hN hn1 (by omega) hap
 have hGl:(grpR H).length=N:=by rw[grp_len_apart H hap,← hrd.1,hN]
 obtain⟨G,hG⟩:∃ G,G=grpR H:=⟨_,rfl⟩
 have hGg:∀ x ∈ G,x.key.length≤1000000∧x.sum.length≤1000000∧x.mn.length≤1000000∧x.mx.length≤1000000:=fun x hx=>by
  rw[hG] at hx
  have h1:=(grp_perm_apartR hap).mem_iff.1 hx
  obtain⟨-,h2,⟨h3,h4,h5⟩,-⟩:=hgd x h1
  omega
 rw[← hG] at hS hGl ⊢
 have HS:=Lib.hid hS
 have HGL:=Lib.hid hGl
 have HGG:=Lib.hid hGg
 have HB0:=Lib.hid hb0
 clear hS hGl hGg hb0 hrow hrd hgd hap hG hN
 go_enter Tryz.func63,Tryz.ntmps63
 go_wp2_with fail
 refine HS.out.mono ?_
 rintro e w1 ⟨rfl,us1,hl1,hc1,hr1,ht1,ho1⟩
 have hb01:Below w0.heap.size w0 w1:=HB0.out.trans (ht1.below (fun k hk=>by rw[hk];exact hg0) HB0.out.size)
 have HB1:=Lib.hid hb01
 have HO1:=Lib.hid ho1
 have HL1:=Lib.hid hl1
 have HP1:=Lib.hid (PartO.start (Bn:=w.heap.size) hr1)
 have HT1:=Lib.hid ht1
 clear hl1 hc1 hr1 ht1 ho1 hb01 HS
 go_wp2_with fail
 go_loopw [9] (fun i wr=>∃ (k:Nat) (us2:List V5),i=.int .i64 k∧k≤N∧wr.ownsRow B 46 5 (.slice (some ⟨g,0,none⟩) N c) N (flatV us2)∧us2.length=N∧PartO w0 B w.heap.size wr us2 G k∧Tch (fun k=>k=g) w wr∧Below w0.heap.size w0 wr) (fun i _=>N - (intOf i).toNat)
 case atStart=>exact⟨0,us1,rfl,Nat.zero_le _,HO1.out,HL1.out,HP1.out,HT1.out,HB1.out⟩
 case round =>
  obtain⟨k,us2,rfl,hk,ho,hl,hp,ht,hb⟩:=hrel
  rename World=>wr
  by_cases hlt:k<N
  ·have i0:(0:Int)≤(k:Int):=by omega
   have i1:(k:Int)<(N:Int):=by omega
   have d1:decide ((k:Int)<(N:Int))=true:=decide_eq_true i1
   obtain⟨x,hx⟩:∃ x,G[k]? = some x:=⟨_,List.getElem?_eq_getElem (by rw[HGL.out];exact hlt)⟩
   obtain⟨u,hu⟩:∃ u,us2[k]? = some u:=⟨_,List.getElem?_eq_getElem (by rw[hl];exact hlt)⟩
   have hrx:Reads wr u x:=by
    have:=hp.2 k u x hu hx
    rw[if_neg (by omega)] at this
    rcases this with h | h
    ·exact h.keep (Keeps.of_below hb)
    ·exact h.reads
   obtain⟨ua,ub,uc,ud,ue⟩:=u
   obtain⟨eb,hcr,hck⟩:=hrx
   dsimp only at eb hcr
   subst eb
   obtain⟨P',c',e',-,-,hcell⟩:=own_form ho
   cases e'
   obtain⟨g',eg',-,hcell⟩:=hcell (by omega)
   cases eg'
   obtain⟨f0,f1,f2,f3,f4⟩:=flatV_five hu
   have p0:=hcell _ _ f0
   have p1:=hcell _ _ f1
   have p2:=hcell _ _ f2
   have p3:=hcell _ _ f3
   have p4:=hcell _ _ f4
   dsimp only at p0 p1 p2 p3 p4
   obtain⟨g1,g2,g3,g4⟩:=HGG.out x (List.mem_of_getElem? hx)
   have hcrk:=hcr
   obtain⟨⟨P1,q1,e1,-⟩,⟨P2,q2,e2,-⟩,⟨P3,q3,e3,-⟩,⟨P4,q4,e4,-⟩⟩:=id hcr
   subst e1 e2 e3 e4
   obtain⟨xc,exc⟩:∃ z,z=x.cnt:=⟨_,rfl⟩
   obtain⟨l1,hl1⟩:∃ z,z=x.key.length:=⟨_,rfl⟩
   obtain⟨l2,hl2⟩:∃ z,z=x.sum.length:=⟨_,rfl⟩
   obtain⟨l3,hl3⟩:∃ z,z=x.mn.length:=⟨_,rfl⟩
   obtain⟨l4,hl4⟩:∃ z,z=x.mx.length:=⟨_,rfl⟩
   obtain⟨X1,hX1⟩:∃ X1,X1=wr.alloc (.cells #[.slice P1 l1 q1,.int .i64 xc,.slice P2 l2 q2,.slice P3 l3 q3,.slice P4 l4 q4] 46):=⟨_,rfl⟩
   have hb1:Below wr.heap.size wr X1:=by rw[hX1];exact (Below.refl _ _).alloc (Nat.le_refl _) _
   have o8:Own 46 X1 wr.heap.size [.slice P1 l1 q1,.int .i64 xc,.slice P2 l2 q2,.slice P3 l3 q3,.slice P4 l4 q4]:=by rw[hX1];exact heap_alloc_new wr _
   have hcl:=rcloned_any _ _ _ _ x X1 (hcr.keep (Keeps.of_below hb1)) g1 g2 g3 g4
   rw[← exc,← hl1,← hl2,← hl3,← hl4] at hcl
   rw[← exc] at p1
   rw[← hl1] at p0
   rw[← hl2] at p2
   rw[← hl3] at p3
   rw[← hl4] at p4
   obtain⟨b8,hb8⟩:∃ z,z=wr.heap.size:=⟨_,rfl⟩
   rw[← hb8] at o8
   obtain⟨r0,r1,r2,r3,r4⟩:=Own.bx o8
   have HCL:=Lib.hid hcl
   have HXC:=Lib.hid exc
   have HCK:=Lib.hid hck
   have HX:=Lib.hid hx
   have HO:=Lib.hid ho
   have HP:=Lib.hid hp
   have HL:=Lib.hid hl
   have HT:=Lib.hid ht
   have HB:=Lib.hid hb
   have HB1:=Lib.hid hb1
   have HX1:=Lib.hid hX1
   have HB8:=Lib.hid hb8
   clear hx hu hcr hcrk hck hcell f0 f1 f2 f3 f4 g1 g2 g3 g4 exc hl1 hl2 hl3 hl4 hX1 o8 hcl hb8 ho hp hl ht hb hb1
   go_upto_region 5 with (fail)
   rw[← HX1.out,← HB8.out]
   clear p0 p1 p2 p3 p4
   go_wp2_with fail
   refine HCL.out.mono ?_
   rintro e X2 ⟨k',s',n',m',rfl,hco,-,hb2⟩
   have hb12:Below wr.heap.size wr X2:=HB1.out.trans (hb2.mono HB1.out.size)
   have hBX:w.heap.size≤wr.heap.size:=HT.out.size
   have ho2:=own_below HO.out hb12 (Nat.le_refl _)
   have hp2:=HP.out.tchN (M:=fun _=>False) (Tch.of_below _ hb12) fun _ h=>h.elim
   have hvO:OwnC w.heap.size X2 ⟨k',.int .i64 xc,s',n',m'⟩ x:=⟨by rw[HXC.out],CO.mk (hco.key.mono (Nat.le_trans hBX HB1.out.size)) (hco.sum.mono (Nat.le_trans hBX HB1.out.size)) (hco.mn.mono (Nat.le_trans hBX HB1.out.size)) (hco.mx.mono (Nat.le_trans hBX HB1.out.size)),HCK.out⟩
   obtain⟨W9,hW9⟩:∃ W9,W9=setF X2 g k ⟨k',.int .i64 xc,s',n',m'⟩:=⟨_,rfl⟩
   have ht9:Tch (fun k=>k=g) X2 W9:=by rw[hW9];exact tch_setF _ _ _ _
   have hfz:∀ j,X2.frozen? ⟨g,j,none⟩=false:=fun j=>World.ownsRow.frozenAt ho2 j
   have hni:=notint_row ho2 rfl (show 46 ≠ 3 by decide)
   have hp9:=(hp2.set HX.out hvO).tchN ht9 fun q hq=>by rw[hq];exact hni
   have hil:k<us2.length:=by rw[HL.out];exact hlt
   have s1:=(ho2.stored (k*5) k').1
   have s2:=(s1.stored (k*5+1) (.int .i64 xc)).1
   have s3:=(s2.stored (k*5+2) s').1
   have s4:=(s3.stored (k*5+3) n').1
   have s5:=(s4.stored (k*5+4) m').1
   rw[flatV_set us2 k ⟨k',.int .i64 xc,s',n',m'⟩ hil] at s5
   have ho9:W9.ownsRow B 46 5 (.slice (some ⟨g,0,none⟩) N c) N (flatV (us2.set k ⟨k',.int .i64 xc,s',n',m'⟩)):=by rw[hW9];exact s5
   obtain⟨P',c',e',-,-,hcell⟩:=own_form ho2
   cases e'
   obtain⟨g',eg',-,hcell⟩:=hcell (by omega)
   cases eg'
   obtain⟨u,hu⟩:∃ u,us2[k]? = some u:=⟨_,List.getElem?_eq_getElem hil⟩
   obtain⟨f0,f1,f2,f3,f4⟩:=flatV_five hu
   have z0:=hcell _ _ f0
   have z1:=hcell _ _ f1
   have z2:=hcell _ _ f2
   have z3:=hcell _ _ f3
   have z4:=hcell _ _ f4
   obtain⟨R1,y1,hr1,-⟩:=hco.key.form
   obtain⟨R2,y2,hr2,-⟩:=hco.sum.form
   obtain⟨R3,y3,hr3,-⟩:=hco.mn.form
   obtain⟨R4,y4,hr4,-⟩:=hco.mx.form
   have HE:=Lib.hid (And.intro ho9 (And.intro (show (us2.set k ⟨k',.int .i64 xc,s',n',m'⟩).length=N by rw[List.length_set,HL.out]) (And.intro hp9 (And.intro ((HT.out.same (Tch.of_below _ hb12)).same ht9) ((HB.out.trans (hb12.mono HB.out.size)).trans (ht9.below (fun q hq=>by rw[hq];exact hg0) (Nat.le_trans HB.out.size hb12.size)))))))
   unfold setF at hW9
   dsimp only at hW9
   have HW9:=Lib.hid hW9
   clear hb12 hBX ho2 hp2 hvO ht9 hni hp9 s1 s2 s3 s4 s5 ho9 hcell hu f0 f1 f2 f3 f4 hco hb2 hW9 r0 r1 r2 r3 r4 HCL hil
   subst hr1 hr2 hr3 hr4
   go_wp2
   rw[← HW9.out]
   go_roundw
   case rel=>exact⟨k+1,_,by go_num,by omega,HE.out.1,HE.out.2.1,HE.out.2.2.1,HE.out.2.2.2.1,HE.out.2.2.2.2⟩
   case measure=>simp[intOf];omega
  ·obtain rfl:k=N:=by omega
   have d1:decide ((k:Int)<(k:Int))=false:=by simp
   have hall:OwnL w.heap.size wr us2 G:=PartO.all (by rw[HGL.out];exact hp)
   have HE:=Lib.hid (show (∃ us',GRs B wr (.slice (some ⟨g,0,none⟩) k c) us' G∧us'.length=k∧OwnL w.heap.size wr us' G)∧Tch (fun k=>k=g) w wr from ⟨⟨us2,⟨by rw[hl];exact ho,hall.mono hBw⟩,hl,hall⟩,ht⟩)
   clear ho hl hp ht hb hall
   go_wp2
   go_ret
   exact⟨rfl,HE.out⟩
end Go.Proofs.YtnjlkhhcfiedbaaGreatDoor

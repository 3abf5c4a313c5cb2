import Derived.Laws.EntriesVeiled
import Derived.Test.YtnjlkhhcfiedbaaGreatDoorHshd
import Derived.Test.YtnjlkhhcfiedbaaGreatDoorCcmp
import Derived.Test.YtnjlkhhcfiedbaaGreatDoorExQ
namespace Go.Proofs.YtnjlkhhcfiedbaaGreatDoor
open Go.RowKit Go.Shelf Go.Sort Go.Lib
attribute [local go_sem] Oper.semAt_some
set_option maxRecDepth 100000 in
set_option maxHeartbeats 1000000 in
theorem mcmp_grow (k s n m k' s' n' m':Value) (x y:Cel) (w:World) (hx:CR w k s n m x) (hy:CR w k' s' n' m' y) (h1:x.key.length≤1000000) (h2:y.key.length≤1000000) :
  Calls Tryz.prog 97 #[.agg #[k,.int .i64 x.cnt,s,n,m],.agg #[k',.int .i64 y.cnt,s',n',m']] w fun e w'=>e=.returned (.int .i64 (cmpL x.key y.key))∧∃ os,w'=grow w os:=by
 obtain⟨⟨Pk,ck,rfl,hk⟩,⟨Ps,cs,rfl,hs⟩,⟨Pn,cn,rfl,hn⟩,⟨Pm,cm,rfl,hm⟩⟩:=hx
 obtain⟨⟨Qk,dk,rfl,gk⟩,⟨Qs,ds,rfl,gs⟩,⟨Qn,dn,rfl,gn⟩,⟨Qm,dm,rfl,gm⟩⟩:=hy
 have R1:Hid (RI w (.slice Pk x.key.length ck) x.key):=Lib.hid ⟨_,_,rfl,hk⟩
 have R2:Hid (RI w (.slice Qk y.key.length dk) y.key):=Lib.hid ⟨_,_,rfl,gk⟩
 have L1:=Lib.hid h1
 have L2:=Lib.hid h2
 clear hk hs hn hm gk gs gn gm h1 h2
 generalize hlk:x.key.length=lk at R1 L1 ⊢
 generalize hlq:y.key.length=lq at R2 L2 ⊢
 have hb:RowKit.Below w.heap.size w ((w.alloc (.cells #[.slice Pk lk ck,.int .i64 x.cnt,.slice Ps x.sum.length cs,.slice Pn x.mn.length cn,.slice Pm x.mx.length cm] 46)).alloc (.cells #[.slice Qk lq dk,.int .i64 y.cnt,.slice Qs y.sum.length ds,.slice Qn y.mn.length dn,.slice Qm y.mx.length dm] 46)):=((RowKit.Below.refl _ w).alloc (Nat.le_refl _) _).alloc (by simp) _
 have HB:=Lib.hid hb
 have E1:=Lib.hid hlk
 have E2:=Lib.hid hlq
 clear hb hlk hlq
 go_enter Tryz.func97,Tryz.ntmps97
 go_wp2_with fail
 refine (less_any _ _ x.key y.key _ (R1.out.keep (Keeps.of_below HB.out)) (R2.out.keep (Keeps.of_below HB.out)) (by rw[E1.out];exact L1.out) (by rw[E2.out];exact L2.out)).mono ?_
 rintro e w' ⟨rfl,rfl⟩
 go_wp2
 go_ret
 exact⟨rfl,_,by rw[alloc_eq_grow,alloc_eq_grow,grow_grow]⟩
set_option maxHeartbeats 1000000 in
theorem bykeys_any (w:World) :
  Calls Tryz.prog 65 #[] w fun e w'=>e=.returned (.agg #[.func (.func 97) #[] #[],.func (.func 62) #[] #[]])∧RowKit.Below w.heap.size w w':=by
 have oA:Own 98 (w.alloc (.cells #[.func (.func 97) #[] #[],.func (.func 62) #[] #[]] 98)) w.heap.size [.func (.func 97) #[] #[],.func (.func 62) #[] #[]]:=heap_alloc_new w _
 have hb:RowKit.Below w.heap.size w (w.alloc (.cells #[.func (.func 97) #[] #[],.func (.func 62) #[] #[]] 98)):=(RowKit.Below.refl _ w).alloc (Nat.le_refl _) _
 have r0:=oA.cell (i:=0) rfl
 have r1:=oA.cell (i:=1) rfl
 have HB2:=Lib.hid hb
 have R0:=Lib.hid r0
 have R1:=Lib.hid r1
 clear r0 r1 hb oA
 go_enter Tryz.func65,Tryz.ntmps65
 go_wp2
 have r0:=R0.out
 have r1:=R1.out
 exact bodyPost_ret (v:=.agg #[.func (.func 97) #[] #[],.func (.func 62) #[] #[]]) (by simp[results,Tryz.results65,go_sem,r0,r1]) rfl ⟨rfl,HB2.out⟩
end Go.Proofs.YtnjlkhhcfiedbaaGreatDoor
namespace Go.Proofs.YtnjlkhhcfiedbaaGreatDoor
open Go.RowKit
theorem cmpL_lt_trans {s t u:List Int} (h:cmpL s t<0) (k:cmpL t u<0):cmpL s u<0:=by
 have h1:=cmpL_trans (Int.le_of_lt h) (Int.le_of_lt k)
 rcases Int.lt_or_eq_of_le h1 with e | e
 ·exact e
 ·have e2:=cmpL_zero.1 e
  rw[← e2] at k
  have:=cmpL_anti s t
  omega
theorem fold_rise:∀ (l acc:List Cel),RiseC (acc ++ l)→l.foldl putC acc=acc ++ l
 | [],acc,_=>by simp
 | c :: l,acc,h=>by
  rw[List.foldl_cons,putC_end (fun y hy=>(List.pairwise_append.1 h).2.2 y hy c (by simp)),fold_rise l _ (by rw[List.append_assoc];exact h),List.append_assoc]
  rfl
theorem grpR_self {l:List Cel} (h:RiseC l):grpR l=l:=fold_rise l [] h
theorem putC_lt_head {x c:Cel} {l:List Cel} (h:cmpL x.key c.key<0):putC (x :: l) c=x :: putC l c:=by
 simp only[putC]
 rw[if_pos h]
theorem foldl_head {x:Cel}:∀ (b a:List Cel),(∀ y ∈ b,cmpL x.key y.key<0)→b.foldl putC (x :: a)=x :: b.foldl putC a
 | [],_,_=>rfl
 | y :: b,a,h=>by
  rw[List.foldl_cons,putC_lt_head (h y (by simp)),List.foldl_cons]
  exact foldl_head b _ fun z hz=>h z (by simp[hz])
theorem grp_join (a b:List Cel):grpR (grpR a ++ b)=grpR (a ++ b):=by
 unfold grpR
 rw[List.foldl_append,List.foldl_append]
 congr 1
 exact grpR_self (grpR_rise a)
def chunksF {α:Type} (f:Nat) (l:List α):List (List α):=if l=[]∨f=0 then [] else l.take f :: chunksF f (l.drop f)
termination_by l.length
decreasing_by
 rename_i h
 have h1:l ≠ []:=fun e=>h (.inl e)
 have h2:=List.length_pos_iff.2 h1
 rw[List.length_drop]
 omega
theorem chunksF_nil {α:Type} (f:Nat):chunksF f ([]:List α)=[]:=by rw[chunksF];simp
theorem chunksF_cons {α:Type} {f:Nat} {l:List α} (hf:1≤f) (hl:l ≠ []):chunksF f l=l.take f :: chunksF f (l.drop f):=by
 rw[chunksF,if_neg (by intro h;rcases h with h | h;exact hl h;omega)]
theorem chunks_all {α:Type} {f:Nat} (hf:1≤f):∀ (n:Nat) (l:List α),l.length=n→(chunksF f l).flatten=l∧(chunksF f l).length=(l.length+f - 1) / f:=by
 intro n
 induction n using Nat.strongRecOn with
 | _ n ih =>
  intro l hn
  by_cases hl:l=[]
  ·subst hl
   rw[chunksF_nil]
   refine⟨rfl,?_⟩
   rw[Nat.div_eq_of_lt (by simp;omega)]
   rfl
  ·have hp:=List.length_pos_iff.2 hl
   obtain⟨h1,h2⟩:=ih (l.drop f).length (by rw[List.length_drop];omega) (l.drop f) rfl
   rw[chunksF_cons hf hl,List.flatten_cons,h1,List.take_append_drop,List.length_cons,h2,List.length_drop]
   refine⟨rfl,?_⟩
   rcases Nat.lt_or_ge f l.length with h | h
   ·rw[show l.length+f - 1=(l.length - f+f - 1)+f from by omega,Nat.add_div_right _ (by omega)]
   ·rw[show l.length - f=0 from by omega,Nat.zero_add,Nat.div_eq_of_lt (by omega),show l.length+f - 1=(l.length - 1)+f from by omega,Nat.add_div_right _ (by omega),Nat.div_eq_of_lt (by omega)]
def passP (f:Nat) (Js:List (List Cel)):List (List Cel):=(chunksF f Js).map fun c=>grpR c.flatten
theorem grp_all:∀ (Cs:List (List (List Cel))),grpR (Cs.map fun c=>grpR c.flatten).flatten=grpR Cs.flatten.flatten
 | []=>rfl
 | c :: Cs=>by
  rw[List.map_cons,List.flatten_cons,grp_join,← grpR_parts,grp_all Cs,grpR_parts,List.flatten_cons,List.flatten_append]
theorem pass_grp {f:Nat} (hf:1≤f) (Js:List (List Cel)):grpR (passP f Js).flatten=grpR Js.flatten:=by
 unfold passP
 rw[grp_all,(chunks_all hf _ Js rfl).1]
theorem pass_rise (f:Nat) (Js:List (List Cel)):∀ J ∈ passP f Js,RiseC J:=fun J hJ=>by
 obtain⟨c,-,rfl⟩:=List.mem_map.1 hJ
 exact grpR_rise _
theorem pass_len {f:Nat} (hf:1≤f) (Js:List (List Cel)):(passP f Js).length=(Js.length+f - 1) / f:=by
 unfold passP
 rw[List.length_map,(chunks_all hf _ Js rfl).2]
theorem ceil_lt {n f:Nat} (hn:2≤n) (hf:2≤f):(n+f - 1) / f<n:=by
 rw[Nat.div_lt_iff_lt_mul (by omega)]
 have h1:n*2≤n*f:=Nat.mul_le_mul_left n hf
 have h2:2*f≤n*f:=Nat.mul_le_mul_right f hn
 omega
def passN (f n:Nat):Nat:=if h:n≤1∨f<2 then 0 else 1+passN f ((n+f - 1) / f)
termination_by n
decreasing_by exact ceil_lt (by omega) (by omega)
theorem passN_one {f n:Nat} (h:n≤1):passN f n=0:=by rw[passN,dif_pos (.inl h)]
theorem passN_more {f n:Nat} (hn:2≤n) (hf:2≤f):passN f n=1+passN f ((n+f - 1) / f):=by rw[passN,dif_neg (by omega)]
end Go.Proofs.YtnjlkhhcfiedbaaGreatDoor
namespace Go.Proofs.YtnjlkhhcfiedbaaGreatDoor
open Go.RowKit
section heap
variable {α:Type} {le:α→α→Prop}
def swpL (l:List α) (i j:Nat):List α:=match l[i]?,l[j]? with
 | some x,some y=>(l.set i y).set j x
 | _,_=>l
theorem swpL_eq {l:List α} {i j:Nat} {x y:α} (hx:l[i]? = some x) (hy:l[j]? = some y):swpL l i j=(l.set i y).set j x:=by
 unfold swpL
 rw[hx,hy]
theorem swpL_len (l:List α) (i j:Nat):(swpL l i j).length=l.length:=by
 unfold swpL
 split <;> simp
theorem swpL_at {l:List α} {i j:Nat} {x y:α} (hx:l[i]? = some x) (hy:l[j]? = some y) (k:Nat):(swpL l i j)[k]? = if k=j then some x else if k=i then some y else l[k]?:=by
 rw[swpL_eq hx hy,List.getElem?_set,List.getElem?_set]
 have hi:=(List.getElem?_eq_some_iff.1 hx).1
 have hj:=(List.getElem?_eq_some_iff.1 hy).1
 by_cases h1:k=j
 ·subst h1
  rw[if_pos rfl,if_pos rfl,if_pos (by simpa using hj)]
 ·rw[if_neg (fun e=>h1 e.symm),if_neg h1]
  by_cases h2:k=i
  ·subst h2
   rw[if_pos rfl,if_pos rfl,if_pos hi]
  ·rw[if_neg (fun e=>h2 e.symm),if_neg h2]
theorem swpL_perm (l:List α) (i j:Nat):(swpL l i j).Perm l:=by
 rcases hx:l[i]? with _ | x
 ·unfold swpL;rw[hx]
 ·rcases hy:l[j]? with _ | y
  ·unfold swpL;rw[hx,hy]
  ·rw[swpL_eq hx hy]
   exact swap_perm hx hy
def HepN (le:α→α→Prop) (n:Nat) (l:List α):Prop:=∀ (k:Nat) x y,0<k→k<n→l[(k - 1) / 2]? = some x→l[k]? = some y→le x y
def UpI (le:α→α→Prop) (j:Nat) (l:List α):Prop :=
 (∀ (k:Nat) x y,0<k→k ≠ j→l[(k - 1) / 2]? = some x→l[k]? = some y→le x y) ∧
 ∀ (k:Nat) x y,0<j→0<k→(k - 1) / 2=j→l[(j - 1) / 2]? = some x→l[k]? = some y→le x y
theorem UpI.push {l:List α} (h:HepN le l.length l) (x:α):UpI le l.length (l ++ [x]):=by
 refine⟨fun k u v hk hne hu hv=>?_,fun k u v h0 hk hp hu hv=>?_⟩
 ·have hlt:=(List.getElem?_eq_some_iff.1 hv).1
  rw[List.length_append,List.length_singleton] at hlt
  rw[List.getElem?_append_left (by omega)] at hu hv
  exact h k u v hk (by omega) hu hv
 ·have hlt:=(List.getElem?_eq_some_iff.1 hv).1
  rw[List.length_append,List.length_singleton] at hlt
  omega
theorem UpI.done {l:List α} {j:Nat} {x y:α} (h:UpI le j l) (hx:l[(j - 1) / 2]? = some x) (hy:l[j]? = some y) (hle:le x y):HepN le l.length l:=fun k u v hk hn hu hv=>by
 by_cases e:k=j
 ·subst e
  rw[hx] at hu;rw[hy] at hv
  cases hu;cases hv
  exact hle
 ·exact h.1 k u v hk e hu hv
theorem UpI.top {l:List α} (h:UpI le 0 l):HepN le l.length l:=fun k u v hk _ hu hv=>h.1 k u v hk (by omega) hu hv
theorem UpI.swap (tr:∀ {a b c},le a b→le b c→le a c) {l:List α} {j:Nat} {x y:α} (h:UpI le j l) (hj:0<j) (hx:l[(j - 1) / 2]? = some x) (hy:l[j]? = some y) (hle:le y x):UpI le ((j - 1) / 2) (swpL l ((j - 1) / 2) j):=by
 obtain⟨p,hp⟩:∃ p,p=(j - 1) / 2:=⟨_,rfl⟩
 have hpj:p<j:=by omega
 rw[← hp] at hx ⊢
 refine⟨fun k u v hk hne hu hv=>?_,fun k u v h0 hk hq hu hv=>?_⟩
 ·rw[swpL_at hx hy] at hu hv
  by_cases e1:k=j
  ·subst e1
   rw[if_pos rfl] at hv
   rw[← hp,if_neg (by omega),if_pos rfl] at hu
   cases hu;cases hv
   exact hle
  ·rw[if_neg e1,if_neg hne] at hv
   by_cases e2:(k - 1) / 2=p
   ·rw[e2,if_neg (by omega),if_pos rfl] at hu
    cases hu
    exact tr hle (h.1 k x v hk e1 (by rw[e2];exact hx) hv)
   ·by_cases e3:(k - 1) / 2=j
    ·rw[e3,if_pos rfl] at hu
     cases hu
     exact h.2 k x v hj hk e3 (by rw[← hp];exact hx) hv
    ·rw[if_neg e3,if_neg e2] at hu
     exact h.1 k u v hk e1 hu hv
 ·rw[swpL_at hx hy] at hu hv
  rw[if_neg (by omega),if_neg (by omega)] at hu
  have hux:=h.1 p u x h0 (by omega) hu hx
  by_cases e1:k=j
  ·subst e1
   rw[if_pos rfl] at hv
   cases hv
   exact hux
  ·rw[if_neg e1,if_neg (by omega)] at hv
   exact tr hux (h.1 k x v hk e1 (by rw[hq];exact hx) hv)
def DnI (le:α→α→Prop) (n i:Nat) (l:List α):Prop :=
 (∀ (k:Nat) x y,0<k→k<n→(k - 1) / 2 ≠ i→l[(k - 1) / 2]? = some x→l[k]? = some y→le x y) ∧
 ∀ (k:Nat) x y,0<i→0<k→k<n→(k - 1) / 2=i→l[(i - 1) / 2]? = some x→l[k]? = some y→le x y
theorem DnI.root {l:List α} {n:Nat} (h:HepN le n l) (x:α):DnI le n 0 (l.set 0 x):=by
 refine⟨fun k u v hk hn hne hu hv=>?_,fun k u v h0=>by omega⟩
 rw[List.getElem?_set_ne (by omega)] at hu hv
 exact h k u v hk hn hu hv
theorem DnI.leaf {l:List α} {n i:Nat} (h:DnI le n i l) (hi:n≤2*i+1):HepN le n l:=fun k u v hk hn hu hv=>h.1 k u v hk hn (by omega) hu hv
theorem DnI.done {l:List α} {n i:Nat} {x:α} (h:DnI le n i l) (hx:l[i]? = some x) (hc:∀ k y,0<k→k<n→(k - 1) / 2=i→l[k]? = some y→le x y):HepN le n l:=fun k u v hk hn hu hv=>by
 by_cases e:(k - 1) / 2=i
 ·rw[e,hx] at hu
  cases hu
  exact hc k v hk hn e hv
 ·exact h.1 k u v hk hn e hu hv
theorem DnI.swap {l:List α} {n i j:Nat} {x y:α} (h:DnI le n i l) (hj:0<j) (hjn:j<n) (hp:(j - 1) / 2=i) (hx:l[i]? = some x) (hy:l[j]? = some y) (hle:le y x)
  (hc:∀ k z,0<k→k<n→(k - 1) / 2=i→l[k]? = some z→le y z):DnI le n j (swpL l i j):=by
 refine⟨fun k u v hk hn hne hu hv=>?_,fun k u v h0 hk hn hq hu hv=>?_⟩
 ·rw[swpL_at hx hy] at hu hv
  rw[if_neg hne] at hu
  by_cases e1:(k - 1) / 2=i
  ·rw[if_pos e1] at hu
   cases hu
   by_cases e2:k=j
   ·subst e2
    rw[if_pos rfl] at hv
    cases hv
    exact hle
   ·rw[if_neg e2,if_neg (by omega)] at hv
    exact hc k v hk hn e1 hv
  ·rw[if_neg e1] at hu
   rw[if_neg (by rintro rfl;exact e1 hp)] at hv
   by_cases e3:k=i
   ·subst e3
    rw[if_pos rfl] at hv
    cases hv
    exact h.2 j u y hk hj hjn hp hu hy
   ·rw[if_neg e3] at hv
    exact h.1 k u v hk hn e1 hu hv
 ·rw[swpL_at hx hy] at hu hv
  rw[hp,if_neg (by omega),if_pos rfl] at hu
  cases hu
  rw[if_neg (by omega),if_neg (by omega)] at hv
  exact h.1 k y v hk hn (by omega) (by rw[hq];exact hy) hv
theorem HepN.least (rf:∀ a,le a a) (tr:∀ {a b c},le a b→le b c→le a c) {l:List α} {x:α} (h:HepN le l.length l) (hx:l[0]? = some x):∀ (n k:Nat) y,k≤n→l[k]? = some y→le x y:=by
 intro n
 induction n with
 | zero =>
  intro k y hk hy
  obtain rfl:k=0:=by omega
  rw[hx] at hy
  cases hy
  exact rf _
 | succ n ih =>
  intro k y hk hy
  rcases Nat.eq_zero_or_pos k with rfl | h0
  ·rw[hx] at hy
   cases hy
   exact rf _
  ·have hkl:=(List.getElem?_eq_some_iff.1 hy).1
   obtain⟨z,hz⟩:∃ z,l[(k - 1) / 2]? = some z:=⟨_,List.getElem?_eq_getElem (by omega)⟩
   exact tr (ih _ z (by omega) hz) (h k z y h0 hkl hz hy)
theorem HepN.least_mem (rf:∀ a,le a a) (tr:∀ {a b c},le a b→le b c→le a c) {l:List α} {x:α} (h:HepN le l.length l) (hx:l[0]? = some x):∀ y ∈ l,le x y:=fun y hy=>by
 obtain⟨k,hk⟩:=List.getElem?_of_mem hy
 exact h.least rf tr hx k k y (Nat.le_refl _) hk
theorem HepN.nil:HepN le 0 ([]:List α):=fun k x y hk hn=>by omega
theorem HepN.take {l:List α} {n:Nat} (h:HepN le n l):HepN le n (l.take n):=fun k x y hk hn hx hy=>by
 rw[List.getElem?_take,if_pos (by omega)] at hx hy
 exact h k x y hk hn hx hy
theorem DnI.pop {l:List α} {n:Nat} (h:HepN le l.length l) (hn:l.length=n+1):DnI le n 0 (swpL l 0 n):=by
 refine⟨fun k u v hk hlt hne hu hv=>?_,fun k u v h0=>by omega⟩
 obtain⟨x,hx⟩:∃ x,l[0]? = some x:=⟨_,List.getElem?_eq_getElem (by omega)⟩
 obtain⟨y,hy⟩:∃ y,l[n]? = some y:=⟨_,List.getElem?_eq_getElem (by omega)⟩
 rw[swpL_at hx hy] at hu hv
 rw[if_neg (by omega),if_neg (by omega)] at hu hv
 exact h k u v hk (by omega) hu hv
end heap
end Go.Proofs.YtnjlkhhcfiedbaaGreatDoor
namespace Go.Proofs.YtnjlkhhcfiedbaaGreatDoor
open Go.RowKit
theorem join_key:∀ (l:List Cel) (x:Cel),(l.foldl join2 x).key=x.key
 | [],_=>rfl
 | y :: l,x=>by rw[List.foldl_cons,join_key l];rfl
theorem fold_alike:∀ (l:List Cel) (x:Cel),(∀ y ∈ l,y.key=x.key)→l.foldl putC [x]=[l.foldl join2 x]
 | [],_,_=>rfl
 | y :: l,x,h=>by
  have hy:=h y (by simp)
  have e:putC [x] y=[join2 x y]:=by
   have h0:cmpL x.key y.key=0:=by rw[hy];exact cmpL_self _
   simp only[putC]
   rw[if_neg (by omega),if_pos h0]
  rw[List.foldl_cons,e,List.foldl_cons]
  exact fold_alike l _ fun z hz=>h z (by simp[hz])
def GrpG (gs:List (List Cel)):Prop:=(∀ g ∈ gs,g ≠ []∧∀ x ∈ g,∀ y ∈ g,x.key=y.key)∧gs.Pairwise fun g h=>∀ x ∈ g,∀ y ∈ h,cmpL x.key y.key<0
theorem grp_groups:∀ (gs:List (List Cel)),GrpG gs→grpR gs.flatten=gs.map joinAll
 | [],_=>rfl
 | [] :: gs,h=>absurd rfl (h.1 [] (by simp)).1
 | (x :: g) :: gs,h=>by
  obtain⟨h1,h2⟩:=List.pairwise_cons.1 h.2
  have ih:=grp_groups gs ⟨fun k hk=>h.1 k (by simp[hk]),h2⟩
  unfold grpR at ih ⊢
  have e1:(x :: g).foldl putC []=[g.foldl join2 x]:=by
   rw[List.foldl_cons]
   exact fold_alike g x fun y hy=>(h.1 (x :: g) List.mem_cons_self).2 y (List.mem_cons_of_mem _ hy) x List.mem_cons_self
  rw[List.flatten_cons,List.foldl_append,e1,foldl_head,ih]
  ·rfl
  ·intro y hy
   obtain⟨k,hk,hy⟩:=List.mem_flatten.1 hy
   rw[join_key]
   exact h1 k hk x (by simp) y hy
structure Rs where
 v:Value
 n:Int
 J:List Cel
def keyO (l:List Cel):List Int:=(l.head?.map (·.key)).getD []
def leR (a b:Rs):Prop:=cmpL (keyO a.J) (keyO b.J)≤0
theorem leR_refl (a:Rs):leR a a:=by unfold leR;rw[cmpL_self];exact Int.le_refl _
theorem leR_trans {a b c:Rs} (h:leR a b) (k:leR b c):leR a c:=cmpL_trans h k
def pendC (l:List Rs):List Cel:=l.flatMap (·.J)
def RsOk (l:List Rs):Prop:=∀ e ∈ l,e.J ≠ []∧RiseC e.J
theorem pend_perm {l l':List Rs} (h:l.Perm l'):(pendC l).Perm (pendC l'):=h.flatMap_right _
theorem RsOk.perm {l l':List Rs} (h:RsOk l) (hp:l.Perm l'):RsOk l':=fun e he=>h e (hp.mem_iff.2 he)
def Took (l:List Rs) (x:Cel) (l':List Rs):Prop:=∃ e J' t,l=e :: t∧e.J=x :: J'∧((J'=[]∧l'.Perm t)∨(J' ≠ []∧∃ v,l'.Perm (⟨v,e.n,J'⟩ :: t)))
theorem Took.pend {l l':List Rs} {x:Cel} (h:Took l x l'):(pendC l).Perm (x :: pendC l'):=by
 obtain⟨e,J',t,rfl,he,h | ⟨-,v,h⟩⟩:=h
 ·obtain⟨rfl,h⟩:=h
  unfold pendC
  rw[List.flatMap_cons,he]
  exact List.Perm.cons x (pend_perm h).symm
 ·unfold pendC
  rw[List.flatMap_cons,he]
  refine List.Perm.cons x ?_
  have:=(pend_perm h).symm
  unfold pendC at this
  rw[List.flatMap_cons] at this
  exact this
theorem Took.ok {l l':List Rs} {x:Cel} (h:Took l x l') (ho:RsOk l):RsOk l':=by
 obtain⟨e,J',t,rfl,he,h | ⟨hne,v,h⟩⟩:=h
 ·exact fun k hk=>ho k (by simp[h.2.mem_iff.1 hk])
 ·refine RsOk.perm ?_ h.symm
  intro k hk
  rcases List.mem_cons.1 hk with rfl | hk
  ·have:=(ho e (by simp)).2
   rw[he] at this
   exact⟨hne,(List.pairwise_cons.1 this).2⟩
  ·exact ho k (by simp[hk])
theorem least_pend {l:List Rs} {e:Rs} {x:Cel} {J':List Cel} (h:HepN leR l.length l) (ho:RsOk l) (he:l[0]? = some e) (hx:e.J=x :: J'):∀ y ∈ pendC l,cmpL x.key y.key≤0:=fun y hy=>by
 obtain⟨f,hf,hy⟩:=List.mem_flatMap.1 hy
 have h1:=h.least_mem leR_refl leR_trans he f hf
 obtain⟨h2,h3⟩:=ho f hf
 obtain⟨z,K,hz⟩:∃ z K,f.J=z :: K:=List.exists_cons_of_ne_nil h2
 unfold leR at h1
 rw[hx,hz] at h1
 rw[hz] at hy h3
 rcases List.mem_cons.1 hy with rfl | hy
 ·exact h1
 ·exact cmpL_trans h1 (Int.le_of_lt ((List.pairwise_cons.1 h3).1 y hy))
def AliI (All:List Cel) (gs:List (List Cel)) (l:List Rs):Prop:=(gs.flatten ++ pendC l).Perm All∧RsOk l∧HepN leR l.length l∧GrpG gs∧∀ x ∈ gs.flatten,∀ y ∈ pendC l,cmpL x.key y.key<0
def AliS (All:List Cel) (gs:List (List Cel)) (k:List Int) (same:List Cel) (l:List Rs):Prop:=(gs.flatten ++ (same ++ pendC l)).Perm All∧RsOk l∧HepN leR l.length l∧GrpG gs∧(∀ x ∈ gs.flatten,cmpL x.key k<0)∧same ≠ []∧(∀ x ∈ same,x.key=k)∧∀ y ∈ pendC l,cmpL k y.key≤0
theorem AliI.first {All:List Cel} {gs:List (List Cel)} {l l':List Rs} {x:Cel} (h:AliI All gs l) (ht:Took l x l') (hh:HepN leR l'.length l'):AliS All gs x.key [x] l':=by
 obtain⟨h1,h2,h3,h4,h5⟩:=h
 have hp:=ht.pend
 have hx:x ∈ pendC l:=hp.mem_iff.2 (by simp)
 refine⟨(List.Perm.append_left _ hp.symm).trans h1,ht.ok h2,hh,h4,fun y hy=>h5 y hy x hx,by simp,fun y hy=>by rw[List.mem_singleton.1 hy],fun y hy=>?_⟩
 obtain⟨e,J',t,rfl,he,-⟩:=ht
 exact least_pend h3 h2 rfl he y (hp.mem_iff.2 (by simp[hy]))
theorem AliS.more {All:List Cel} {gs:List (List Cel)} {k:List Int} {same:List Cel} {l l':List Rs} {x:Cel} (h:AliS All gs k same l) (ht:Took l x l') (hh:HepN leR l'.length l') (hk:x.key=k):AliS All gs k (same ++ [x]) l':=by
 obtain⟨h1,h2,h3,h4,h5,h6,h7,h8⟩:=h
 have hp:=ht.pend
 refine⟨?_,ht.ok h2,hh,h4,h5,by simp,fun y hy=>?_,fun y hy=>h8 y (hp.mem_iff.2 (by simp[hy]))⟩
 ·refine (List.Perm.append_left _ ?_).trans h1
  rw[List.append_assoc]
  exact List.Perm.append_left _ hp.symm
 ·rcases List.mem_append.1 hy with hy | hy
  ·exact h7 y hy
  ·rw[List.mem_singleton.1 hy];exact hk
theorem AliS.close {All:List Cel} {gs:List (List Cel)} {k:List Int} {same:List Cel} {l:List Rs} (h:AliS All gs k same l) (hc:∀ e x J',l[0]? = some e→e.J=x :: J'→cmpL k x.key ≠ 0):AliI All (gs ++ [same]) l:=by
 obtain⟨h1,h2,h3,h4,h5,h6,h7,h8⟩:=h
 refine⟨?_,h2,h3,⟨fun g hg=>?_,?_⟩,fun x hx y hy=>?_⟩
 ·rw[List.flatten_append,List.flatten_cons,List.flatten_nil,List.append_nil,List.append_assoc]
  exact h1
 ·rcases List.mem_append.1 hg with hg | hg
  ·exact h4.1 g hg
  ·rw[List.mem_singleton.1 hg]
   exact⟨h6,fun x hx y hy=>by rw[h7 x hx,h7 y hy]⟩
 ·rw[List.pairwise_append]
  refine⟨h4.2,List.pairwise_singleton _ _,fun g hg s hs x hx y hy=>?_⟩
  rw[List.mem_singleton.1 hs] at hy
  rw[h7 y hy]
  exact h5 x (List.mem_flatten.2 ⟨g,hg,hx⟩)
 ·rcases l with _ | ⟨e,t⟩
  ·cases hy
  ·obtain⟨x0,J',he⟩:=List.exists_cons_of_ne_nil (h2 e (by simp)).1
   have hk0:cmpL k x0.key<0:=by
    have h9:=h8 x0 (List.mem_flatMap.2 ⟨e,by simp,by rw[he];simp⟩)
    have:=hc e x0 J' rfl he
    omega
   have hy0:=cmpL_lt_of hk0 (least_pend h3 h2 rfl he y hy)
   rw[List.flatten_append,List.flatten_cons,List.flatten_nil,List.append_nil] at hx
   rcases List.mem_append.1 hx with hx | hx
   ·exact cmpL_lt_trans (h5 x hx) hy0
   ·rw[h7 x hx];exact hy0
theorem AliI.fin {All:List Cel} {gs:List (List Cel)} (h:AliI All gs []):GrpG gs∧gs.flatten.Perm All:=by
 refine⟨h.2.2.2.1,?_⟩
 have:=h.1
 rwa [show pendC []=[] from rfl,List.append_nil] at this
theorem groups_grp {All:List Cel} {gs:List (List Cel)} (h:GrpG gs) (hp:gs.flatten.Perm All):gs.map joinAll=grpR All:=by rw[← grp_groups gs h,grpR_perm hp]
end Go.Proofs.YtnjlkhhcfiedbaaGreatDoor

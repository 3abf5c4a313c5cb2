import Derived.IntWalk
import Derived.Test.YtnjlkhhcfiedbaaGreatDoorSl
import Derived.Test.YtnjlkhhcfiedbaaGreatDoorHpT
import Derived.Test.YtnjlkhhcfiedbaaGreatDoorCcmp
import Derived.Test.YtnjlkhhcfiedbaaGreatDoorPieces
import Derived.Test.YtnjlkhhcfiedbaaGreatDoorRegP
import Derived.Test.YtnjlkhhcfiedbaaGreatDoorCelf
namespace Go.Proofs.YtnjlkhhcfiedbaaGreatDoor
open Go.RowKit Go.Shelf Go.Sort
attribute [local go_sem] Oper.semAt_some
def RCc (X:World) (P:Option Addr) (n:Nat) (Js:List (List Cel)):Prop:=0<n→∃ ad,P=some ad∧∀ (i:Nat) J,Js[i]? = some J→∃ Pi ci,X.cell? (ad.add i)=some (.slice Pi J.length ci)∧RowC X Pi J.length J∧J.length≤ci
theorem RCc.keep {X Y:World} {P:Option Addr} {n:Nat} {Js:List (List Cel)} (h:RCc X P n Js) (hk:Keeps X Y):RCc Y P n Js:=fun hn=>by
 obtain⟨ad,e,hc⟩:=h hn
 refine⟨ad,e,fun i J hJ=>?_⟩
 obtain⟨Pi,ci,h1,h2,h3⟩:=hc i J hJ
 exact⟨Pi,ci,hk _ _ h1,h2.keep hk,h3⟩
def neL (Js:List (List Cel)):List (List Cel):=Js.filter fun J=>!J.isEmpty
theorem neL_take {Js:List (List Cel)} {k:Nat} {J:List Cel} (h:Js[k]? = some J):neL (Js.take (k+1))=neL (Js.take k) ++ if J=[] then [] else [J]:=by
 unfold neL
 rw[List.take_add_one,h,Option.toList_some,List.filter_append]
 congr 1
 cases J with
 | nil=>rfl
 | cons a t=>simp
theorem neL_flat:∀ (Js:List (List Cel)),(neL Js).flatten=Js.flatten
 | []=>rfl
 | [] :: Js=>by
  have:=neL_flat Js
  unfold neL at this ⊢
  simpa using this
 | (x :: J) :: Js=>by
  have:=neL_flat Js
  unfold neL at this ⊢
  simpa using this
theorem neL_mem {Js:List (List Cel)} {J:List Cel} (h:J ∈ neL Js):J ∈ Js∧J ≠ []:=by
 unfold neL at h
 rw[List.mem_filter] at h
 exact⟨h.1,by intro e;rw[e] at h;simp at h⟩
theorem neL_len (Js:List (List Cel)):(neL Js).length≤Js.length:=List.length_filter_le _ _
def HofP (w0:World) (B h:Nat) (X:World) (Js:List (List Cel)) (W:World):Prop:=∃ v l,Hd w0 B h W v l∧HepN leR l.length l∧(l.map (·.J)).Perm (neL Js)∧Below B X W
theorem pend_map:∀ (l:List Rs),pendC l=(l.map (·.J)).flatten
 | []=>rfl
 | e :: l=>by
  have:=pend_map l
  unfold pendC at this ⊢
  rw[List.flatMap_cons,this]
  rfl
theorem HofP.facts {w0:World} {B h:Nat} {X W:World} {Js:List (List Cel)} (H:HofP w0 B h X Js W) (hr:∀ J ∈ Js,RiseC J):∃ v l,Hd w0 B h W v l∧AliI Js.flatten [] l∧Below B X W∧l.length≤Js.length:=by
 obtain⟨v,l,h1,h2,h3,h4⟩:=H
 refine⟨v,l,h1,⟨?_,fun e he=>?_,h2,⟨fun g hg=>(by cases hg),List.Pairwise.nil⟩,fun x hx=>(by cases hx)⟩,h4,?_⟩
 ·rw[List.flatten_nil,List.nil_append,pend_map]
  have:=h3.flatten
  rwa [neL_flat] at this
 ·have:=neL_mem (h3.mem_iff.1 (List.mem_map_of_mem he))
  exact⟨this.2,hr _ this.1⟩
 ·have:=h3.length_eq
  rw[List.length_map] at this
  rw[this]
  exact neL_len _
set_option maxRecDepth 100000 in
set_option maxHeartbeats 4000000 in
theorem headsOf_any (w0 X:World) (P:Option Addr) (c N:Nat) (Js:List (List Cel)) (hN:N=Js.length) (hN1:N≤1000) (hR:RCc w0 P N Js) (hb:Below w0.heap.size w0 X) (hk:∀ J ∈ Js,∀ x ∈ J,x.key.length≤1000000) :
  Calls Tryz.prog 117 #[.slice P N c,.func (.func 97) #[] #[]] X fun e W=>(∃ h,e=.returned (.pointer (some ⟨h,0,none⟩))∧HofP w0 X.heap.size h X Js W):=by
 obtain⟨X1,hX1⟩:∃ X1,X1=X.alloc (.cells #[.slice none 0 0,.func (.func 97) #[] #[]] 181):=⟨_,rfl⟩
 have hb1:Below X.heap.size X X1:=by rw[hX1];exact (Below.refl _ _).alloc (Nat.le_refl _) _
 have o1:Own 181 X1 X.heap.size [.slice none 0 0,.func (.func 97) #[] #[]]:=by rw[hX1];exact heap_alloc_new X _
 obtain⟨h,hh⟩:∃ h,h=X.heap.size:=⟨_,rfl⟩
 have H1:Hd w0 X.heap.size h X1 (.slice none 0 0) []:=⟨by rw[hh];exact o1,by omega,World.ownsRow_nil _ _ _ _,fun e he=>(by cases he),hb.trans (hb1.mono hb.size),hb.size⟩
 have HR:=Lib.hid hR
 have HK:=Lib.hid hk
 have HN:=Lib.hid hN
 have H1':=Lib.hid H1
 have HB1:=Lib.hid hb1
 have HX1:=Lib.hid hX1
 have HHX:=Lib.hid hh
 clear hR hb hk hN H1 hb1 o1 hX1 hh
 go_enter Tryz.func117,Tryz.ntmps117
 go_wp2_with fail
 rw[← HX1.out,← HHX.out]
 go_loopw [13] (fun i wr=>∃ k:Nat,i=.int .i64 (k:Int)∧k≤N∧HofP w0 X.heap.size h X (Js.take k) wr) (fun i _=>N - (intOf i).toNat)
 case atStart=>exact⟨0,rfl,Nat.zero_le _,_,[],H1'.out,HepN.nil,List.Perm.refl _,HB1.out⟩
 case round =>
  obtain⟨k,rfl,hkN,hHP⟩:=hrel
  rename World=>wr
  have HHP:=Lib.hid hHP
  clear hHP
  by_cases hlt:k<N
  ·have d1:decide ((k:Int)<(N:Int))=true:=by simp;omega
   have d2:decide (k<N)=true:=by simp;omega
   have hw:IntKind.i64.wrap ((k:Int)+1)=((k+1:Nat):Int):=by rw[IntWalk.i64_in _ (by omega)];rfl
   obtain⟨J,hJ⟩:∃ J,Js[k]? = some J:=⟨_,List.getElem?_eq_getElem (by rw[← HN.out];exact hlt)⟩
   obtain⟨ad,rfl,hc⟩:=HR.out (by omega)
   obtain⟨Pi,ci,c1,hrow,hcap⟩:=hc k J hJ
   obtain⟨v,l,H,hh,hp,hbl⟩:=HHP.out
   have c2:=(Keeps.of_below H.bw) _ _ c1
   have i0:(0:Int)≤(k:Int):=by omega
   have i1:(k:Int)<(N:Int):=by omega
   by_cases hJ0:J=[]
   ·have HF:=Lib.hid (show HofP w0 X.heap.size h X (Js.take (k+1)) wr from ⟨v,l,H,hh,by rw[neL_take hJ,if_pos hJ0,List.append_nil];exact hp,hbl⟩)
    rw[hJ0] at c2
    clear hc hrow hcap H hh hp hbl hJ hJ0 c1
    go_wp2_with fail
    go_roundw
    case rel=>exact⟨k+1,by go_num,by omega,HF.out⟩
    case measure=>simp[intOf];omega
   ·have hm:0<J.length:=List.length_pos_iff.2 hJ0
    obtain⟨ai,rfl,hcs⟩:=hrow hm
    obtain⟨m,em⟩:∃ m,m=J.length:=⟨_,rfl⟩
    have hl1:l.length+1≤100000:=by
     have h1:=hp.length_eq
     rw[List.length_map] at h1
     have h2:=neL_len (Js.take k)
     rw[List.length_take] at h2
     omega
    have HPU:=Lib.hid (heappush_any w0 X.heap.size h wr v l ⟨.slice (some ai) J.length ci,(k:Int),J⟩ H hh (fun e he=>by
     rcases List.mem_cons.1 he with rfl | he
     ·exact hJ0
     ·exact (neL_mem (hp.mem_iff.1 (List.mem_map_of_mem he))).2) ⟨ai,ci,rfl,hcs,HK.out J (List.mem_of_getElem? hJ),hcap⟩ hl1 hbl.size)
    dsimp only at HPU
    rw[← em] at c2 hm HPU
    have e8:decide (0<m)=true:=by simp;omega
    have HG:=Lib.hid (show ∀ W,HdTo w0 X.heap.size h v (⟨.slice (some ai) m ci,(k:Int),J⟩ :: l) wr W→HofP w0 X.heap.size h X (Js.take (k+1)) W from fun W hW=>by
     obtain⟨⟨v',l',g1,g2,g3,-⟩,g4⟩:=hW
     refine⟨v',l',g1,g3,?_,hbl.trans (g4.below (fun q hq=>?_) hbl.size)⟩
     ·rw[neL_take hJ,if_neg hJ0]
      refine (g2.map _).trans ?_
      rw[List.map_cons]
      exact (List.Perm.cons J hp).trans (List.perm_append_comm (l₁:=[J]))
     ·rcases hq with rfl | hq
      ·exact H.hB
      ·exact (H.row.lt q hq).1)
    clear hc hcs hcap H hh hp hbl hJ hJ0 c1 em hl1
    go_wp2_with fail
    refine HPU.out.mono ?_
    rintro e w5 ⟨⟨u,rfl⟩,hto⟩
    have HF:=Lib.hid (HG.out w5 hto)
    clear hto
    go_wp2_with fail
    go_roundw
    case rel=>exact⟨k+1,by go_num,by omega,HF.out⟩
    case measure=>simp[intOf];omega
  ·obtain rfl:k=N:=by omega
   have d1:decide ((k:Int)<(k:Int))=false:=by simp
   have HF:=Lib.hid (show HofP w0 X.heap.size h X Js wr from by have:=HHP.out;rwa [HN.out,List.take_length] at this)
   go_wp2_with fail
   go_ret
   exact⟨h,rfl,HF.out⟩
end Go.Proofs.YtnjlkhhcfiedbaaGreatDoor
namespace Go.Proofs.YtnjlkhhcfiedbaaGreatDoor
open Go.RowKit Go.Shelf Go.Sort
def pendW (h:Nat) (W:World):Nat:=match W.cell? ⟨h,0,none⟩ with
 | some (.slice (some g) n _)=>((List.range n).map fun i=>match W.cell? (g.add (i*2)) with
  | some (.slice _ m _)=>m
  | _=>0).sum
 | _=>0
theorem pend_len:∀ (l:List Rs),(pendC l).length=(l.map fun e=>e.J.length).sum
 | []=>rfl
 | e :: l=>by
  have:=pend_len l
  unfold pendC at this ⊢
  rw[List.flatMap_cons,List.length_append,this]
  rfl
theorem Hd.pendW {w0 X:World} {B h:Nat} {v:Value} {l:List Rs} (H:Hd w0 B h X v l):pendW h X=(pendC l).length:=by
 have c0:=H.box.cell (i:=0) rfl
 unfold Proofs.YtnjlkhhcfiedbaaGreatDoor.pendW
 rw[c0]
 rcases Nat.eq_zero_or_pos l.length with h0 | h0
 ·have hl:l=[]:=List.length_eq_zero_iff.1 h0
  obtain⟨A,c,rfl,-⟩:=own_form H.row
  rw[h0,hl]
  cases A <;> rfl
 ·obtain⟨g,c,rfl,-,-,hc⟩:=H.form h0
  rw[pend_len]
  show ((List.range l.length).map _).sum=_
  congr 1
  refine List.ext_getElem? fun i=>?_
  rw[List.getElem?_map,List.getElem?_map]
  rcases Nat.lt_or_ge i l.length with hi | hi
  ·obtain⟨e,he⟩:∃ e,l[i]? = some e:=⟨_,List.getElem?_eq_getElem hi⟩
   rw[List.getElem?_range hi,he,Option.map_some,Option.map_some]
   obtain⟨P,q,ev,-⟩:=H.rd e (List.mem_of_getElem? he)
   have:=(hc i e he).1
   rw[ev] at this
   rw[add0,this]
  ·rw[List.getElem?_eq_none hi,List.getElem?_eq_none (by simpa using hi)]
   rfl
theorem Took.len {l l':List Rs} {x:Cel} (h:Took l x l'):l'.length≤l.length∧(pendC l').length<(pendC l).length:=by
 have h1:=h.pend.length_eq
 rw[List.length_cons] at h1
 refine⟨?_,by omega⟩
 obtain⟨e,J',t,rfl,-,h | ⟨-,v,h⟩⟩:=h
 ·rw[h.2.length_eq];simp
 ·rw[h.length_eq];simp
theorem row_box {T e:TypeId} {X:World} {b B s n:Nat} {v:Value} {vs xs:List Value} (ho:Own T X b vs) (hr:X.ownsRow B e s v n xs) (hne:T ≠ e):v.ownBlock ≠ some b:=fun q=>by
 rcases hr.2 with ⟨rfl,-⟩ | ⟨g,cap,cur,rfl,-,hh,-⟩
 ·cases q
 ·injection q with q
  have h1:X.heap[b]? = _:=ho
  rw[← show g=b from q,hh] at h1
  injection h1 with h1
  injection h1 with _ h2 _
  exact hne h2.symm
abbrev GX:=Value × List Cel
def GpX (w0 X:World) (All:List Cel) (x:GX):Prop:=(∃ g c us,x.1=.slice (some ⟨g,0,none⟩) x.2.length c∧x.2.length≤c∧ReadsL w0 us x.2∧∀ j u,(flatV us)[j]? = some u→X.cell? ⟨g,j,none⟩=some u)∧x.2 ≠ []∧(∀ a ∈ x.2,∀ b ∈ x.2,a.key=b.key)∧∀ a ∈ x.2,a ∈ All
section
variable {σ:Type} {J:List GX→σ→World→Prop} {ok:σ→Nat→Prop} {w0 X Y:World} {B h:Nat} {All:List Cel}
def AO (J:List GX→σ→World→Prop) (ok:σ→Nat→Prop) (w0:World) (B h:Nat) (All:List Cel) (xs:List GX) (s:σ) (v:Value) (l:List Rs) (X:World):Prop:=J xs s X∧Hd w0 B h X v l∧AliI All (xs.map (·.2)) l∧l.length≤1000∧(∀ k,k=h∨v.ownBlock=some k→ok s k)∧B≤X.heap.size
def AS (J:List GX→σ→World→Prop) (ok:σ→Nat→Prop) (w0:World) (B h:Nat) (All:List Cel) (xs:List GX) (s:σ) (v:Value) (l:List Rs) (u:Value) (us:List V5) (same:List Cel) (ky:List Int) (X:World):Prop:=J xs s X∧Hd w0 B h X v l∧AliS All (xs.map (·.2)) ky same l∧l.length≤1000∧(∀ k,k=h∨v.ownBlock=some k→ok s k)∧B≤X.heap.size∧X.ownsRow B 46 5 u us.length (flatV us)∧ReadsL w0 us same∧∀ k,u.ownBlock=some k→ok s k
def JOk (J:List GX→σ→World→Prop) (ok:σ→Nat→Prop) (w0:World):Prop:=(∀ pre s X,J pre s X→Below w0.heap.size w0 X)∧(∀ pre s X k,J pre s X→X.heap.size≤k→ok s k)∧∀ pre s X Y M,J pre s X→Tch M X Y→(∀ k,M k→ok s k)→J pre s Y
theorem AO.first (hJ:JOk J ok w0) {xs:List GX} {s:σ} {v v':Value} {l l':List Rs} {x:Cel} {u:V5} (H:AO J ok w0 B h All xs s v l X) (hH:Hd w0 B h Y v' l') (hh:HepN leR l'.length l') (ht:Took l x l') (hbl:v'.ownBlock=v.ownBlock∨∃ k,v'.ownBlock=some k∧X.heap.size≤k) (hT:Tch (fun k=>k=h∨v.ownBlock=some k) X Y) (hu:Reads w0 u x) :
  AS J ok w0 B h All xs s v' l' (.slice (some ⟨Y.heap.size,0,none⟩) 1 1) [u] [x] x.key (Y.alloc (.cells #[u.a,u.b,u.c,u.d,u.e] 46)):=by
 obtain⟨h1,h2,h3,h4,h5,h6⟩:=H
 have hYb:Below Y.heap.size Y (Y.alloc (.cells #[u.a,u.b,u.c,u.d,u.e] 46)):=(Below.refl _ _).alloc (Nat.le_refl _) _
 have hJY:=hJ.2.2 _ _ _ _ _ h1 hT h5
 refine⟨hJ.2.2 _ _ _ _ (fun _=>False) hJY (Tch.of_below _ hYb) fun _ hk=>hk.elim,hH.below hYb,h3.first ht hh,Nat.le_trans ht.len.1 h4,fun k hk=>?_,Nat.le_trans h6 (Nat.le_trans hT.size hYb.size),?_,⟨rfl,fun i v y hv hy=>?_⟩,fun k hk=>?_⟩
 ·rcases hk with hk | hk
  ·exact h5 k (.inl hk)
  ·rcases hbl with q | ⟨k',q,q2⟩
   ·exact h5 k (.inr (q ▸ hk))
   ·rw[q] at hk
    injection hk with hk
    exact hJ.2.1 _ _ _ k h1 (by omega)
 ·refine⟨by simp[flatV,V5.l],.inr ⟨Y.heap.size,1,#[u.a,u.b,u.c,u.d,u.e],rfl,Nat.le_trans h6 hT.size,?_,Nat.le_refl _,by simp[maxLen],rfl,by simp[flatV,V5.l]⟩⟩
  exact heap_alloc_new Y _
 ·rcases i with _ | i
  ·simp only[List.getElem?_cons_zero,Option.some.injEq] at hv hy
   subst hv hy
   exact hu
  ·simp at hv
 ·injection hk with hk
  exact hJ.2.1 _ _ _ k hJY (by show Y.heap.size≤k;exact Nat.le_of_eq hk)
theorem AS.more (hJ:JOk J ok w0) {xs:List GX} {s:σ} {v v' u0:Value} {l l':List Rs} {x:Cel} {u:V5} {us:List V5} {same:List Cel} {ky:List Int} (H:AS J ok w0 B h All xs s v l u0 us same ky X) (hH:Hd w0 B h Y v' l') (hh:HepN leR l'.length l') (ht:Took l x l') (hbl:v'.ownBlock=v.ownBlock∨∃ k,v'.ownBlock=some k∧X.heap.size≤k) (hT:Tch (fun k=>k=h∨v.ownBlock=some k) X Y) (hu:Reads w0 u x) (hk:x.key=ky) (hl:us.length+1≤1000000) :
  ∃ u' Z,(Builtin.append_ #[31,31] 31 #[u0,.slice (some ⟨Y.heap.size,0,none⟩) 1 1]).run Tryz.prog (Y.alloc (.cells #[u.a,u.b,u.c,u.d,u.e] 46))=.ok u' Z∧AS J ok w0 B h All xs s v' l' u' (us ++ [u]) (same ++ [x]) ky Z:=by
 obtain⟨h1,h2,h3,h4,h5,h6,h7,h8,h9⟩:=H
 have hJY:=hJ.2.2 _ _ _ _ _ h1 hT h5
 have hb1:u0.ownBlock ≠ some h:=row_box h2.box h7 (by decide)
 have hrow:Y.ownsRow B 46 5 u0 us.length (flatV us):=own_stay h7 fun k hk'=>hT.block k (h7.lt k hk').2 fun hm=>by
  rcases hm with rfl | hm
  ·exact hb1 hk'
  ·rcases own_apart h7 h2.row (by decide) with q | q
   ·rw[q] at hk';cases hk'
   ·exact q (hk'.trans hm.symm)
 obtain⟨u',Z,hrun,hr2,ht2,hb2⟩:=append_row5 hrow (u:=u) (by
  obtain⟨e1,⟨⟨P1,q1,f1,-⟩,⟨P2,q2,f2,-⟩,⟨P3,q3,f3,-⟩,⟨P4,q4,f4,-⟩⟩,-⟩:=hu
  intro w hw
  simp only[V5.l,List.mem_cons,List.not_mem_nil,or_false] at hw
  rcases hw with rfl | rfl | rfl | rfl | rfl
  ·rw[f1];rfl
  ·rw[e1];rfl
  ·rw[f2];rfl
  ·rw[f3];rfl
  ·rw[f4];rfl) hl (Nat.le_trans h6 hT.size)
 have hokY:∀ k,u0.ownBlock=some k→ok s k:=h9
 have hok2:∀ k,k=h∨v'.ownBlock=some k→ok s k:=fun k hk=>by
  rcases hk with hk | hk
  ·exact h5 k (.inl hk)
  ·rcases hbl with q | ⟨k',q,q2⟩
   ·exact h5 k (.inr (q ▸ hk))
   ·rw[q] at hk
    injection hk with hk
    exact hJ.2.1 _ _ _ k h1 (by omega)
 refine⟨u',Z,hrun,hJ.2.2 _ _ _ _ _ hJY ht2 hokY,hH.stay ht2 (fun k hk=>⟨fun e=>hb1 (by rw[← e];exact hk),fun e=>?_,?_⟩),h3.more ht hh hk,Nat.le_trans ht.len.1 h4,hok2,Nat.le_trans h6 (Nat.le_trans hT.size ht2.size),hr2,?_,fun k hk=>?_⟩
 ·rcases own_apart hrow hH.row (by decide) with q | q
  ·rw[q] at hk;cases hk
  ·exact q (hk.trans e.symm)
 ·exact Nat.le_trans hH.wB (hrow.lt k hk).1
 ·exact⟨by rw[List.length_append,List.length_append,h8.1];rfl,fun i a b ha hb=>by
   rcases Nat.lt_or_ge i us.length with hi | hi
   ·rw[List.getElem?_append_left hi] at ha
    rw[List.getElem?_append_left (by rw[← h8.1];exact hi)] at hb
    exact h8.2 i a b ha hb
   ·rw[List.getElem?_append_right hi] at ha
    rw[List.getElem?_append_right (by rw[← h8.1];exact hi),← h8.1] at hb
    rcases hz:i - us.length with _ | z
    ·rw[hz] at ha hb
     simp only[List.getElem?_cons_zero,Option.some.injEq] at ha hb
     subst ha hb
     exact hu
    ·rw[hz] at ha;simp at ha⟩
 ·rcases hb2 k hk with q | q
  ·exact h9 k q
  ·exact hJ.2.1 _ _ _ k hJY q
theorem AS.group {xs:List GX} {s:σ} {v u0:Value} {l:List Rs} {us:List V5} {same:List Cel} {ky:List Int} (H:AS J ok w0 B h All xs s v l u0 us same ky X):GpX w0 X All (u0,same):=by
 obtain⟨h1,h2,h3,h4,h5,h6,h7,h8,h9⟩:=H
 have hne:=h3.2.2.2.2.2.1
 have hsl:us.length=same.length:=h8.1
 have h0:0<same.length:=List.length_pos_iff.2 hne
 obtain⟨A,c,rfl,hlc,-,hc⟩:=own_form h7
 obtain⟨g,rfl,-,hc⟩:=hc (by omega)
 refine⟨⟨g,c,us,by rw[hsl],by rw[← hsl];exact hlc,h8,hc⟩,hne,fun a ha b hb=>?_,fun a ha=>h3.1.mem_iff.1 ?_⟩
 ·rw[h3.2.2.2.2.2.2.1 a ha,h3.2.2.2.2.2.2.1 b hb]
 ·exact List.mem_append_right _ (List.mem_append_left _ ha)
theorem grpG_len:∀ (gs:List (List Cel)),GrpG gs→gs.length≤gs.flatten.length
 | [],_=>Nat.le_refl _
 | g :: gs,h=>by
  have h1:=grpG_len gs ⟨fun k hk=>h.1 k (by simp[hk]),(List.pairwise_cons.1 h.2).2⟩
  have h2:=List.length_pos_iff.2 (h.1 g (by simp)).1
  rw[List.flatten_cons,List.length_append,List.length_cons]
  omega
theorem AS.bound {xs:List GX} {s:σ} {v u0:Value} {l:List Rs} {us:List V5} {same:List Cel} {ky:List Int} (H:AS J ok w0 B h All xs s v l u0 us same ky X):xs.length+same.length≤All.length:=by
 have h1:=grpG_len _ H.2.2.1.2.2.2.1
 have h2:=H.2.2.1.1.length_eq
 rw[List.length_append,List.length_append] at h2
 rw[List.length_map] at h1
 omega
theorem AS.told {tc:GX→σ→Nat→Prop} {xs:List GX} {s s':σ} {v u0:Value} {l:List Rs} {us:List V5} {same:List Cel} {ky:List Int} (hJ:JOk J ok w0) (H:AS J ok w0 B h All xs s v l u0 us same ky X) (hc:∀ e x J',l[0]? = some e→e.J=x :: J'→cmpL ky x.key ≠ 0) (hnt:∀ x s k,tc x s k→¬ ok s k) (hJ':J (xs ++ [(u0,same)]) s' Y) (hT:Tch (tc (u0,same) s) X Y) (hok:∀ k,k<X.heap.size→ok s k→ok s' k):AO J ok w0 B h All (xs ++ [(u0,same)]) s' v l Y:=by
 obtain⟨h1,h2,h3,h4,h5,h6,h7,h8,h9⟩:=H
 refine⟨hJ',⟨(hT.block h h2.box.lt fun hk=>hnt _ _ _ hk (h5 h (.inl rfl))).trans h2.box,h2.hB,own_stay h2.row fun k hk=>hT.block k (h2.row.lt k hk).2 fun hm=>hnt _ _ _ hm (h5 k (.inr hk)),h2.rd,hJ.1 _ _ _ hJ',h2.wB⟩,?_,h4,fun k hk=>?_,Nat.le_trans h6 hT.size⟩
 ·rw[List.map_append]
  exact h3.close hc
 ·refine hok k ?_ (h5 k hk)
  rcases hk with rfl | hk
  ·exact h2.box.lt
  ·exact (h2.row.lt k hk).2
theorem AS.below (hJ:JOk J ok w0) {xs:List GX} {s:σ} {v u0:Value} {l:List Rs} {us:List V5} {same:List Cel} {ky:List Int} (H:AS J ok w0 B h All xs s v l u0 us same ky X) (hb:Below X.heap.size X Y):AS J ok w0 B h All xs s v l u0 us same ky Y:=by
 obtain⟨h1,h2,h3,h4,h5,h6,h7,h8,h9⟩:=H
 exact⟨hJ.2.2 _ _ _ _ (fun _=>False) h1 (Tch.of_below _ hb) fun _ hk=>hk.elim,h2.below hb,h3,h4,h5,Nat.le_trans h6 hb.size,own_below h7 hb (Nat.le_refl _),h8,h9⟩
end
end Go.Proofs.YtnjlkhhcfiedbaaGreatDoor
namespace Go.Proofs.YtnjlkhhcfiedbaaGreatDoor
open Go.RowKit Go.Shelf Go.Sort
attribute [local go_sem] Oper.semAt_some
theorem hlen2 {w0 X:World} {B h:Nat} {v:Value} {l:List Rs} (H:Hd w0 B h X v l) (Y:World) (hb:Below X.heap.size X Y):Calls Tryz.prog 118 #[.pointer (some ⟨h,0,none⟩)] Y fun e w'=>e=.returned (.int .i64 (l.length:Int))∧Y=w':=by
 obtain⟨A,c,rfl,-⟩:=own_form H.row
 exact hdLen_any h l.length c A _ Y (H.below hb).box
theorem hleast2 {w0 X:World} {B h:Nat} {v:Value} {l t:List Rs} {e0:Rs} {x:Cel} {J':List Cel} (H:Hd w0 B h X v l) (hl:l=e0 :: t) (hx:e0.J=x :: J') :
  ∃ vk vs vn vm,CR w0 vk vs vn vm x∧inK .i64 x.cnt∧x.key.length≤1000000∧∀ Y,Below X.heap.size X Y→Calls Tryz.prog 120 #[.pointer (some ⟨h,0,none⟩)] Y fun e w'=>e=.returned (.agg #[vk,.int .i64 x.cnt,vs,vn,vm])∧Below Y.heap.size Y w':=by
 obtain⟨g,c,rfl,hlc,hg,hcell⟩:=H.form (by rw[hl];simp)
 obtain⟨p0,p1⟩:=hcell 0 e0 (by rw[hl];rfl)
 rw[Nat.zero_mul] at p0
 obtain⟨A,q,ev,hcs,hkl,hmq⟩:=H.rd e0 (by rw[hl];simp)
 rw[hx] at hcs hkl
 obtain⟨vk,vs,vn,vm,r0,r1,r2,r3,r4,hcr,hck⟩:=hcs.first
 rw[ev] at p0
 refine⟨vk,vs,vn,vm,hcr,hck,hkl x (by simp),fun Y hb=>?_⟩
 have k01:=(Keeps.of_below H.bw).trans (Keeps.of_below hb)
 exact hdLeast_any h g l.length c e0.J.length q A _ vk vs vn vm x Y (H.below hb).box (by rw[hl];simp) ((Keeps.of_below hb) _ _ p0) (by rw[hx];simp) (k01 _ _ r0) (k01 _ _ r1) (k01 _ _ r2) (k01 _ _ r3) (k01 _ _ r4) (hcr.keep k01)
set_option maxRecDepth 100000 in
set_option maxHeartbeats 8000000 in
theorem malike_in {σ:Type} (n l bl bk:Nat) (hn:3≤n) (P:Option Addr) (c N:Nat) (Js:List (List Cel)) (w0 W:World) (hN:N=Js.length) (hN1:N≤1000) (hR:RCc w0 P N Js) (hk:∀ J ∈ Js,∀ x ∈ J,x.key.length≤1000000) (hr:∀ J ∈ Js,RiseC J) (htot:Js.flatten.length≤100000)
  (J:List GX→σ→World→Prop) (ok:σ→Nat→Prop) (tc:GX→σ→Nat→Prop) (hJ:JOk J ok w0) (hcap:∀ pre s X,J pre s X→X.cell? ⟨bl,0,none⟩=some (.slice P N c)∧X.cell? ⟨bk,0,none⟩=some (.func (.func 97) #[] #[])) (hnt:∀ x s k,tc x s k→¬ ok s k)
  (hY:∀ pre s x W1,J pre s W1→GpX w0 W1 Js.flatten x→pre.length+x.2.length≤Js.flatten.length→YieldAt Fence.wide (n - 1) Tryz.prog l #[x.1] W1 fun e W'=>e=.returned (.bool true)∧∃ s',J (pre ++ [x]) s' W'∧Tch (tc x s) W1 W'∧∀ k,k<W1.heap.size→ok s k→ok s' k)
  (s0:σ) (h0:J [] s0 W) :
  CallsIn Fence.wide n Tryz.prog 116 #[.func (.yield l) #[] #[],.pointer (some ⟨bl,0,none⟩),.pointer (some ⟨bk,0,none⟩)] W fun e W'=>(∃ v,e=.returned v)∧∃ xs s,(GrpG (xs.map (·.2))∧(xs.map (·.2)).flatten.Perm Js.flatten)∧J xs s W':=by
 have hbW:=hJ.1 _ _ _ h0
 have HHO:=Lib.hid (headsOf_any w0 W P c N Js hN hN1 hR hbW hk)
 obtain⟨bcl,bck⟩:=hcap _ _ _ h0
 have HJ:=Lib.hid hJ
 have HNT:=Lib.hid hnt
 have HY:=Lib.hid hY
 have H0:=Lib.hid h0
 have HR:=Lib.hid hr
 have HTT:=Lib.hid htot
 have HCAP:=Lib.hid hcap
 have HKY:=Lib.hid (show ∀ x ∈ Js.flatten,x.key.length≤1000000 from fun x hx=>by obtain⟨J,hJ,hx⟩:=List.mem_flatten.1 hx;exact hk J hJ x hx)
 have HNN:=Lib.hid (And.intro hN hN1)
 obtain⟨All,hAll⟩:∃ All,All=Js.flatten:=⟨_,rfl⟩
 have HALL:=Lib.hid hAll
 rw[← hAll] at HKY
 clear hJ hnt hY h0 hr htot hcap hR hk hN hbW hAll
 refine callsIn_of_wp Tryz.func116 rfl trivial ?_ rfl
 simp only[Tryz.ntmps116,List.size_toArray,List.length_cons,List.length_nil,Nat.reduceAdd,Nat.reduceSub,Array.replicate_succ,Array.replicate_zero,List.push_toArray,List.append_toArray,List.nil_append,List.cons_append]
 gi_wp2_with fail
 refine⟨trivial,fun _=>by omega,?_⟩
 refine (callsIn_wide.2 HHO.out).mono ?_
 rintro e w1 ⟨h,rfl,hH⟩
 obtain⟨v0,l0,hh0,hA0,hb0,hl0⟩:=hH.facts HR.out
 have hAO:AO J ok w0 W.heap.size h Js.flatten [] s0 v0 l0 w1:=⟨HJ.out.2.2 _ _ _ _ (fun _=>False) H0.out (Tch.of_below _ hb0) fun _ hk=>hk.elim,hh0,hA0,by have:=HNN.out;omega,fun k hk=>HJ.out.2.1 _ _ _ k H0.out (by
  rcases hk with rfl | hk
  ·exact hh0.hB
  ·exact (hh0.row.lt k hk).1),hb0.size⟩
 rw[← HALL.out] at hAO
 have HAO:=Lib.hid hAO
 clear hH hh0 hA0 hb0 hl0 hAO bcl
 gi_wp2_with fail
 gi_loopw [5] (fun _ wr=>∃ xs s v l,AO J ok w0 W.heap.size h All xs s v l wr) (fun _ wr=>pendW h wr)
 case atStart=>exact⟨[],s0,v0,l0,HAO.out⟩
 case round =>
  obtain⟨xs,s,v,l,hAO⟩:=hrel
  rename World=>wr
  have HAO:=Lib.hid hAO
  have HLN:=Lib.hid (hlen2 hAO.2.1 wr (Below.refl _ _))
  clear hAO
  rcases l with _ | ⟨e0,t⟩
  ·have HF:=Lib.hid (show ∃ xs s,(GrpG (xs.map (·.2))∧(xs.map (·.2)).flatten.Perm Js.flatten)∧J xs s wr from ⟨xs,s,by have:=HAO.out.2.2.1.fin;rw[HALL.out] at this;exact this,HAO.out.1⟩)
   rw[List.length_nil] at HLN
   gi_wp2_with fail
   refine⟨trivial,fun _=>by omega,?_⟩
   refine (callsIn_wide.2 HLN.out).mono ?_
   rintro e w2 ⟨rfl,hw2⟩
   rw[← hw2]
   clear hw2 w2
   gi_wp2_with fail
   go_end0
   exact⟨⟨_,rfl⟩,HF.out⟩
  ·obtain⟨x,J',hxJ⟩:=List.exists_cons_of_ne_nil (HAO.out.2.2.1.2.1 e0 (by simp)).1
   obtain⟨m,hm⟩:∃ m,m=(e0 :: t).length:=⟨_,rfl⟩
   rw[← hm] at HLN
   have m0:0<m:=by rw[hm];simp
   have d1:decide (0<m)=true:=by simp;omega
   have HTK:=Lib.hid (htake_any w0 W.heap.size h wr v (e0 :: t) e0 t x J' HAO.out.2.1 HAO.out.2.2.1.2.2.1 HAO.out.2.2.1.2.1 rfl hxJ (Nat.le_trans HAO.out.2.2.2.1 (by omega)))
   have HM0:=Lib.hid (HAO.out.2.1.pendW)
   clear hm hxJ
   gi_wp2_with fail
   refine⟨trivial,fun _=>by omega,?_⟩
   refine (callsIn_wide.2 HLN.out).mono ?_
   rintro e w2 ⟨rfl,hw2⟩
   rw[← hw2]
   clear hw2 w2
   gi_wp2_with fail
   refine⟨trivial,fun _=>by omega,?_⟩
   refine (callsIn_wide.2 HTK.out).mono ?_
   rintro e w3 ⟨⟨vk,vs,vn,vm,rfl,hcr,hck⟩,⟨v',l',H3,hh3,ht3,hbl3⟩,hT3⟩
   have hAS:=AO.first HJ.out HAO.out H3 hh3 ht3 hbl3 hT3 (u:=⟨vk,.int .i64 x.cnt,vs,vn,vm⟩) ⟨rfl,hcr,hck⟩
   have hmm:(pendC l').length<pendW h wr:=by rw[HM0.out];exact ht3.len.2
   obtain⟨⟨Pk,ck,f1,-⟩,⟨Ps,cs,f2,-⟩,⟨Pn,cn,f3,-⟩,⟨Pm,cm,f4,-⟩⟩:=id hcr
   subst f1 f2 f3 f4
   dsimp only at hAS
   have HAS:=Lib.hid hAS
   have HMM:=Lib.hid hmm
   obtain⟨xc,exc⟩:∃ z,z=x.cnt:=⟨_,rfl⟩
   obtain⟨l1,hl1⟩:∃ z,z=x.key.length:=⟨_,rfl⟩
   obtain⟨l2,hl2⟩:∃ z,z=x.sum.length:=⟨_,rfl⟩
   obtain⟨l3,hl3⟩:∃ z,z=x.mn.length:=⟨_,rfl⟩
   obtain⟨l4,hl4⟩:∃ z,z=x.mx.length:=⟨_,rfl⟩
   rw[← exc,← hl1,← hl2,← hl3,← hl4] at HAS ⊢
   clear hAS hmm hcr hck H3 hh3 ht3 hbl3 hT3 exc hl1 hl2 hl3 hl4 d1 m0
   gi_wp2_with fail
   gi_loopw [5] (fun p wq=>∃ v l us same ky,AS J ok w0 W.heap.size h All xs s v l p us same ky wq∧(pendC l).length<pendW h wr) (fun _ wq=>pendW h wq)
   case atStart=>exact⟨_,_,_,_,_,HAS.out,HMM.out⟩
   case round =>
    obtain⟨v2,l2,us,same,ky,hAS2,hM2⟩:=hrel
    rename World=>wq
    have HM2:=Lib.hid hM2
    have HLN:=Lib.hid (hlen2 hAS2.2.1 wq.drew ((Below.refl _ _).drew))
    have HAS2:=Lib.hid hAS2
    clear hM2 hAS2 HAS HMM HTK
    rcases l2 with _ | ⟨e2,t2⟩
    ·rw[List.length_nil] at HLN
     gi_wp2_with fail
     refine region_NJ (S:=fun _=>True) (kill:=[]) (by kernel_rfl) trivial (fun hHeld=>?_)
     refine WTN (i:=0) (v:=?vra0) ?yra0 hHeld ?rra0
     case yra0=>(intro W hW;obtain hW:=hW;go_simp;first | done | with_reducible rfl)
     try simp only[SL,Act.put]
     refine anyN_ready (rs:=[1]) (by kernel_rfl) (by simp) ?_
     refine AllN.cons (by kernel_rfl) rfl (by rfl) (fun K hK=>?_) (AllN.nil)
     refine⟨fun _ _=>trivial,?_⟩
     go_simp
     refine⟨fun _=>by omega,?_⟩
     refine (callsIn_wide.2 HLN.out).mono ?_
     rintro e wz ⟨rfl,hw⟩
     rw[← hw]
     clear hw wz
     refine hK.out _ _ (fun _=>trivial) ?_
     clear hK K
     try simp only[SL,Act.put]
     refine WTN (i:=2) (v:=?vra2) ?yra2 hHeld ?rra2
     case yra2=>(intro W hW;obtain hW:=hW;go_simp;first | done | with_reducible rfl)
     try simp only[SL,Act.put]
     refine WTN (i:=3) (v:=?vra3) ?yra3 hHeld ?rra3
     case yra3=>(intro W hW;obtain hW:=hW;go_simp;first | done | with_reducible rfl)
     try simp only[SL,Act.put]
     refine anyN_take (i:=4) (v:=undef) (by kernel_rfl) rfl (by kernel_rfl) (by kernel_rfl) (by kernel_rfl) (by kernel_rfl) (by kernel_rfl) (fun _ _ _ h=>h) (fun _=>rfl) (Or.inr ⟨by rfl,rfl⟩) hHeld ?rra4
     try simp only[SL,Act.put]
     refine anyN_take (i:=5) (v:=undef) (by kernel_rfl) rfl (by kernel_rfl) (by kernel_rfl) (by kernel_rfl) (by kernel_rfl) (by kernel_rfl) (fun _ _ _ h=>h) (fun _=>rfl) (Or.inr ⟨by rfl,rfl⟩) hHeld ?rra5
     try simp only[SL,Act.put]
     refine anyN_take (i:=6) (v:=undef) (by kernel_rfl) rfl (by kernel_rfl) (by kernel_rfl) (by kernel_rfl) (by kernel_rfl) (by kernel_rfl) (fun _ _ _ h=>h) (fun _=>rfl) (Or.inr ⟨by rfl,rfl⟩) hHeld ?rra6
     try simp only[SL,Act.put]
     refine anyN_take (i:=7) (v:=undef) (by kernel_rfl) rfl (by kernel_rfl) (by kernel_rfl) (by kernel_rfl) (by kernel_rfl) (by kernel_rfl) (fun _ _ _ h=>h) (fun _=>rfl) (Or.inr ⟨by rfl,rfl⟩) hHeld ?rra7
     try simp only[SL,Act.put]
     refine anyN_take (i:=8) (v:=undef) (by kernel_rfl) rfl (by kernel_rfl) (by kernel_rfl) (by kernel_rfl) (by kernel_rfl) (by kernel_rfl) (fun _ _ _ h=>h) (fun _=>rfl) (Or.inr ⟨by rfl,rfl⟩) hHeld ?rra8
     try simp only[SL,Act.put]
     refine anyN_take (i:=9) (v:=undef) (by kernel_rfl) rfl (by kernel_rfl) (by kernel_rfl) (by kernel_rfl) (by kernel_rfl) (by kernel_rfl) (fun _ _ _ h=>h) (fun _=>rfl) (Or.inr ⟨by rfl,rfl⟩) hHeld ?rra9
     try simp only[SL,Act.put]
     refine anyN_ready (rs:=[10]) (by kernel_rfl) (by simp) ?_
     refine AllN.skip rfl (by rfl) (fun _=>trivial) (fun _=>trivial) ?_ (AllN.nil)
     try simp only[SL,Act.put]
     refine anyN_ready (rs:=[11]) (by kernel_rfl) (by simp) ?_
     refine AllN.skip rfl (by rfl) (fun _=>trivial) (fun _=>trivial) ?_ (AllN.nil)
     try simp only[SL,Act.put]
     refine anyN_take (i:=12) (v:=undef) (by kernel_rfl) rfl (by kernel_rfl) (by kernel_rfl) (by kernel_rfl) (by kernel_rfl) (by kernel_rfl) (fun _ _ _ h=>h) (fun _=>rfl) (Or.inr ⟨by rfl,rfl⟩) hHeld ?rra12
     try simp only[SL,Act.put]
     refine WTN (i:=13) (v:=?vra13) ?yra13 hHeld ?rra13
     case yra13=>(intro W hW;obtain hW:=hW;go_simp;first | done | with_reducible rfl)
     try simp only[SL,Act.put]
     refine anyN_done (by kernel_rfl) (noP_normal ?_) _
     have HASD:=Lib.hid (HAS2.out.below HJ.out (Below.refl wq.heap.size wq).drew)
     have HGP:=AS.group HASD.out
     obtain⟨fn,tmps,assign,body,hy,hR⟩:=HY.out xs s (_,same) wq.drew HASD.out.1 (by rw[HALL.out] at HGP;exact HGP) (by have q:=AS.bound HASD.out;rw[HALL.out] at q;exact q)
     dsimp only at hy
     have HRR:=Lib.hid hR
     clear hR HGP
     gi_wp2_with fail
     refine⟨fun _=>by omega,?_⟩
     refine HRR.out.mono ?_
     rintro e X7 ⟨rfl,s',hJ7,ht7,hok7⟩
     have HAO7:=Lib.hid (AS.told HJ.out HASD.out (fun e x K h=>by simp at h) HNT.out hJ7 ht7 hok7)
     clear hJ7 ht7 hok7 hy
     gi_wp2_with fail
     go_roundw
     case rel=>exact⟨_,s',v2,_,HAO7.out⟩
     case measure =>
      rw[HAO7.out.2.1.pendW]
      exact HM2.out
    ·obtain⟨x2,J2,hx2⟩:=List.exists_cons_of_ne_nil (HAS2.out.2.2.1.2.1 e2 (by simp)).1
     obtain⟨wk,ws,wn,wm,hcr2,hck2,hkl2,hL2⟩:=hleast2 HAS2.out.2.1 rfl hx2
     obtain⟨m2,hm2⟩:∃ m,m=(e2 :: t2).length:=⟨_,rfl⟩
     have m20:0<m2:=by rw[hm2];simp
     have d1:decide (0<m2)=true:=by simp;omega
     rw[← hm2] at HLN
     have hrow:=HAS2.out.2.2.2.2.2.2.1
     have hrd:=HAS2.out.2.2.2.2.2.2.2.1
     have hbw:Below w0.heap.size w0 wq:=HJ.out.1 _ _ _ HAS2.out.1
     obtain⟨y,hy0⟩:∃ y,same[0]? = some y:=⟨_,List.getElem?_eq_getElem (List.length_pos_iff.2 HAS2.out.2.2.1.2.2.2.2.2.1)⟩
     have hky:y.key=ky:=HAS2.out.2.2.1.2.2.2.2.2.2.1 y (List.mem_of_getElem? hy0)
     have hn0:0<us.length:=by rw[hrd.1];exact (List.getElem?_eq_some_iff.1 hy0).1
     obtain⟨u,hu0⟩:∃ u,us[0]? = some u:=⟨_,List.getElem?_eq_getElem hn0⟩
     obtain⟨A5,c5,e5,-,-,hc5⟩:=own_form hrow
     obtain⟨g5,rfl,-,hc5⟩:=hc5 hn0
     subst e5
     obtain⟨f0,f1,f2,f3,f4⟩:=flatV_five hu0
     obtain⟨hub,hucr,huck⟩:=hrd.2 0 u y hu0 hy0
     obtain⟨ua,ub,uc,ud,ue⟩:=u
     dsimp only at f0 f1 f2 f3 f4 hub hucr
     subst hub
     have r0:=hc5 _ _ f0
     have r1:=hc5 _ _ f1
     have r2:=hc5 _ _ f2
     have r3:=hc5 _ _ f3
     have r4:=hc5 _ _ f4
     rw[Nat.zero_mul] at r0 r1 r2 r3 r4
     rw[Nat.zero_add] at r1 r2 r3 r4
     have rk:=(HCAP.out _ _ _ HAS2.out.1).2
     have HCM:=Lib.hid (fun (Z:World) (hz:Below w0.heap.size w0 Z)=>mcmp_grow ua uc ud ue wk ws wn wm y x2 Z (hucr.keep (Keeps.of_below hz)) (hcr2.keep (Keeps.of_below hz)) (by
      have h1:=HAS2.out.2.2.1
      have h2:cmpL ky x2.key≤0∨True:=.inr trivial
      exact HKY.out y (h1.1.mem_iff.1 (List.mem_append_right _ (List.mem_append_left _ (List.mem_of_getElem? hy0))))) hkl2)
     obtain⟨⟨P1,q1,f1,-⟩,⟨P2,q2,f2,-⟩,⟨P3,q3,f3,-⟩,⟨P4,q4,f4,-⟩⟩:=hucr
     subst f1 f2 f3 f4
     obtain⟨⟨R1,p1,f1,-⟩,⟨R2,p2,f2,-⟩,⟨R3,p3,f3,-⟩,⟨R4,p4,f4,-⟩⟩:=hcr2
     subst f1 f2 f3 f4
     obtain⟨yc,eyc⟩:∃ z,z=y.cnt:=⟨_,rfl⟩
     obtain⟨xc2,exc2⟩:∃ z,z=x2.cnt:=⟨_,rfl⟩
     obtain⟨k1,hk1⟩:∃ z,z=y.key.length:=⟨_,rfl⟩
     obtain⟨k2,hk2⟩:∃ z,z=y.sum.length:=⟨_,rfl⟩
     obtain⟨k3,hk3⟩:∃ z,z=y.mn.length:=⟨_,rfl⟩
     obtain⟨k4,hk4⟩:∃ z,z=y.mx.length:=⟨_,rfl⟩
     obtain⟨j1,hj1⟩:∃ z,z=x2.key.length:=⟨_,rfl⟩
     obtain⟨j2,hj2⟩:∃ z,z=x2.sum.length:=⟨_,rfl⟩
     obtain⟨j3,hj3⟩:∃ z,z=x2.mn.length:=⟨_,rfl⟩
     obtain⟨j4,hj4⟩:∃ z,z=x2.mx.length:=⟨_,rfl⟩
     obtain⟨n5,hn5⟩:∃ z,z=us.length:=⟨_,rfl⟩
     rw[← eyc,← exc2,← hk1,← hk2,← hk3,← hk4,← hj1,← hj2,← hj3,← hj4] at HCM
     rw[← exc2,← hj1,← hj2,← hj3,← hj4] at hL2
     rw[← eyc] at r1
     rw[← hk1] at r0
     rw[← hk2] at r2
     rw[← hk3] at r3
     rw[← hk4] at r4
     rw[← hn5] at HAS2 hn0 ⊢
     have HL2:=Lib.hid (hL2 wq.drew (Below.refl _ _).drew)
     have HBW:=Lib.hid hbw
     have HYK:=Lib.hid (And.intro hky (And.intro hx2 (And.intro hn5 hrd.1)))
     have HTL:=Lib.hid (show us.length+1≤1000000 by
      have h1:=HAS2.out.2.2.1.1.length_eq
      rw[List.length_append,List.length_append] at h1
      have h2:=HTT.out
      rw[← HALL.out] at h2
      rw[hrd.1]
      omega)
     clear hm2 hrow hrd hbw hy0 hky hu0 hc5 f0 hL2 hx2 hck2 hkl2 eyc exc2 hk1 hk2 hk3 hk4 hj1 hj2 hj3 hj4 hn5 huck
     gi_wp2_with fail
     refine region_NJ (S:=fun Z=>(Z.cell? ⟨g5,0,none⟩=some (.slice P1 k1 q1)∧Z.cell? ⟨g5,1,none⟩=some (.int .i64 yc)∧Z.cell? ⟨g5,2,none⟩=some (.slice P2 k2 q2)∧Z.cell? ⟨g5,3,none⟩=some (.slice P3 k3 q3)∧Z.cell? ⟨g5,4,none⟩=some (.slice P4 k4 q4))∧Z.cell? ⟨bk,0,none⟩=some (.func (.func 97) #[] #[])) (kill:=[]) (by kernel_rfl) ⟨⟨r0,r1,r2,r3,r4⟩,rk⟩ (fun hHeld=>?_)
     refine WTN (i:=0) (v:=?vrb0) ?yrb0 hHeld ?rrb0
     case yrb0=>(intro W hW;obtain⟨⟨g0,g1,g2,g3,g4⟩,g5⟩:=hW;go_simp;first | done | with_reducible rfl)
     try simp only[SL,Act.put]
     refine anyN_ready (rs:=[1]) (by kernel_rfl) (by simp) ?_
     refine AllN.cons (by kernel_rfl) rfl (by rfl) (fun K hK=>?_) (AllN.nil)
     refine⟨fun _ _=>trivial,?_⟩
     go_simp
     refine⟨fun _=>by omega,?_⟩
     refine (callsIn_wide.2 HLN.out).mono ?_
     rintro e wz ⟨rfl,hw⟩
     rw[← hw]
     clear hw wz
     refine hK.out _ _ (fun _=>hHeld) ?_
     clear hK K
     try simp only[SL,Act.put]
     refine WTN (i:=2) (v:=?vrb2) ?yrb2 hHeld ?rrb2
     case yrb2=>(intro W hW;obtain⟨⟨g0,g1,g2,g3,g4⟩,g5⟩:=hW;go_simp;first | done | with_reducible rfl)
     try simp only[SL,Act.put]
     refine WTN (i:=3) (v:=?vrb3) ?yrb3 hHeld ?rrb3
     case yrb3=>(intro W hW;obtain⟨⟨g0,g1,g2,g3,g4⟩,g5⟩:=hW;go_simp;first | done | with_reducible rfl)
     try simp only[SL,Act.put]
     refine WTN (i:=4) (v:=?vrb4) ?yrb4 hHeld ?rrb4
     case yrb4=>(intro W hW;obtain⟨⟨g0,g1,g2,g3,g4⟩,g5⟩:=hW;go_simp;first | done | with_reducible rfl)
     try simp only[SL,Act.put]
     refine WTN (i:=5) (v:=?vrb5) ?yrb5 hHeld ?rrb5
     case yrb5=>(intro W hW;obtain⟨⟨g0,g1,g2,g3,g4⟩,g5⟩:=hW;go_simp;first | done | with_reducible rfl)
     try simp only[SL,Act.put]
     refine WTN (i:=6) (v:=?vrb6) ?yrb6 hHeld ?rrb6
     case yrb6=>(intro W hW;obtain⟨⟨g0,g1,g2,g3,g4⟩,g5⟩:=hW;go_simp;first | done | with_reducible rfl)
     try simp only[SL,Act.put]
     refine WTN (i:=7) (v:=?vrb7) ?yrb7 hHeld ?rrb7
     case yrb7=>(intro W hW;obtain⟨⟨g0,g1,g2,g3,g4⟩,g5⟩:=hW;go_simp;first | done | with_reducible rfl)
     try simp only[SL,Act.put]
     refine WTN (i:=8) (v:=?vrb8) ?yrb8 hHeld ?rrb8
     case yrb8=>(intro W hW;obtain⟨⟨g0,g1,g2,g3,g4⟩,g5⟩:=hW;go_simp;first | done | with_reducible rfl)
     try simp only[SL,Act.put]
     refine WTN (i:=9) (v:=?vrb9) ?yrb9 hHeld ?rrb9
     case yrb9=>(intro W hW;obtain⟨⟨g0,g1,g2,g3,g4⟩,g5⟩:=hW;go_simp;first | done | with_reducible rfl)
     try simp only[SL,Act.put]
     refine anyN_ready (rs:=[10]) (by kernel_rfl) (by simp) ?_
     refine AllN.cons (by kernel_rfl) rfl (by rfl) (fun K hK=>?_) (AllN.nil)
     refine⟨fun _ _=>trivial,?_⟩
     go_simp
     refine⟨fun _=>by omega,?_⟩
     refine (callsIn_wide.2 HL2.out).mono ?_
     rintro e w4 ⟨rfl,hb4⟩
     have kp:=Keeps.of_below hb4
     have hHeld:=And.intro (And.intro (kp _ _ hHeld.1.1) (And.intro (kp _ _ hHeld.1.2.1) (And.intro (kp _ _ hHeld.1.2.2.1) (And.intro (kp _ _ hHeld.1.2.2.2.1) (kp _ _ hHeld.1.2.2.2.2))))) (kp _ _ hHeld.2)
     refine hK.out _ _ (fun _=>hHeld) ?_
     clear hK K
     try simp only[SL,Act.put]
     have hb04:Below w0.heap.size w0 w4:=HBW.out.trans (((Below.refl wq.heap.size wq).drew.trans hb4).mono HBW.out.size)
     obtain⟨cc,hcc⟩:∃ z,z=cmpL y.key x2.key:=⟨_,rfl⟩
     have hcm:=HCM.out w4 hb04
     rw[← hcc] at hcm
     have HC4:=Lib.hid hcm
     have HB4:=Lib.hid ((Below.refl wq.heap.size wq).drew.trans hb4)
     have HCC:=Lib.hid hcc
     clear hcm hb04 hcc HCM HL2 HLN kp
     refine anyN_ready (rs:=[11]) (by kernel_rfl) (by simp) ?_
     refine AllN.cons (by kernel_rfl) rfl (by rfl) (fun K hK=>?_) (AllN.nil)
     refine⟨fun _ _=>trivial,?_⟩
     go_simp
     refine⟨fun _=>by omega,?_⟩
     refine (callsIn_wide.2 HC4.out).mono ?_
     rintro e w5 ⟨rfl,os,rfl⟩
     have kg:=Keeps.of_below (below_growM w4 os)
     have hHeld:=And.intro (And.intro (kg _ _ hHeld.1.1) (And.intro (kg _ _ hHeld.1.2.1) (And.intro (kg _ _ hHeld.1.2.2.1) (And.intro (kg _ _ hHeld.1.2.2.2.1) (kg _ _ hHeld.1.2.2.2.2))))) (kg _ _ hHeld.2)
     refine hK.out _ _ (fun _=>hHeld) ?_
     clear hK K
     try simp only[SL,Act.put]
     by_cases hz:cc=0
     ·have d5:(cc == 0)=true:=by rw[hz];rfl
      have d6:decide (cc=0)=true:=by simp[hz]
      have HZ:=Lib.hid hz
      clear hz
      refine WTN (i:=12) (v:=?vrc12) ?yrc12 hHeld ?rrc12
      case yrc12=>(intro W hW;obtain hW:=hW;go_simp;first | done | with_reducible rfl)
      try simp only[SL,Act.put]
      refine WTN (i:=13) (v:=?vrc13) ?yrc13 hHeld ?rrc13
      case yrc13=>(intro W hW;obtain hW:=hW;go_simp;first | done | with_reducible rfl)
      try simp only[SL,Act.put]
      refine anyN_done (by kernel_rfl) (noP_normal ?_) _
      obtain⟨W5,hW5⟩:∃ W5,W5=grow w4 os:=⟨_,rfl⟩
      have hb5:Below wq.heap.size wq W5:=by rw[hW5];exact HB4.out.trans ((below_growM w4 os).mono HB4.out.size)
      rw[← hW5]
      have HAS5:=Lib.hid (HAS2.out.below HJ.out hb5)
      clear hb5 hW5 kg hHeld r0 r1 r2 r3 r4 rk
      have HTK2:=Lib.hid (htake_any w0 W.heap.size h W5 v2 (e2 :: t2) e2 t2 x2 J2 HAS5.out.2.1 HAS5.out.2.2.1.2.2.1 HAS5.out.2.2.1.2.1 rfl HYK.out.2.1 (Nat.le_trans HAS5.out.2.2.2.1 (by omega)))
      have hk2:x2.key=ky:=by
       have h1:=HCC.out.symm.trans HZ.out
       rw[← HYK.out.1]
       exact (cmpL_zero.1 h1).symm
      have HK2:=Lib.hid hk2
      clear hk2
      gi_wp2_with fail
      refine⟨trivial,fun _=>by omega,?_⟩
      refine (callsIn_wide.2 HTK2.out).mono ?_
      rintro e w6 ⟨⟨yk,ys,yn,ym,rfl,hcr6,hck6⟩,⟨v6,l6,H6,hh6,ht6,hbl6⟩,hT6⟩
      obtain⟨u7,Z7,hrun7,hAS7⟩:=AS.more HJ.out HAS5.out H6 hh6 ht6 hbl6 hT6 (u:=⟨yk,.int .i64 x2.cnt,ys,yn,ym⟩) ⟨rfl,hcr6,hck6⟩ HK2.out HTL.out
      have hmm6:(pendC l6).length<(pendC (e2 :: t2)).length:=ht6.len.2
      obtain⟨⟨Pk6,ck6,f1,-⟩,⟨Ps6,cs6,f2,-⟩,⟨Pn6,cn6,f3,-⟩,⟨Pm6,cm6,f4,-⟩⟩:=id hcr6
      subst f1 f2 f3 f4
      dsimp only at hrun7
      obtain⟨xc6,exc6⟩:∃ z,z=x2.cnt:=⟨_,rfl⟩
      obtain⟨b1,hb1'⟩:∃ z,z=x2.key.length:=⟨_,rfl⟩
      obtain⟨b2,hb2'⟩:∃ z,z=x2.sum.length:=⟨_,rfl⟩
      obtain⟨b3,hb3'⟩:∃ z,z=x2.mn.length:=⟨_,rfl⟩
      obtain⟨b4,hb4'⟩:∃ z,z=x2.mx.length:=⟨_,rfl⟩
      rw[← exc6,← hb1',← hb2',← hb3',← hb4'] at hrun7 ⊢
      have Hrun:=Lib.hid hrun7
      have HAS7:=Lib.hid hAS7
      have HMX:=Lib.hid hmm6
      have HPW:=Lib.hid (HAS2.out.2.1.pendW)
      clear hrun7 hAS7 hmm6 hcr6 hck6 H6 hh6 ht6 hbl6 hT6 exc6 hb1' hb2' hb3' hb4' hb4
      gi_wp2_with (gi_at_builtin;have _t:=Hrun;refine wpListIn_append_eq rfl (.tmp 30) (.tmp 33) 31 rfl _ _ _ _ rfl rfl Hrun.out ?_;clear _t Hrun)
      go_roundw
      case rel=>exact⟨v6,l6,_,_,ky,HAS7.out,Nat.lt_trans HMX.out HM2.out⟩
      case measure =>
       rw[HAS7.out.2.1.pendW,HPW.out]
       exact HMX.out
     ·have d5:(cc == 0)=false:=by simp[hz]
      have d6:decide (cc=0)=false:=by simp[hz]
      have HZ:=Lib.hid hz
      clear hz
      refine WTN (i:=12) (v:=?vrd12) ?yrd12 hHeld ?rrd12
      case yrd12=>(intro W hW;obtain hW:=hW;go_simp;first | done | with_reducible rfl)
      try simp only[SL,Act.put]
      refine WTN (i:=13) (v:=?vrd13) ?yrd13 hHeld ?rrd13
      case yrd13=>(intro W hW;obtain hW:=hW;go_simp;first | done | with_reducible rfl)
      try simp only[SL,Act.put]
      refine anyN_done (by kernel_rfl) (noP_normal ?_) _
      obtain⟨W5,hW5⟩:∃ W5,W5=grow w4 os:=⟨_,rfl⟩
      have hb5:Below wq.heap.size wq W5:=by rw[hW5];exact HB4.out.trans ((below_growM w4 os).mono HB4.out.size)
      rw[← hW5]
      have HAS5:=Lib.hid (HAS2.out.below HJ.out hb5)
      clear hb5 hW5 kg hHeld r0 r1 r2 r3 r4 rk
      have HCX:=Lib.hid (show ∀ e x J',(e2 :: t2)[0]? = some e→e.J=x :: J'→cmpL ky x.key ≠ 0 from fun e x K he hx hz=>by
       cases he
       rw[HYK.out.2.1] at hx
       cases hx
       rw[← HYK.out.1] at hz
       exact HZ.out (HCC.out.trans hz))
      have HGP:=AS.group HAS5.out
      obtain⟨fn,tmps,assign,body,hy,hR⟩:=HY.out xs s (_,same) W5 HAS5.out.1 (by rw[HALL.out] at HGP;exact HGP) (by have q:=AS.bound HAS5.out;rw[HALL.out] at q;exact q)
      dsimp only at hy
      have HRR:=Lib.hid hR
      clear hR HGP
      gi_wp2_with fail
      refine⟨fun _=>by omega,?_⟩
      refine HRR.out.mono ?_
      rintro e X7 ⟨rfl,s',hJ7,ht7,hok7⟩
      have HAO7:=Lib.hid (AS.told HJ.out HAS5.out HCX.out HNT.out hJ7 ht7 hok7)
      clear hJ7 ht7 hok7 hy
      gi_wp2_with fail
      go_roundw
      case rel=>exact⟨_,s',v2,_,HAO7.out⟩
      case measure =>
       rw[HAO7.out.2.1.pendW]
       exact HM2.out
end Go.Proofs.YtnjlkhhcfiedbaaGreatDoor
namespace Go.Proofs.YtnjlkhhcfiedbaaGreatDoor
open Go.RowKit Go.Shelf Go.Sort
attribute [local go_sem] Oper.semAt_some
def JV (w0:World) (B:Nat) (X:World) (u:V5) (x:Cel):Prop:=Reads w0 u x∨OwnC B X u x
theorem JV.tch {w0 X Y:World} {B:Nat} {u:V5} {x:Cel} {M:Nat→Prop} (h:JV w0 B X u x) (ht:Tch M X Y) (hM:∀ k,M k→NotInt X k):JV w0 B Y u x:=h.imp id fun o=>o.stay fun q=>q.tchN ht hM
theorem JV.reads {w0 X:World} {B:Nat} {u:V5} {x:Cel} (h:JV w0 B X u x) (hb:Below w0.heap.size w0 X):Reads X u x:=by
 rcases h with h | h
 ·exact h.keep (Keeps.of_below hb)
 ·exact h.reads
theorem join_even {me:Nat} {x y:Cel} (hx:EvenC me x) (hy:EvenC me y):EvenC me (join2 x y):=by
 obtain⟨a,b,c⟩:=hx
 obtain⟨d,e,f⟩:=hy
 unfold EvenC join2 addL minL maxL
 simp[List.length_zipWith,a,b,c,d,e,f]
theorem fold_even {me:Nat}:∀ (l:List Cel) (x:Cel),EvenC me x→(∀ y ∈ l,EvenC me y)→EvenC me (l.foldl join2 x)
 | [],_,hx,_=>hx
 | y :: l,x,hx,h=>fold_even l _ (join_even hx (h y (by simp))) fun z hz=>h z (by simp[hz])
theorem fold_take {x:Cel} {l:List Cel} {i:Nat} {y:Cel} (h:l[i]? = some y):(l.take (i+1)).foldl join2 x=join2 ((l.take i).foldl join2 x) y:=by
 rw[List.take_add_one,h,Option.toList_some,List.foldl_append]
 rfl
set_option maxRecDepth 100000 in
set_option maxHeartbeats 4000000 in
theorem hjoined_any (w0 w:World) (g c N me:Nat) (us:List V5) (x0:Cel) (l:List Cel) (hb:Below w0.heap.size w0 w) (hN:N=l.length+1) (hNc:N≤c) (hN1:N≤100000) (hrd:ReadsL w0 us (x0 :: l)) (hcl:∀ j u,(flatV us)[j]? = some u→w.cell? ⟨g,j,none⟩=some u) (hky:∀ y ∈ l,y.key=x0.key) (hev:∀ y ∈ x0 :: l,EvenC me y) (hkl:x0.key.length≤1000000) (hme:me≤1000000) :
  Calls Tryz.prog 154 #[.agg #[.func (.func 97) #[] #[],.func (.func 62) #[] #[]],.slice (some ⟨g,0,none⟩) N c] w fun e w'=>(∃ u:V5,e=.returned (.agg #[u.a,u.b,u.c,u.d,u.e])∧JV w0 w.heap.size w' u (joinAll (x0 :: l)))∧Below w.heap.size w w':=by
 have hlen:us.length=l.length+1:=by rw[hrd.1];rfl
 have hat:∀ i x,(x0 :: l)[i]? = some x→∃ u,us[i]? = some u∧Reads w0 u x:=fun i x hx=>by
  obtain⟨u,hu⟩:∃ u,us[i]? = some u:=⟨_,List.getElem?_eq_getElem (by rw[hrd.1];exact (List.getElem?_eq_some_iff.1 hx).1)⟩
  exact⟨u,hu,hrd.2 i u x hu hx⟩
 obtain⟨u0,hu0,hr0⟩:=hat 0 x0 rfl
 have HAT:=Lib.hid hat
 have HCL:=Lib.hid hcl
 have HKY:=Lib.hid hky
 have HEV:=Lib.hid hev
 have HNL:=Lib.hid hN
 have HB:=Lib.hid hb
 obtain⟨f0,f1,f2,f3,f4⟩:=flatV_five hu0
 rw[Nat.zero_mul] at f0 f1 f2 f3 f4
 rw[Nat.zero_add] at f1 f2 f3 f4
 have c0:=hcl _ _ f0
 have c1:=hcl _ _ f1
 have c2:=hcl _ _ f2
 have c3:=hcl _ _ f3
 have c4:=hcl _ _ f4
 obtain⟨ua,ub,uc,ud,ue⟩:=u0
 have hr0':=hr0
 obtain⟨hub,⟨⟨P1,q1,e1,-⟩,⟨P2,q2,e2,-⟩,⟨P3,q3,e3,-⟩,⟨P4,q4,e4,-⟩⟩,hck⟩:=hr0'
 dsimp only at c0 c1 c2 c3 c4 hub e1 e2 e3 e4
 subst hub e1 e2 e3 e4
 have HR0:=Lib.hid hr0
 obtain⟨xc,exc⟩:∃ z,z=x0.cnt:=⟨_,rfl⟩
 obtain⟨k1,hk1⟩:∃ z,z=x0.key.length:=⟨_,rfl⟩
 obtain⟨k2,hk2⟩:∃ z,z=x0.sum.length:=⟨_,rfl⟩
 obtain⟨k3,hk3⟩:∃ z,z=x0.mn.length:=⟨_,rfl⟩
 obtain⟨k4,hk4⟩:∃ z,z=x0.mx.length:=⟨_,rfl⟩
 rw[← exc,← hk1,← hk2,← hk3,← hk4] at HR0
 rw[← exc] at c1
 rw[← hk1] at c0
 rw[← hk2] at c2
 rw[← hk3] at c3
 rw[← hk4] at c4
 have n0:0<N:=by omega
 obtain⟨X0,hX0⟩:∃ X0,X0=((w.alloc (.cells #[.func (.func 97) #[] #[],.func (.func 62) #[] #[]] 98)).alloc (.cells #[.slice none 0 0,.int .i64 0,.slice none 0 0,.slice none 0 0,.slice none 0 0] 46)):=⟨_,rfl⟩
 have hb0:Below w.heap.size w X0:=by rw[hX0];exact ((Below.refl _ _).alloc (Nat.le_refl _) _).alloc (by simp) _
 have s1:(w.alloc (.cells #[.func (.func 97) #[] #[],.func (.func 62) #[] #[]] 98)).heap.size=w.heap.size+1:=by simp
 have oK:Own 98 X0 w.heap.size [.func (.func 97) #[] #[],.func (.func 62) #[] #[]]:=by rw[hX0];exact (Below.heap_alloc _ _ _ (by simp)).trans (heap_alloc_new w _)
 have oZ:Own 46 X0 (w.heap.size+1) [.slice none 0 0,.int .i64 0,.slice none 0 0,.slice none 0 0,.slice none 0 0]:=by
  rw[hX0,← s1]
  exact heap_alloc_new _ _
 have hsz:X0.heap.size=w.heap.size+1+1:=by rw[hX0];simp
 obtain⟨b2,hb2⟩:∃ b,b=w.heap.size:=⟨_,rfl⟩
 obtain⟨b4,hb4⟩:∃ b,b=w.heap.size+1:=⟨_,rfl⟩
 rw[← hb2] at oK
 rw[← hb4] at oZ
 have k0:=Keeps.of_below hb0
 have d0:=k0 _ _ c0
 have d1:=k0 _ _ c1
 have d2:=k0 _ _ c2
 have d3:=k0 _ _ c3
 have d4:=k0 _ _ c4
 have HX0:=Lib.hid hX0
 have HB2:=Lib.hid hb2
 have HB4:=Lib.hid hb4
 have OK:=Lib.hid oK
 have OZ:=Lib.hid oZ
 have HSZ:=Lib.hid hsz
 have HB0:=Lib.hid hb0
 clear hlen hat hrd hcl hky hev hN hb hu0 hr0 f0 f1 f2 f3 f4 exc hk1 hk2 hk3 hk4 hck hX0 hb0 s1 oK oZ hsz hb2 hb4 c0 c1 c2 c3 c4 k0
 go_enter Tryz.func154,Tryz.ntmps154
 go_upto_region 1 with (fail)
 rw[← HX0.out,← HB4.out,← HB2.out]
 go_upto_region 2 with (fail)
 obtain⟨X2,hX2⟩:∃ X2,X2=X0.alloc (.cells #[.slice P1 k1 q1,.int .i64 xc,.slice P2 k2 q2,.slice P3 k3 q3,.slice P4 k4 q4] 46):=⟨_,rfl⟩
 rw[← hX2]
 obtain⟨b5,hb5⟩:∃ b,b=X0.heap.size:=⟨_,rfl⟩
 rw[← hb5]
 have hbx:Below X0.heap.size X0 X2:=by rw[hX2];exact (Below.refl _ _).alloc (Nat.le_refl _) _
 have o5:Own 46 X2 b5 [.slice P1 k1 q1,.int .i64 xc,.slice P2 k2 q2,.slice P3 k3 q3,.slice P4 k4 q4]:=by rw[hX2,hb5];exact heap_alloc_new X0 _
 have o2:=OK.out.below hbx OK.out.lt
 have o4:=OZ.out.below hbx OZ.out.lt
 have hbw:Below w.heap.size w X2:=HB0.out.trans (hbx.mono HB0.out.size)
 obtain⟨m,hm⟩:∃ m,m=l.length:=⟨_,rfl⟩
 have hNm:N=m+1:=by rw[hm];exact HNL.out
 have s1:N - 1=m:=by omega
 have n1:1≤N:=by omega
 have h5:w.heap.size≤b5∧b2 ≠ b5∧b4 ≠ b5:=by
  have:=HSZ.out;have:=HB2.out;have:=HB4.out;have:=HB0.out.size
  omega
 have H5:=Lib.hid h5
 have HO5:=Lib.hid o5
 have HO2:=Lib.hid o2
 have HO4:=Lib.hid o4
 have HBW:=Lib.hid hbw
 have HM:=Lib.hid hm
 have HNM:=Lib.hid (And.intro hNm (And.intro hNc hN1))
 clear hX2 hb5 hbx o5 o2 o4 hbw hm hNm hN1 h5 d0 d1 d2 d3 d4
 go_cut [12,13,14] from 11 to 14 (fun s12 s13 s14 wx=>(∃ A q,s12=.slice (some A) m q∧(0<m→A=⟨g,5,none⟩))∧s13=.int .i64 (m:Int)∧s14=.int .i64 0∧wx=X2)
 case first =>
  by_cases hc1:c=1
  ·have hm0:m=0:=by have:=HNM.out;omega
   go_wp2_with fail
   go_meet
   exact⟨⟨_,_,by rw[hm0],fun q=>by omega⟩,by rw[hm0];rfl,rfl,rfl⟩
  ·go_wp2_with fail
   go_meet
   exact⟨⟨_,_,rfl,fun _=>rfl⟩,rfl,rfl,rfl⟩
 case rest =>
  obtain⟨⟨A,q,rfl,hA⟩,rfl,rfl,hw⟩:=hcut
  subst hw
  rename World=>X2
  have HA:=Lib.hid hA
  clear hA hNc
  go_wp2_with fail
  go_loopw [14] (fun p wr=>∃ (i:Nat) (u:V5),p=.int .i64 (i:Int)∧i≤m∧Own 46 wr b5 [u.a,u.b,u.c,u.d,u.e]∧JV w0 w.heap.size wr u ((l.take i).foldl join2 x0)∧Own 98 wr b2 [.func (.func 97) #[] #[],.func (.func 62) #[] #[]]∧Own 46 wr b4 [.slice none 0 0,.int .i64 0,.slice none 0 0,.slice none 0 0,.slice none 0 0]∧Below w.heap.size w wr) (fun p _=>m - (intOf p).toNat)
  case atStart=>exact⟨0,⟨.slice P1 k1 q1,.int .i64 xc,.slice P2 k2 q2,.slice P3 k3 q3,.slice P4 k4 q4⟩,rfl,Nat.zero_le _,HO5.out,.inl HR0.out,HO2.out,HO4.out,HBW.out⟩
  case round =>
   obtain⟨i,u,rfl,him,o5,hjv,o2,o4,hbw⟩:=hrel
   rename World=>wr
   by_cases hlt:i<m
   ·obtain⟨y,hy⟩:∃ y,l[i]? = some y:=⟨_,List.getElem?_eq_getElem (by rw[← HM.out];exact hlt)⟩
    obtain⟨v,hv,hrv⟩:=HAT.out (i+1) y (by simpa using hy)
    have hAg:=HA.out (by omega)
    subst hAg
    obtain⟨f0,f1,f2,f3,f4⟩:=flatV_five hv
    rw[show (i+1)*5=5+i*5 from by omega] at f0 f1 f2 f3 f4
    have kw:=Keeps.of_below hbw
    have d0:=kw _ _ (HCL.out _ _ f0)
    have d1:=kw _ _ (HCL.out _ _ f1)
    have d2:=kw _ _ (HCL.out _ _ f2)
    have d3:=kw _ _ (HCL.out _ _ f3)
    have d4:=kw _ _ (HCL.out _ _ f4)
    have i0:(0:Int)≤(i:Int):=by omega
    have i1:(i:Int)<(m:Int):=by omega
    have e8:decide ((i:Int)<(m:Int))=true:=by simp;omega
    have hwr:IntKind.i64.wrap ((i:Int)+1)=((i+1:Nat):Int):=by rw[IntWalk.i64_in _ (by have:=HNM.out;omega)];rfl
    obtain⟨S,hS⟩:∃ S,S=(l.take i).foldl join2 x0:=⟨_,rfl⟩
    have hSk:S.key=x0.key:=by rw[hS];exact join_key _ _
    have hSe:EvenC me S:=by rw[hS];exact fold_even _ _ (HEV.out x0 (by simp)) fun z hz=>HEV.out z (List.mem_cons_of_mem _ (List.mem_of_mem_take hz))
    have hym:=List.mem_of_getElem? hy
    rw[← hS] at hjv
    have hru:=hjv.reads (HB.out.trans (hbw.mono HB.out.size))
    -- the second box
    obtain⟨va,vb,vc,vd,ve⟩:=v
    obtain⟨hvb,hvcr,hvck⟩:=hrv
    dsimp only at d0 d1 d2 d3 d4 hvb hvcr
    subst hvb
    obtain⟨Y1,hY1⟩:∃ Y1,Y1=wr.alloc (.cells #[va,.int .i64 y.cnt,vc,vd,ve] 46):=⟨_,rfl⟩
    have hbY:Below wr.heap.size wr Y1:=by rw[hY1];exact (Below.refl _ _).alloc (Nat.le_refl _) _
    have o7:Own 46 Y1 wr.heap.size [va,.int .i64 y.cnt,vc,vd,ve]:=by rw[hY1];exact heap_alloc_new wr _
    have o5':=o5.below hbY o5.lt
    have o2':=o2.below hbY o2.lt
    have o4':=o4.below hbY o4.lt
    have hbY0:=hbw.trans (hbY.mono hbw.size)
    have kY:Keeps w0 Y1:=Keeps.of_below (HB.out.trans (hbY0.mono HB.out.size))
    obtain⟨hub,hucr,huck⟩:=hru
    obtain⟨ua,ub,uc,ud,ue⟩:=u
    dsimp only at hub hucr o5' o5
    subst hub
    have hjn:=join_any ua uc ud ue va vc vd ve S y me Y1 (hucr.keep (Keeps.of_below hbY)) (hvcr.keep kY) (by rw[hSk];exact (HKY.out y hym).symm) hSe (HEV.out y (List.mem_cons_of_mem _ hym)) (by rw[hSk];exact hkl) hme huck hvck
    obtain⟨⟨A1,a1,g1,-⟩,⟨A2,a2,g2,-⟩,⟨A3,a3,g3,-⟩,⟨A4,a4,g4,-⟩⟩:=hucr
    subst g1 g2 g3 g4
    obtain⟨⟨B1,r1,g1,-⟩,⟨B2,r2,g2,-⟩,⟨B3,r3,g3,-⟩,⟨B4,r4,g4,-⟩⟩:=hvcr
    subst g1 g2 g3 g4
    obtain⟨sc,esc⟩:∃ z,z=S.cnt:=⟨_,rfl⟩
    obtain⟨yc,eyc⟩:∃ z,z=y.cnt:=⟨_,rfl⟩
    obtain⟨j1,hj1⟩:∃ z,z=S.key.length:=⟨_,rfl⟩
    obtain⟨j2,hj2⟩:∃ z,z=S.sum.length:=⟨_,rfl⟩
    obtain⟨j3,hj3⟩:∃ z,z=S.mn.length:=⟨_,rfl⟩
    obtain⟨j4,hj4⟩:∃ z,z=S.mx.length:=⟨_,rfl⟩
    obtain⟨t1,ht1⟩:∃ z,z=y.key.length:=⟨_,rfl⟩
    obtain⟨t2,ht2⟩:∃ z,z=y.sum.length:=⟨_,rfl⟩
    obtain⟨t3,ht3⟩:∃ z,z=y.mn.length:=⟨_,rfl⟩
    obtain⟨t4,ht4⟩:∃ z,z=y.mx.length:=⟨_,rfl⟩
    rw[← esc,← eyc,← hj1,← hj2,← hj3,← hj4,← ht1,← ht2,← ht3,← ht4] at hjn
    rw[← esc,← hj1,← hj2,← hj3,← hj4] at o5'
    rw[← eyc,← ht1,← ht2,← ht3,← ht4] at o7 hY1
    rw[← eyc] at d1
    rw[← ht1] at d0
    rw[← ht2] at d2
    rw[← ht3] at d3
    rw[← ht4] at d4
    have HJN:=Lib.hid hjn
    have HY1:=Lib.hid hY1
    have HS:=Lib.hid (show join2 S y=(l.take (i+1)).foldl join2 x0 from by rw[hS];exact (fold_take hy).symm)
    have HBY:=Lib.hid hbY0
    have HI:=Lib.hid (show inK .i64 (join2 S y).cnt from join2_ok)
    obtain⟨b7,hb7⟩:∃ b,b=wr.heap.size:=⟨_,rfl⟩
    rw[← hb7] at o7
    have HB7:=Lib.hid hb7
    have O5:=Lib.hid o5'
    have O2:=Lib.hid o2'
    have O4:=Lib.hid o4'
    have O7:=Lib.hid o7
    clear hv f0 f1 f2 f3 f4 kw hS hSk hSe hym hjv hY1 hbY o5 o2 o4 o5' o2' o4' o7 hbY0 kY huck hvck hjn esc eyc hj1 hj2 hj3 hj4 ht1 ht2 ht3 ht4 hb7 hy hbw
    go_upto_region 5 with (fail)
    rw[← HY1.out,← HB7.out]
    clear d0 d1 d2 d3 d4
    have r21:=O2.out.cell (i:=1) rfl
    obtain⟨p0,p1,p2,p3,p4⟩:=Own.bx O5.out
    obtain⟨w0',w1',w2',w3',w4'⟩:=Own.bx O7.out
    go_wp2_with fail
    refine HJN.out.mono ?_
    rintro e Y2 ⟨k',s',n',m',rfl,hco,hb2⟩
    have q5:=O5.out.below hb2 O5.out.lt
    have q2':=O2.out.below hb2 O2.out.lt
    have q4':=O4.out.below hb2 O4.out.lt
    obtain⟨⟨A1',a1',g1,-⟩,⟨A2',a2',g2,-⟩,⟨A3',a3',g3,-⟩,⟨A4',a4',g4,-⟩⟩:=And.intro hco.key.form (And.intro hco.sum.form (And.intro hco.mn.form hco.mx.form))
    subst g1 g2 g3 g4
    obtain⟨W9,hW9⟩:∃ W9,W9=put5 Y2 b5 (.slice A1' (join2 S y).key.length a1') (.int .i64 (join2 S y).cnt) (.slice A2' (join2 S y).sum.length a2') (.slice A3' (join2 S y).mn.length a3') (.slice A4' (join2 S y).mx.length a4'):=⟨_,rfl⟩
    have hT9:Tch (fun k=>k=b5) Y2 W9:=by
     rw[hW9]
     unfold put5
     exact ((((Tch.setCell (M:=fun k=>k=b5) (g:=b5) rfl _ _ _).same (Tch.setCell (M:=fun k=>k=b5) (g:=b5) rfl _ _ _)).same (Tch.setCell (M:=fun k=>k=b5) (g:=b5) rfl _ _ _)).same (Tch.setCell (M:=fun k=>k=b5) (g:=b5) rfl _ _ _)).same (Tch.setCell (M:=fun k=>k=b5) (g:=b5) rfl _ _ _)
    have oF:Own 46 W9 b5 [.slice A1' (join2 S y).key.length a1',.int .i64 (join2 S y).cnt,.slice A2' (join2 S y).sum.length a2',.slice A3' (join2 S y).mn.length a3',.slice A4' (join2 S y).mx.length a4']:=by
     rw[hW9]
     exact ((((q5.set_ 0 _).set_ 1 _).set_ 2 _).set_ 3 _).set_ 4 _
    have hBY:=HBY.out
    have hwY:w.heap.size≤Y1.heap.size:=hBY.size
    have hOC:OwnC w.heap.size W9 ⟨.slice A1' (join2 S y).key.length a1',.int .i64 (join2 S y).cnt,.slice A2' (join2 S y).sum.length a2',.slice A3' (join2 S y).mn.length a3',.slice A4' (join2 S y).mx.length a4'⟩ (join2 S y) :=
     OwnC.stay (B:=Y1.heap.size) (X:=Y2) ⟨rfl,hco,HI.out⟩ fun o=>(o.tchN hT9 fun k hk=>by rw[show k=b5 from hk];exact notint_own q5 (by decide)).mono hwY
    have HE:=Lib.hid (show Own 98 W9 b2 [.func (.func 97) #[] #[],.func (.func 62) #[] #[]]∧Own 46 W9 b4 [.slice none 0 0,.int .i64 0,.slice none 0 0,.slice none 0 0,.slice none 0 0]∧Below w.heap.size w W9 from ⟨q2'.tchM hT9 H5.out.2.1,q4'.tchM hT9 H5.out.2.2,(hBY.trans (hb2.mono hwY)).trans (hT9.below (fun k hk=>by rw[show k=b5 from hk];exact H5.out.1) (Nat.le_trans hwY hb2.size))⟩)
    have HOC:=Lib.hid hOC
    have OF:=Lib.hid oF
    obtain⟨p0,p1,p2,p3,p4⟩:=Own.bx q5
    have z0:=q5.frozen 0
    have z1:=q5.frozen 1
    have z2:=q5.frozen 2
    have z3:=q5.frozen 3
    have z4:=q5.frozen 4
    unfold put5 at hW9
    have HW9:=Lib.hid hW9
    clear q5 q2' q4' hco hb2 hW9 hT9 oF hBY hwY hOC
    generalize (join2 S y).cnt=zc at *
    generalize (join2 S y).key.length=z5 at *
    generalize (join2 S y).sum.length=z6 at *
    generalize (join2 S y).mn.length=z7 at *
    generalize (join2 S y).mx.length=z8 at *
    go_wp2_with fail
    rw[← HW9.out]
    go_roundw
    case rel=>exact⟨i+1,⟨.slice A1' z5 a1',.int .i64 zc,.slice A2' z6 a2',.slice A3' z7 a3',.slice A4' z8 a4'⟩,by go_num,by omega,OF.out,by rw[← HS.out];exact .inr HOC.out,HE.out⟩
    case measure=>simp[intOf];omega
   ·obtain rfl:i=m:=by omega
    have e8:decide ((i:Int)<(i:Int))=false:=by simp
    rw[HM.out,List.take_length] at hjv
    have hru:=hjv.reads (HB.out.trans (hbw.mono HB.out.size))
    obtain⟨ua,ub,uc,ud,ue⟩:=u
    obtain⟨hub,⟨⟨A1',a1',g1,-⟩,⟨A2',a2',g2,-⟩,⟨A3',a3',g3,-⟩,⟨A4',a4',g4,-⟩⟩,-⟩:=hru
    dsimp only at hub g1 g2 g3 g4 o5
    subst hub g1 g2 g3 g4
    obtain⟨S,hS⟩:∃ S,S=l.foldl join2 x0:=⟨_,rfl⟩
    rw[← hS] at hjv o5
    obtain⟨W9,hW9⟩:∃ W9,W9=put5 wr b4 (.slice A1' S.key.length a1') (.int .i64 S.cnt) (.slice A2' S.sum.length a2') (.slice A3' S.mn.length a3') (.slice A4' S.mx.length a4'):=⟨_,rfl⟩
    have hT9:Tch (fun k=>k=b4) wr W9:=by
     rw[hW9]
     unfold put5
     exact ((((Tch.setCell (M:=fun k=>k=b4) (g:=b4) rfl _ _ _).same (Tch.setCell (M:=fun k=>k=b4) (g:=b4) rfl _ _ _)).same (Tch.setCell (M:=fun k=>k=b4) (g:=b4) rfl _ _ _)).same (Tch.setCell (M:=fun k=>k=b4) (g:=b4) rfl _ _ _)).same (Tch.setCell (M:=fun k=>k=b4) (g:=b4) rfl _ _ _)
    have oF:Own 46 W9 b4 [.slice A1' S.key.length a1',.int .i64 S.cnt,.slice A2' S.sum.length a2',.slice A3' S.mn.length a3',.slice A4' S.mx.length a4']:=by
     rw[hW9]
     exact ((((o4.set_ 0 _).set_ 1 _).set_ 2 _).set_ 3 _).set_ 4 _
    have hjF:=hjv.tch hT9 fun k hk=>by rw[show k=b4 from hk];exact notint_own o4 (by decide)
    have hw4:w.heap.size≤b4:=by have:=HB4.out;omega
    have HF:=Lib.hid (show (∃ u:V5,Ending.returned (.agg #[.slice A1' S.key.length a1',.int .i64 S.cnt,.slice A2' S.sum.length a2',.slice A3' S.mn.length a3',.slice A4' S.mx.length a4'])=.returned (.agg #[u.a,u.b,u.c,u.d,u.e])∧JV w0 w.heap.size W9 u (joinAll (x0 :: l)))∧Below w.heap.size w W9 from ⟨⟨_,rfl,by rw[show joinAll (x0 :: l)=S from hS.symm];exact hjF⟩,hbw.trans (hT9.below (fun k hk=>by rw[show k=b4 from hk];exact hw4) hbw.size)⟩)
    obtain⟨p0,p1,p2,p3,p4⟩:=Own.bx o5
    obtain⟨y0,y1,y2,y3,y4⟩:=Own.bx o4
    have z0:=o4.frozen 0
    have z1:=o4.frozen 1
    have z2:=o4.frozen 2
    have z3:=o4.frozen 3
    have z4:=o4.frozen 4
    obtain⟨t0,t1,t2,t3,t4⟩:=Own.bx oF
    have HT:=Lib.hid (And.intro t0 (And.intro t1 (And.intro t2 (And.intro t3 t4))))
    unfold put5 at hW9
    have HW9:=Lib.hid hW9
    clear hjv hjF hS hW9 hT9 oF o5 o4 o2 hbw hw4 t0 t1 t2 t3 t4
    generalize S.cnt=zc at *
    generalize S.key.length=z5 at *
    generalize S.sum.length=z6 at *
    generalize S.mn.length=z7 at *
    generalize S.mx.length=z8 at *
    go_wp2_with fail
    rw[← HW9.out]
    obtain⟨t0,t1,t2,t3,t4⟩:=HT.out
    exact bodyPost_ret (v:=.agg #[.slice A1' z5 a1',.int .i64 zc,.slice A2' z6 a2',.slice A3' z7 a3',.slice A4' z8 a4']) (by simp[results,Tryz.results154,go_sem,t0,t1,t2,t3,t4]) rfl HF.out
end Go.Proofs.YtnjlkhhcfiedbaaGreatDoor

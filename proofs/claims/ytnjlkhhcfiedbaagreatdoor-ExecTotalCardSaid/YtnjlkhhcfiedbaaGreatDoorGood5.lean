import Derived.IntWalk
import Derived.Test.YtnjlkhhcfiedbaaGreatDoorSl
import Derived.Test.YtnjlkhhcfiedbaaGreatDoorAliP
import Derived.Test.YtnjlkhhcfiedbaaGreatDoorRfacts
import Derived.Test.YtnjlkhhcfiedbaaGreatDoorMake
import Derived.Test.YtnjlkhhcfiedbaaGreatDoorRegP
import Derived.Test.YtnjlkhhcfiedbaaGreatDoorExC
import Derived.Test.YtnjlkhhcfiedbaaGreatDoorCelf
import Derived.Test.YtnjlkhhcfiedbaaGreatDoorPieces
import Derived.Test.YtnjlkhhcfiedbaaGreatDoorRunE
import Derived.Test.YtnjlkhhcfiedbaaGreatDoorFactsLaw2
import Derived.Test.YtnjlkhhcfiedbaaGreatDoorHsh5
import Derived.Test.YtnjlkhhcfiedbaaGreatDoorIsRow
import Derived.Test.YtnjlkhhcfiedbaaGreatDoorExQ
namespace Go.Proofs.YtnjlkhhcfiedbaaGreatDoor
open Go.RowKit
theorem putC_pM {p:Cel→Prop} (hj:∀ y c,p y→p c→p (join2 y c)) {H:List Cel} {c:Cel} (h:∀ y ∈ H,p y) (hc:p c):∀ y ∈ putC H c,p y:=by
 induction H with
 | nil=>intro y hy;simp only[putC,List.mem_singleton] at hy;rw[hy];exact hc
 | cons x l ih =>
  simp only[putC]
  split
  ·intro y hy
   rcases List.mem_cons.1 hy with rfl | hy
   ·exact h _ (by simp)
   ·exact ih (fun z hz=>h z (by simp[hz])) y hy
  ·split
   ·intro y hy
    rcases List.mem_cons.1 hy with rfl | hy
    ·exact hj _ _ (h x (by simp)) hc
    ·exact h y (by simp[hy])
   ·intro y hy
    rcases List.mem_cons.1 hy with rfl | hy
    ·exact hc
    ·exact h y hy
theorem grp_pM {p:Cel→Prop} (hj:∀ y c,p y→p c→p (join2 y c)):∀ (l acc:List Cel),(∀ y ∈ l,p y)→(∀ y ∈ acc,p y)→∀ y ∈ l.foldl putC acc,p y
 | [],_,_,h=>h
 | c :: l,_,hl,h=>grp_pM hj l _ (fun y hy=>hl y (by simp[hy])) (putC_pM hj h (hl c (by simp)))
theorem parts_len:∀ (Cs:List (List (List Cel))),(Cs.map fun c=>grpR c.flatten).flatten.length≤Cs.flatten.flatten.length
 | []=>Nat.le_refl _
 | c :: Cs=>by
  have h1:=parts_len Cs
  have h2:=grp_lt c.flatten []
  rw[show c.flatten.foldl putC []=grpR c.flatten from rfl,List.length_nil,Nat.zero_add] at h2
  rw[List.map_cons,List.flatten_cons,List.length_append,List.flatten_cons,List.flatten_append,List.length_append]
  omega
theorem pass_flen {f:Nat} (hf:1≤f) (Js:List (List Cel)):(passP f Js).flatten.length≤Js.flatten.length:=by
 have:=parts_len (chunksF f Js)
 rw[(chunks_all hf _ Js rfl).1] at this
 exact this
theorem pass_p {p:Cel→Prop} (hj:∀ y c,p y→p c→p (join2 y c)) {f:Nat} (hf:1≤f) {Js:List (List Cel)} (h:∀ x ∈ Js.flatten,p x):∀ x ∈ (passP f Js).flatten,p x:=fun x hx=>by
 obtain⟨g,hg,hx⟩:=List.mem_flatten.1 hx
 obtain⟨c,hc,rfl⟩:=List.mem_map.1 hg
 refine grp_pM hj c.flatten [] (fun y hy=>h y ?_) (fun y hy=>absurd hy List.not_mem_nil) x hx
 obtain⟨J,hJ,hy⟩:=List.mem_flatten.1 hy
 rw[← (chunks_all hf _ Js rfl).1]
 exact List.mem_flatten.2 ⟨J,List.mem_flatten.2 ⟨c,hc,hJ⟩,hy⟩
theorem pass_nil (f:Nat):passP f []=[]:=by unfold passP;rw[chunksF_nil];rfl
theorem pass_step {f:Nat} (hf:1≤f) {Js:List (List Cel)} {i:Nat} (hi:i<Js.length):passP f (Js.drop i)=grpR ((Js.drop i).take f).flatten :: passP f (Js.drop (i+f)):=by
 unfold passP
 rw[chunksF_cons hf (by intro h;have:=List.drop_eq_nil_iff.1 h;omega),List.map_cons,List.drop_drop]
end Go.Proofs.YtnjlkhhcfiedbaaGreatDoor
namespace Go.Proofs.YtnjlkhhcfiedbaaGreatDoor
open Go.RowKit Go.Shelf
attribute [local go_sem] Oper.semAt_some
set_option maxRecDepth 100000 in
set_option maxHeartbeats 4000000 in
theorem meven_any (ad:Addr) (c:Nat) (l:List Cel) (me:Nat) (w:World) (hl:CellsR w ad l) (he:∀ x ∈ l,EvenC me x) (_hm:me≤1000000) (hn:l.length≤1000000) :
  Calls Tryz.prog 96 #[.slice (some ad) l.length c] w fun e w'=>e=.returned (.bool true)∧Below w.heap.size w w':=by
 obtain⟨N,hN⟩:∃ N,N=l.length:=⟨_,rfl⟩
 rw[← hN] at hn ⊢
 have HN:=Lib.hid hN
 have Hl:=Lib.hid hl
 have He:=Lib.hid he
 clear hN hl he
 go_enter Tryz.func96,Tryz.ntmps96
 go_wp2_with fail
 go_loopw [8] (fun i wr=>∃ k:Nat,k≤N∧i=.int .i64 k∧Below w.heap.size w wr) (fun i _=>N - (intOf i).toNat)
 case atStart=>exact⟨0,by omega,rfl,Below.refl _ _⟩
 case round =>
  obtain⟨k,hk,rfl,hb⟩:=hrel
  rename World=>wr
  have Hb:=Lib.hid hb
  clear hb
  by_cases hlt:k<N
  ·obtain⟨x,hx⟩:∃ x,l[k]? = some x:=⟨_,List.getElem?_eq_getElem (by have:=HN.out;omega)⟩
   obtain⟨y,hy⟩:∃ y,l[0]? = some y:=⟨_,List.getElem?_eq_getElem (by have:=HN.out;omega)⟩
   obtain⟨ex1,ex2,ex3⟩:=He.out x (List.mem_of_getElem? hx)
   obtain⟨ey1,_,_⟩:=He.out y (List.mem_of_getElem? hy)
   obtain⟨vk,vs,vn,vm,a0,a1,a2,a3,a4,⟨⟨Pk,ck,rfl,_⟩,⟨Ps,cs,rfl,_⟩,⟨Pn,cn,rfl,_⟩,⟨Pm,cm,rfl,_⟩⟩,_⟩:=(Hl.out k x hx).keep (Keeps.of_below Hb.out)
   have hy0:=(Hl.out 0 y hy).keep (Keeps.of_below Hb.out)
   rw[show ad.add (0*5)=ad from by simp[Addr.add]] at hy0
   obtain⟨uk,us,un,um,c0,c1,c2,c3,c4,⟨⟨Qk,dk,rfl,_⟩,⟨Qs,ds,rfl,_⟩,⟨Qn,dn,rfl,_⟩,⟨Qm,dm,rfl,_⟩⟩,_⟩:=hy0
   rw[ex1] at a2
   rw[ex2] at a3
   rw[ex3] at a4
   rw[ey1] at c2
   have hbx:=Below.alloc Hb.out Hb.out.size (.cells #[.slice Pk x.key.length ck,.int .i64 x.cnt,.slice Ps me cs,.slice Pn me cn,.slice Pm me cm] 46)
   have c2':(wr.alloc (.cells #[.slice Pk x.key.length ck,.int .i64 x.cnt,.slice Ps me cs,.slice Pn me cn,.slice Pm me cm] 46)).cell? ⟨ad.block,ad.off+2,none⟩=some (.slice Qs me ds):=((Keeps.refl wr).alloc _) _ _ c2
   have Hbx:=Lib.hid hbx
   have i0:(0:Int)≤(k:Int):=by omega
   have i1:(k:Int)<(N:Int):=by omega
   have d1:decide (k<N)=true:=by simp;omega
   have q0:0<N:=by omega
   have q1:(0:Int)<(N:Int):=by omega
   generalize x.key.length=lk at *
   generalize x.cnt=cnt at *
   clear hx hy ex1 ex2 ex3 ey1 hbx c0 c1 c3 c4
   go_wp2
   go_roundw
   case rel=>exact⟨k+1,by omega,by go_num,Hbx.out⟩
   case measure=>simp[intOf];omega
  ·obtain rfl:k=N:=by omega
   have d1:decide (k<k)=false:=by simp
   go_wp2
   go_ret
   exact⟨rfl,Hb.out⟩
end Go.Proofs.YtnjlkhhcfiedbaaGreatDoor
namespace Go.Proofs.YtnjlkhhcfiedbaaGreatDoor
open Go.RowKit Go.Shelf
attribute [local go_sem] Oper.semAt_some
theorem infoSC:(Tryz.prog.info? 31).map (fun i=>(i.zero,i.size,i.bytes))=some (some (.slice none 0 0),1,24):=by kernel_rfl
abbrev RSt:=Value × List (Value × List V5)
def GSz (B:Nat) (X:World) (st:RSt) (Js:List (List Cel)):Prop :=
 X.ownsRow B 31 1 st.1 st.2.length (st.2.map (·.1))∧st.2.length=Js.length∧∀ (i:Nat) p J,st.2[i]? = some p→Js[i]? = some J→GRs B X p.1 p.2 J
def fpG (v:Value) (us:List V5) (k:Nat):Prop:=v.ownBlock=some k∨∃ u ∈ us,u.a.ownBlock=some k∨u.c.ownBlock=some k∨u.d.ownBlock=some k∨u.e.ownBlock=some k
def fpZ (st:RSt) (k:Nat):Prop:=st.1.ownBlock=some k∨∃ p ∈ st.2,fpG p.1 p.2 k
theorem GRs.stayF {B:Nat} {X Y:World} {v:Value} {us:List V5} {J:List Cel} (h:GRs B X v us J) (hb:∀ k,fpG v us k→Y.heap[k]? = X.heap[k]?):GRs B Y v us J:=by
 refine⟨own_stay h.1 fun k hk=>hb k (.inl hk),h.2.1,fun i u x hu hx=>?_⟩
 obtain⟨h1,⟨a,b,c,d⟩,h3⟩:=h.2.2 i u x hu hx
 have hm:=List.mem_of_getElem? hu
 exact⟨h1,⟨⟨own_stay a.1 fun k hk=>hb k (.inr ⟨u,hm,.inl hk⟩),a.2⟩,⟨own_stay b.1 fun k hk=>hb k (.inr ⟨u,hm,.inr (.inl hk)⟩),b.2⟩,⟨own_stay c.1 fun k hk=>hb k (.inr ⟨u,hm,.inr (.inr (.inl hk))⟩),c.2⟩,⟨own_stay d.1 fun k hk=>hb k (.inr ⟨u,hm,.inr (.inr (.inr hk))⟩),d.2⟩⟩,h3⟩
theorem GRs.fp_lt {B:Nat} {X:World} {v:Value} {us:List V5} {J:List Cel} (h:GRs B X v us J) {k:Nat} (hk:fpG v us k):B≤k∧k<X.heap.size:=by
 rcases hk with hk | ⟨u,hu,hk⟩
 ·exact h.1.lt k hk
 ·obtain⟨i,hi⟩:=List.getElem?_of_mem hu
  have hl:=(List.getElem?_eq_some_iff.1 hi).1
  obtain⟨-,⟨a,b,c,d⟩,-⟩:=h.2.2 i u _ hi (List.getElem?_eq_getElem (by rw[← h.2.1];exact hl))
  rcases hk with hk | hk | hk | hk
  ·exact a.1.lt k hk
  ·exact b.1.lt k hk
  ·exact c.1.lt k hk
  ·exact d.1.lt k hk
theorem cells_row {B n:Nat} {T:TypeId} {sz:Nat} {X:World} {k:Nat} {v:Value} {xs:List Value} (h:X.ownsRow B T sz v n xs) (hk:v.ownBlock=some k):∃ cs,X.heap[k]? = some (.cells cs T (0,0)):=by
 rcases h.2 with ⟨rfl,_⟩ | ⟨g',cap,cur,rfl,_,hh,_⟩
 ·simp[Value.ownBlock] at hk
 ·simp only[Value.ownBlock,Option.some.injEq] at hk
  subst hk
  exact⟨cur,hh⟩
theorem GRs.fp_cells {B:Nat} {X:World} {v:Value} {us:List V5} {J:List Cel} (h:GRs B X v us J) {k:Nat} (hk:fpG v us k):∃ cs T,X.heap[k]? = some (.cells cs T (0,0))∧(T = 46 ∨ T = 3):=by
 rcases hk with hk | ⟨u,hu,hk⟩
 ·obtain⟨cs,e⟩:=cells_row h.1 hk
  exact⟨cs,_,e,.inl rfl⟩
 ·obtain⟨i,hi⟩:=List.getElem?_of_mem hu
  have hl:=(List.getElem?_eq_some_iff.1 hi).1
  obtain⟨-,⟨a,b,c,d⟩,-⟩:=h.2.2 i u _ hi (List.getElem?_eq_getElem (by rw[← h.2.1];exact hl))
  rcases hk with hk | hk | hk | hk
  ·obtain⟨cs,e⟩:=cells_row a.1 hk;exact⟨cs,_,e,.inr rfl⟩
  ·obtain⟨cs,e⟩:=cells_row b.1 hk;exact⟨cs,_,e,.inr rfl⟩
  ·obtain⟨cs,e⟩:=cells_row c.1 hk;exact⟨cs,_,e,.inr rfl⟩
  ·obtain⟨cs,e⟩:=cells_row d.1 hk;exact⟨cs,_,e,.inr rfl⟩
section
variable {B:Nat} {X Y:World} {st:RSt} {Js:List (List Cel)}
theorem GSz.stayF (h:GSz B X st Js) (hb:∀ k,fpZ st k→Y.heap[k]? = X.heap[k]?):GSz B Y st Js:=⟨own_stay h.1 fun k hk=>hb k (.inl hk),h.2.1,fun i p J hp hJ=>(h.2.2 i p J hp hJ).stayF fun k hk=>hb k (.inr ⟨p,List.mem_of_getElem? hp,hk⟩)⟩
theorem GSz.fp_lt (h:GSz B X st Js) {k:Nat} (hk:fpZ st k):B≤k∧k<X.heap.size:=by
 rcases hk with hk | ⟨p,hp,hk⟩
 ·exact h.1.lt k hk
 ·obtain⟨i,hi⟩:=List.getElem?_of_mem hp
  have hl:=(List.getElem?_eq_some_iff.1 hi).1
  exact (h.2.2 i p _ hi (List.getElem?_eq_getElem (by rw[← h.2.1];exact hl))).fp_lt hk
theorem GSz.fp_cells (h:GSz B X st Js) {k:Nat} (hk:fpZ st k):∃ cs T,X.heap[k]? = some (.cells cs T (0,0)):=by
 rcases hk with hk | ⟨p,hp,hk⟩
 ·obtain⟨cs,e⟩:=cells_row h.1 hk
  exact⟨cs,_,e⟩
 ·obtain⟨i,hi⟩:=List.getElem?_of_mem hp
  have hl:=(List.getElem?_eq_some_iff.1 hi).1
  obtain⟨cs,T,e,-⟩:=(h.2.2 i p _ hi (List.getElem?_eq_getElem (by rw[← h.2.1];exact hl))).fp_cells hk
  exact⟨cs,T,e⟩
theorem append_gz {u:Value} {zs:List V5} {J:List Cel} (h:GSz B X st Js) (hu:GRs B X u zs J) (hne:∀ k,fpG u zs k→st.1.ownBlock ≠ some k) (hl:st.2.length+1≤1000000) (hB:B≤X.heap.size) :
  ∃ v' Y,(Builtin.append_ #[64,64] 64 #[st.1,.slice (some ⟨X.heap.size,0,none⟩) 1 1]).run Tryz.prog (X.alloc (.cells #[u] 31))=.ok v' Y∧GSz B Y (v',st.2 ++ [(u,zs)]) (Js ++ [J])∧Tch (fun k=>st.1.ownBlock=some k) X Y∧(∀ k,v'.ownBlock=some k→st.1.ownBlock=some k∨X.heap.size≤k):=by
 have hb:Below X.heap.size X (X.alloc (.cells #[u] 31)):=(Below.refl _ _).alloc (Nat.le_refl _) _
 obtain⟨i0,hi,hz0,hz1,hz2⟩:=info_parts infoSC
 have ho2:=own_below h.1 hb (Nat.le_refl _)
 have hone:u.oneCell'=true:=by obtain⟨P,c,rfl,-⟩:=hu.form;rfl
 obtain⟨v',Y,hrun,hr,hg,-,hbl⟩:=run_append_own_at (P:=Tryz.prog) (X.alloc (.cells #[u] 31)) B 64 64 31 i0 _ 1 24 Tryz.underlying64 hi hz0 hz1 hz2 rfl (by omega) st.1 st.2.length (st.2.map (·.1)) ho2 ⟨X.heap.size,0,none⟩ 1 1 [u] rfl
  (fun j w hw=>by
   rw[add0,show (X.alloc (.cells #[u] 31)).cell? ⟨X.heap.size,j,none⟩=#[u][j]? from cell_of_row _ _ _ _ 31 (0,0) (heap_alloc_new X _)]
   simpa using hw) (by intro x hx;rw[List.mem_singleton] at hx;subst hx;exact hone) (by simp only[maxLen];omega) (by omega) (by simp;omega)
 have ht:Tch (fun k=>st.1.ownBlock=some k) X Y:=(Tch.of_below _ hb).same (Tch.of_grown hg fun k e=>e)
 have hstay:∀ {p:Value × List V5} {J':List Cel},GRs B X p.1 p.2 J'→(∀ k,fpG p.1 p.2 k→st.1.ownBlock ≠ some k)→GRs B Y p.1 p.2 J':=fun {p J'} hp hn=>hp.stayF fun k hk=>ht.block k (hp.fp_lt hk).2 (hn k hk)
 refine⟨v',Y,hrun,⟨by rw[List.length_append,List.map_append];exact hr,by rw[List.length_append,List.length_append,h.2.1];rfl,fun i p J' hp hJ=>?_⟩,ht,fun k hk=>?_⟩
 ·dsimp only at hp
  rcases Nat.lt_or_ge i st.2.length with hi2 | hi2
  ·rw[List.getElem?_append_left hi2] at hp
   rw[List.getElem?_append_left (by rw[← h.2.1];exact hi2)] at hJ
   have hp0:=h.2.2 i p J' hp hJ
   refine hstay hp0 fun k hk e=>?_
   obtain⟨cs,T,e1,hT⟩:=hp0.fp_cells hk
   obtain⟨cs2,e2⟩:=cells_row h.1 e
   rw[e1] at e2
   injection e2 with e2
   injection e2 with _ e3 _
   rcases hT with hT | hT <;> (rw[hT] at e3;exact absurd e3 (by decide))
  ·rw[List.getElem?_append_right hi2] at hp
   rw[List.getElem?_append_right (by rw[← h.2.1];exact hi2),← h.2.1] at hJ
   have e0:i - st.2.length=0:=by
    rcases Nat.eq_zero_or_pos (i - st.2.length) with h | h
    ·exact h
    ·rw[List.getElem?_eq_none (by simp;omega)] at hp;cases hp
   rw[e0] at hp hJ
   simp only[List.getElem?_cons_zero,Option.some.injEq] at hp hJ
   subst hp hJ
   exact hstay hu hne
 ·rcases hbl with e | e
  ·exact .inl (by rw[← e,hk])
  ·rw[e] at hk
   injection hk with hk
   right
   rw[← hk];simp
end
end Go.Proofs.YtnjlkhhcfiedbaaGreatDoor
namespace Go.Proofs.YtnjlkhhcfiedbaaGreatDoor
open Go.RowKit Go.Shelf
attribute [local go_sem] Oper.semAt_some
set_option maxHeartbeats 1000000 in
theorem keyed_any (P:Option Addr) (m c:Nat) (w:World) :
  Calls Tryz.prog 61 #[.slice P m c] w fun e w'=>e=.returned (.func (.func 86) #[] #[.pointer (some ⟨w.heap.size,0,none⟩)])∧w'=w.alloc (.cells #[.slice P m c] 31):=by
 go_enter Tryz.func61,Tryz.ntmps61
 go_wp2
 go_ret
 exact⟨rfl,rfl⟩
set_option maxHeartbeats 1000000 in
theorem pieces_any (f g:Value) (m:Int) (w:World) (hf:f.oneCell'=true) (hg:g.oneCell'=true) (b:Array Value) (k:Fn) (hk:f=.func k #[] b) (k':Fn) (hk':g=.func k' #[] #[]) :
  Calls Tryz.prog 60 #[f,.int .i64 m,g] w fun e w'=>e=.returned (.func (.func 85) #[] #[.pointer (some ⟨w.heap.size,0,none⟩),.pointer (some ⟨w.heap.size+2,0,none⟩),.pointer (some ⟨w.heap.size+1,0,none⟩)])∧∃ T1 T2 T3,w'=((w.alloc (.cells #[f] T1)).alloc (.cells #[.int .i64 m] T2)).alloc (.cells #[g] T3):=by
 subst hk hk'
 go_enter Tryz.func60,Tryz.ntmps60
 go_wp2
 go_ret
 exact⟨rfl,_,_,_,rfl⟩
set_option maxHeartbeats 2000000 in
theorem reven_none (P:Option Addr) (c:Nat) (w:World) :
  Calls Tryz.prog 59 #[.slice P 0 c] w fun e w'=>e=.returned (.bool true)∧Below w.heap.size w w':=by
 obtain⟨N,hN⟩:∃ N,N=0:=⟨_,rfl⟩
 rw[← hN]
 have HN:=Lib.hid hN
 clear hN
 go_enter Tryz.func59,Tryz.ntmps59
 go_wp2_with fail
 go_loopw [8] (fun i wr=>i=.int .i64 (0:Nat)∧Below w.heap.size w wr) (fun i _=>0)
 case atStart=>exact⟨rfl,Below.refl _ _⟩
 case round =>
  obtain⟨rfl,hb⟩:=hrel
  rename World=>wr
  have Hb:=Lib.hid hb
  clear hb
  obtain rfl:=HN.out
  have d1:decide ((0:Int)<((0:Nat):Int))=false:=rfl
  go_wp2
  go_ret
  exact⟨rfl,Hb.out⟩
def BoxV (X:World) (b:Nat) (v:Value):Prop:=∃ T,Own T X b [v]
def RInv (w0:World) (z b5 bk bi bm bj:Nat) (A:Option Addr) (N c m:Nat) (pre:List PX) (st:RSt) (X:World):Prop :=
 (Below w0.heap.size w0 X∧Own 64 X b5 [st.1]∧GSz (z+2) X st (pre.map fun x=>grpR x.2.2)∧st.2.length=pre.length) ∧
 BoxV X bi (.func (.func 86) #[] #[.pointer (some ⟨bk,0,none⟩)])∧BoxV X bj (.func (.func 62) #[] #[])∧BoxV X bm (.int .i64 (m:Int))∧BoxV X bk (.slice A N c)
theorem GSz.mono {B B':Nat} {X:World} {st:RSt} {Js:List (List Cel)} (h:GSz B X st Js) (hb:B'≤B):GSz B' X st Js:=⟨own_mono h.1 hb,h.2.1,fun i p J hp hJ=>(h.2.2 i p J hp hJ).mono hb⟩
theorem BoxV.stay {X Y:World} {b:Nat} {v:Value} {M:Nat→Prop} (h:BoxV X b v) (ht:Tch M X Y) (hM:¬ M b):BoxV Y b v:=by
 obtain⟨T,h⟩:=h
 exact⟨T,(ht.block _ h.lt hM).trans h⟩
theorem BoxV.cell {X:World} {b:Nat} {v:Value} (h:BoxV X b v):X.cell? ⟨b,0,none⟩=some v:=by
 obtain⟨T,h⟩:=h
 exact h.cell (i:=0) rfl
theorem RInv.stay {w0:World} {z b5 bk bi bm bj:Nat} {A:Option Addr} {N c m:Nat} {pre:List PX} {st:RSt} {X Y:World} {M:Nat→Prop} (h:RInv w0 z b5 bk bi bm bj A N c m pre st X) (ht:Tch M X Y)
  (hz:w0.heap.size≤z∧b5<z∧bk<z∧bi<z∧bm<z∧bj<z) (hM:∀ k,M k→z≤k∧¬ fpZ st k):RInv w0 z b5 bk bi bm bj A N c m pre st Y:=by
 obtain⟨⟨h1,h2,h3,h4⟩,h5,h6,h7,h8⟩:=h
 refine⟨⟨h1.trans (ht.below (fun k hk=>by have:=(hM k hk).1;omega) h1.size),(ht.block _ h2.lt fun hk=>by have:=(hM _ hk).1;omega).trans h2,h3.stayF fun k hk=>ht.block k (h3.fp_lt hk).2 fun hm=>(hM k hm).2 hk,h4⟩,h5.stay ht fun hk=>?_,h6.stay ht fun hk=>?_,h7.stay ht fun hk=>?_,h8.stay ht fun hk=>?_⟩ <;> (have:=(hM _ hk).1;omega)
theorem GSz.not_loop {B:Nat} {X:World} {st:RSt} {Js:List (List Cel)} (h:GSz B X st Js) {k:Nat} {o:Obj} (ho:X.heap[k]? = some o) (hc:o.isCells=false):¬ fpZ st k:=fun hk=>by
 obtain⟨cs,T,e⟩:=h.fp_cells hk
 rw[ho] at e
 injection e with e
 subst e
 cases hc
theorem row_not {B n:Nat} {T:TypeId} {sz:Nat} {X:World} {k:Nat} {v:Value} {xs:List Value} {o:Obj} (h:X.ownsRow B T sz v n xs) (ho:X.heap[k]? = some o) (hc:o.isCells=false):v.ownBlock ≠ some k:=fun hk=>by
 obtain⟨cs,e⟩:=cells_row (n:=n) h hk
 rw[ho] at e
 injection e with e
 subst e
 cases hc
theorem PieceR.loop {w0:World} {B me K:Nat} {okp:Nat→Prop} {x:PX} {X Y:World} {b:Nat} {o:Obj} (h:PieceR w0 B me K okp x X) (ht:Tch (fun k=>k=b) X Y) (ho:X.heap[b]? = some o) (hc:o.isCells=false):PieceR w0 B me K okp x Y :=
 ⟨own_stay h.row fun k hk=>ht.block k (h.row.lt k hk).2 fun e=>row_not h.row (e ▸ ho) hc hk,h.rd.tchN ht fun _ e=>notint_of (e ▸ ho) hc,h.okr,h.good,h.apart,h.ne,h.len⟩
theorem fpZ_snoc {v:Value} {st:RSt} {u:Value} {zs:List V5} {k:Nat} (h:fpZ (v,st.2 ++ [(u,zs)]) k):v.ownBlock=some k∨fpZ st k∨fpG u zs k:=by
 rcases h with h | ⟨p,hp,h⟩
 ·exact .inl h
 ·rcases List.mem_append.1 hp with hp | hp
  ·exact .inr (.inl (.inr ⟨p,hp,h⟩))
  ·rw[List.mem_singleton] at hp
   subst hp
   exact .inr (.inr h)
theorem OwnL.fresh {B:Nat} {X:World} {us:List V5} {J:List Cel} (h:OwnL B X us J) {u:V5} (hu:u ∈ us) {k:Nat} (hk:u.a.ownBlock=some k∨u.c.ownBlock=some k∨u.d.ownBlock=some k∨u.e.ownBlock=some k):B≤k:=by
 obtain⟨i,hi⟩:=List.getElem?_of_mem hu
 have hl:=(List.getElem?_eq_some_iff.1 hi).1
 obtain⟨-,⟨a,b,c,d⟩,-⟩:=h.2 i u _ hi (List.getElem?_eq_getElem (by rw[← h.1];exact hl))
 rcases hk with hk | hk | hk | hk
 ·exact (a.1.lt k hk).1
 ·exact (b.1.lt k hk).1
 ·exact (c.1.lt k hk).1
 ·exact (d.1.lt k hk).1
theorem RInv.run {w0:World} {z b5 bk bi bm bj:Nat} {A:Option Addr} {N c m:Nat} {pre:List PX} {st:RSt} {X X6:World} {g n cp me:Nat} {us us6:List V5} {H:List Cel} (h:RInv w0 z b5 bk bi bm bj A N c m pre st X)
  (hz:w0.heap.size≤z∧b5<z∧bk<z∧bi<z∧bm<z∧bj<z) (hd:bk ≠ b5∧bi ≠ b5∧bm ≠ b5∧bj ≠ b5∧w0.heap.size≤b5) (hzX:z+2≤X.heap.size) (hx:PieceR w0 (z+2) me 60 (fun k=>z+2≤k∧¬ fpZ st k) (.slice (some ⟨g,0,none⟩) n cp,us,H) X) (hpl:pre.length≤60)
  (hG:GRs (z+2) X6 (.slice (some ⟨g,0,none⟩) n cp) us6 (grpR H)) (hO:OwnL X.heap.size X6 us6 (grpR H)) (ht:Tch (fun k=>k=g) X X6) :
  X6.cell? ⟨b5,0,none⟩=some st.1∧∃ v' Y,(Builtin.append_ #[64,64] 64 #[st.1,.slice (some ⟨X6.heap.size,0,none⟩) 1 1]).run Tryz.prog (X6.alloc (.cells #[.slice (some ⟨g,0,none⟩) n cp] 31))=.ok v' Y∧Own 64 Y b5 [st.1] ∧
   RInv w0 z b5 bk bi bm bj A N c m (pre ++ [(.slice (some ⟨g,0,none⟩) n cp,us,H)]) (v',st.2 ++ [(.slice (some ⟨g,0,none⟩) n cp,us6)]) (Y.setCell ⟨b5,0,none⟩ v') ∧
   Tch (fun k=>k=b5∨st.1.ownBlock=some k∨k=g) X (Y.setCell ⟨b5,0,none⟩ v') ∧
   ∀ k,k<X.heap.size→(z+2≤k∧¬ fpZ st k)→¬ (k=b5∨st.1.ownBlock=some k∨k=g)→(z+2≤k∧¬ fpZ (v',st.2 ++ [(.slice (some ⟨g,0,none⟩) n cp,us6)]) k):=by
 obtain⟨hg2,hgf⟩:=hx.okr g rfl
 have hgX:=(hx.row.lt g rfl).2
 obtain⟨⟨h1,h2,h3,h4⟩,h5,h6,h7,h8⟩:=h
 have hs6:=ht.size
 have hB6:z+2≤X6.heap.size:=by omega
 have o56:Own 64 X6 b5 [st.1]:=(ht.block _ h2.lt (by omega)).trans h2
 have h36:GSz (z+2) X6 st (pre.map fun x=>grpR x.2.2):=h3.stayF fun k hk=>ht.block k (h3.fp_lt hk).2 fun e=>hgf (e ▸ hk)
 have hne:∀ k,fpG (.slice (some ⟨g,0,none⟩) n cp) us6 k→st.1.ownBlock ≠ some k:=fun k hk e=>by
  obtain⟨cs,T,e1,hT⟩:=hG.fp_cells hk
  obtain⟨cs2,e2⟩:=cells_row h36.1 e
  rw[e1] at e2
  injection e2 with e2
  injection e2 with _ e3 _
  rcases hT with hT | hT <;> (rw[hT] at e3;exact absurd e3 (by decide))
 obtain⟨v',Y,hrun,hGY,htY,hvY⟩:=append_gz h36 hG hne (by omega) hB6
 have hsY:=htY.size
 have rz:∀ k,st.1.ownBlock=some k→z+2≤k∧k<X.heap.size:=fun k hk=>h3.fp_lt (.inl hk)
 have o5Y:Own 64 Y b5 [st.1]:=(htY.block _ o56.lt fun e=>by have:=(rz _ e).1;omega).trans o56
 have htZ:Tch (fun k=>k=b5) Y (Y.setCell ⟨b5,0,none⟩ v'):=Tch.of_only (only_setCell b5 Y 0 _) rfl
 have hT1:Tch (fun k=>k=b5∨st.1.ownBlock=some k∨k=g) X (Y.setCell ⟨b5,0,none⟩ v'):=((ht.mono fun k _ e=>.inr (.inr e)).same (htY.mono fun k _ e=>.inr (.inl e))).same (htZ.mono fun k _ e=>.inl e)
 have hnb:∀ b v,BoxV X b v→b<z→b ≠ b5→BoxV (Y.setCell ⟨b5,0,none⟩ v') b v:=fun b v hb hlt hnb=>hb.stay hT1 fun hk=>by
  rcases hk with e | e | e
  ·exact hnb e
  ·have:=(rz _ e).1;omega
  ·omega
 refine⟨o56.cell (i:=0) rfl,v',Y,hrun,o5Y,⟨⟨h1.trans (hT1.below (fun k hk=>?_) h1.size),o5Y.set_ 0 _,?_,?_⟩,hnb _ _ h5 hz.2.2.2.1 hd.2.1,hnb _ _ h6 hz.2.2.2.2.2 hd.2.2.2.1,hnb _ _ h7 hz.2.2.2.2.1 hd.2.2.1,hnb _ _ h8 hz.2.2.1 hd.1⟩,hT1,fun k hk ⟨hk1,hk2⟩ hk3=>⟨hk1,fun hq=>?_⟩⟩
 ·rcases hk with e | e | e
  ·have:=hd.2.2.2.2;omega
  ·have:=(rz _ e).1;omega
  ·omega
 ·rw[List.map_append]
  exact hGY.stayF fun k hk=>htZ.block k (hGY.fp_lt hk).2 fun e=>by have:=(hGY.fp_lt hk).1;omega
 ·rw[List.length_append,List.length_append,h4];rfl
 ·rcases fpZ_snoc hq with q | q | q
  ·rcases hvY k q with q | q
   ·exact hk3 (.inr (.inl q))
   ·omega
  ·exact hk2 q
  ·rcases q with q | ⟨u,hu,q⟩
   ·injection q with q
    exact hk3 (.inr (.inr q.symm))
   ·have:=hO.fresh hu q
    omega
set_option maxRecDepth 100000 in
set_option maxHeartbeats 8000000 in
theorem runs_any (P:Option Addr) (c N m me:Nat) (L:List Cel) (w:World) (hr:RowC w P N L) (hN:N=L.length) (hN1:N≤60) (hg:∀ x ∈ L,GoodC me x) (hme:me≤2) (hm:1≤m) (hm2:m≤9223372036854775807) :
  Calls Tryz.prog 40 #[.slice P N c,.int .i64 m] w fun e w'=>∃ v gs,e=.returned v∧GSz w.heap.size w' (v,gs) (runsP m [] L)∧Below w.heap.size w w':=by
 have hE:Calls Tryz.prog 59 #[.slice P N c] w fun e w'=>e=.returned (.bool true)∧Below w.heap.size w w':=by
  rcases Nat.eq_zero_or_pos N with h0 | h0
  ·rw[h0];exact reven_none P c w
  ·obtain⟨ad,rfl,hc⟩:=hr h0
   rw[hN];exact reven_any ad c L me w hc (fun x hx=>(hg x hx).2.2.1) (by omega) (by omega)
 obtain⟨D,hD1,hD2,hD3⟩:∃ D:List (V5 × Cel),D.map (·.2)=L∧(∀ x ∈ D,Reads w x.1 x.2∧GoodC me x.2)∧(0<N→∃ ad,P=some ad∧∀ j u,(flatV (D.map (·.1)))[j]? = some u→w.cell? (ad.add j)=some u):=by
  rcases Nat.eq_zero_or_pos N with h0 | h0
  ·have:L=[]:=List.length_eq_zero_iff.1 (by omega)
   exact⟨[],by rw[this];rfl,⟨fun x hx=>absurd hx (List.not_mem_nil),fun h=>by omega⟩⟩
  ·obtain⟨ad,rfl,hc⟩:=hr h0
   obtain⟨vs,hv,hf⟩:=hc.vals
   refine⟨vs.zip L,List.map_snd_zip (by rw[hv.1];exact Nat.le_refl _),fun x hx=>?_,fun _=>⟨ad,rfl,?_⟩⟩
   ·obtain⟨i,hi⟩:=List.getElem?_of_mem hx
    rw[List.getElem?_zip_eq_some] at hi
    exact⟨hv.2 i _ _ hi.1 hi.2,hg _ (List.mem_of_getElem? hi.2)⟩
   ·rw[List.map_fst_zip (by rw[hv.1];exact Nat.le_refl _)];exact hf
 have hDl:N=D.length:=by rw[hN,← hD1,List.length_map]
 have HE:=Lib.hid hE
 have HL:=Lib.hid hD1
 have HD:=Lib.hid hD2
 have HC:=Lib.hid hD3
 have HN:=Lib.hid hDl
 have d1:decide ((m:Int)<1)=false:=by simp;omega
 clear hE hD1 hD2 hD3 hDl hr hN hg
 rw[← callsIn_wide (n:=12)]
 refine callsIn_of_wp_marks Tryz.func40 rfl trivial ?_ rfl
 simp only[Tryz.ntmps40,List.size_toArray,List.length_cons,List.length_nil,Nat.reduceAdd,Nat.reduceSub,Array.replicate_succ,Array.replicate_zero,List.push_toArray,List.append_toArray,List.nil_append,List.cons_append]
 gi_wp2_with fail
 refine⟨trivial,?_⟩
 refine (callsIn_wide.2 HE.out).mono ?_
 rintro e w1 ⟨rfl,hb1⟩
 have HB1:=Lib.hid hb1
 clear hb1 HE
 gi_wp2_with fail
 refine⟨trivial,?_⟩
 refine (callsIn_wide.2 (keyed_any P N c _)).mono ?_
 rintro e w2 ⟨rfl,rfl⟩
 gi_wp2_with fail
 refine⟨trivial,?_⟩
 refine (callsIn_wide.2 (pieces_any _ _ _ _ rfl rfl _ _ rfl _ rfl)).mono ?_
 rintro e w3 ⟨rfl,T1,T2,T3,rfl⟩
 gi_wp2_with fail
 obtain⟨W4,hW4⟩:∃ W4,W4=((((w1.alloc (.cells #[.slice none 0 0] 64)).alloc (.cells #[.slice P N c] 31)).alloc (.cells #[.func (.func 86) #[] #[.pointer (some ⟨w1.heap.size+1,0,none⟩)]] T1)).alloc (.cells #[.int .i64 (m:Int)] T2)).alloc (.cells #[.func (.func 62) #[] #[]] T3):=⟨_,rfl⟩
 try simp only[World.size_alloc] at hW4 ⊢
 rw[← hW4]
 have hb4:Below w1.heap.size w1 W4:=by rw[hW4];exact (((((Below.refl _ w1).alloc (Nat.le_refl _) _).alloc (by simp) _).alloc (by simp;omega) _).alloc (by simp;omega) _).alloc (by simp;omega) _
 have hz4:W4.heap.size=w1.heap.size+5:=by rw[hW4];simp
 obtain⟨e5,ek,ei,em,ej⟩:Own 64 W4 w1.heap.size [.slice none 0 0]∧BoxV W4 (w1.heap.size+1) (.slice P N c)∧BoxV W4 (w1.heap.size+2) (.func (.func 86) #[] #[.pointer (some ⟨w1.heap.size+1,0,none⟩)])∧BoxV W4 (w1.heap.size+3) (.int .i64 (m:Int))∧BoxV W4 (w1.heap.size+4) (.func (.func 62) #[] #[]):=by
  obtain⟨Wa,ha⟩:∃ X,X=w1.alloc (.cells #[.slice none 0 0] 64):=⟨_,rfl⟩
  obtain⟨Wb,hb⟩:∃ X,X=Wa.alloc (.cells #[.slice P N c] 31):=⟨_,rfl⟩
  obtain⟨Wc,hc⟩:∃ X,X=Wb.alloc (.cells #[.func (.func 86) #[] #[.pointer (some ⟨w1.heap.size+1,0,none⟩)]] T1):=⟨_,rfl⟩
  obtain⟨Wd,hd⟩:∃ X,X=Wc.alloc (.cells #[.int .i64 (m:Int)] T2):=⟨_,rfl⟩
  rw[← ha,← hb,← hc,← hd] at hW4
  have sa:Wa.heap.size=w1.heap.size+1:=by rw[ha];simp
  have sb:Wb.heap.size=w1.heap.size+2:=by rw[hb];simp[sa]
  have sc:Wc.heap.size=w1.heap.size+3:=by rw[hc];simp[sb]
  have sd:Wd.heap.size=w1.heap.size+4:=by rw[hd];simp[sc]
  have n1:Own 64 Wa w1.heap.size [.slice none 0 0]:=by rw[ha];exact heap_alloc_new w1 _
  have n2:Own 31 Wb (w1.heap.size+1) [.slice P N c]:=by rw[← sa,hb];exact heap_alloc_new Wa _
  have n3:Own T1 Wc (w1.heap.size+2) [.func (.func 86) #[] #[.pointer (some ⟨w1.heap.size+1,0,none⟩)]]:=by rw[← sb,hc];exact heap_alloc_new Wb _
  have n4:Own T2 Wd (w1.heap.size+3) [.int .i64 (m:Int)]:=by rw[← sc,hd];exact heap_alloc_new Wc _
  have n5:Own T3 W4 (w1.heap.size+4) [.func (.func 62) #[] #[]]:=by rw[← sd,hW4];exact heap_alloc_new Wd _
  have q1:Below Wa.heap.size Wa Wb:=by rw[hb];exact (Below.refl _ _).alloc (Nat.le_refl _) _
  have q2:Below Wb.heap.size Wb Wc:=by rw[hc];exact (Below.refl _ _).alloc (Nat.le_refl _) _
  have q3:Below Wc.heap.size Wc Wd:=by rw[hd];exact (Below.refl _ _).alloc (Nat.le_refl _) _
  have q4:Below Wd.heap.size Wd W4:=by rw[hW4];exact (Below.refl _ _).alloc (Nat.le_refl _) _
  exact⟨(q4.block _ (by omega)).trans ((q3.block _ (by omega)).trans ((q2.block _ (by omega)).trans ((q1.block _ (by omega)).trans n1))),⟨_,(q4.block _ (by omega)).trans ((q3.block _ (by omega)).trans ((q2.block _ (by omega)).trans n2))⟩,⟨_,(q4.block _ (by omega)).trans ((q3.block _ (by omega)).trans n3)⟩,⟨_,(q4.block _ (by omega)).trans n4⟩,⟨_,n5⟩⟩
 have hw1:=HB1.out.size
 have hI0:RInv w W4.heap.size w1.heap.size (w1.heap.size+1) (w1.heap.size+2) (w1.heap.size+3) (w1.heap.size+4) P N c m [] (.slice none 0 0,[]) W4 :=
  ⟨⟨HB1.out.trans (hb4.mono hw1),e5,⟨World.ownsRow_nil _ _ _ _,rfl,fun i p J hp=>by cases hp⟩,rfl⟩,ei,ej,em,ek⟩
 obtain⟨b5,hb5⟩:∃ b,b=w1.heap.size:=⟨_,rfl⟩
 obtain⟨bk,hbk⟩:∃ b,b=w1.heap.size+1:=⟨_,rfl⟩
 obtain⟨bi,hbi⟩:∃ b,b=w1.heap.size+2:=⟨_,rfl⟩
 obtain⟨bm,hbm⟩:∃ b,b=w1.heap.size+3:=⟨_,rfl⟩
 obtain⟨bj,hbj⟩:∃ b,b=w1.heap.size+4:=⟨_,rfl⟩
 have r2:w1.heap.size+1+1=bi:=by omega
 have r3:w1.heap.size+1+1+1=bm:=by omega
 have r4:w1.heap.size+1+1+1+1=bj:=by omega
 have r5:bi+2=bj:=by omega
 have r6:bi+1=bm:=by omega
 try simp only[r2]
 rw[← hbk,← hbi,← hbm,← hbj,← hb5] at hI0
 try rw[← hbi]
 try rw[← hbm]
 try rw[← hbj]
 try rw[← hbk]
 try rw[← hb5]
 rw[r5,r6]
 have hz:w.heap.size≤W4.heap.size∧b5<W4.heap.size∧bk<W4.heap.size∧bi<W4.heap.size∧bm<W4.heap.size∧bj<W4.heap.size:=by omega
 have hd:bk ≠ b5∧bi ≠ b5∧bm ≠ b5∧bj ≠ b5∧w.heap.size≤b5:=by omega
 have H0:=Lib.hid hI0
 have HZ:=Lib.hid hz
 have HDD:=Lib.hid hd
 clear hI0 hz hd r2 r3 r4 r5 r6 hb5 hbk hbi hbm hbj e5 ek ei em ej hz4 hb4 hW4 hw1 HB1
 refine range_st rfl (by omega) (gf:=85) (lb:=#[.pointer (some ⟨bi,0,none⟩),.pointer (some ⟨bj,0,none⟩),.pointer (some ⟨bm,0,none⟩)]) rfl trivial (enters_of Tryz.func85 (by kernel_rfl) rfl) (encs:=fun x:PX=>#[x.1]) (S:=fun xs (_:RSt)=>xs.map (·.2.2)=dealE ((D.map (·.2)).foldl (dealS m) ([],[]))) (fun _=>rfl)
  (RInv w W4.heap.size b5 bk bi bm bj P N c m)
  (fun pre x st X=>PieceR w (W4.heap.size+2) me 60 (fun k=>W4.heap.size+2≤k∧¬ fpZ st k) x X∧pre.length≤60) (fun x st k=>k=b5∨st.1.ownBlock=some k∨x.1.ownBlock=some k) (fun st k=>W4.heap.size+2≤k∧¬ fpZ st k) (.slice none 0 0,[])
  (fun x X=>{ tmps:=#[.slice P N c,.int .i64 (m:Int),undef,undef,.slice none 0 0,.pointer (some ⟨b5,0,none⟩),x.1,.int .i64 (m:Int),.bool false,.bool false,.slice P N c,.bool true,.bool false,.bool false,.slice P N c,.func (.func 86) #[] #[.pointer (some ⟨bk,0,none⟩)],.int .i64 (m:Int),.func (.func 85) #[] #[.pointer (some ⟨bi,0,none⟩),.pointer (some ⟨bj,0,none⟩),.pointer (some ⟨bm,0,none⟩)],x.1,undef,undef,undef,undef,undef,undef],defers:=[] })
  (fun x X=>X)
  ?hit ?hI ?hok ?htc ?h0 ?hwa ?hassign ?hbody ?hdone
 case hit =>
  intro J' W2 hbW hsz hJI' hst' hYl h0'
  exact pieces_in (12 - 1) (W4.heap.size+1) bi bj bm bk me (by omega) P c N m hm hm2 D w W2 HN.out hN1 hme HD.out HC.out (W4.heap.size+2) (by omega) J' _ (fun x st k=>k=b5∨st.1.ownBlock=some k∨x.1.ownBlock=some k)
   (fun pre s X h=>(hJI' _ _ _ h).1.1.1)
   (fun pre s X k h hk=>⟨by have:=(hJI' _ _ _ h).2;omega,fun q=>by have:=((hJI' _ _ _ h).1.1.2.2.1.fp_lt q).2;omega⟩)
   hst' (fun x s k ht ho=>by
    rcases ht with e | e | e
    ·have:=HZ.out;have:=ho.1;omega
    ·exact (ho.2 (.inl e)).elim
    ·exact e)
   (fun pre s X h=>⟨(hJI' _ _ _ h).1.2.1.cell,(hJI' _ _ _ h).1.2.2.1.cell,(hJI' _ _ _ h).1.2.2.2.1.cell,(hJI' _ _ _ h).1.2.2.2.2.cell⟩)
   (fun pre s x W1 h hx hp=>hYl pre s x W1 h ⟨hx,hp⟩) _ h0'
 case hI =>
  intro pre st X Y M h ht hM
  refine h.stay ht HZ.out fun k hk=>?_
  rcases hM k hk with q | ⟨q,o,ho,hc⟩
  ·exact⟨by have:=q.1;omega,q.2⟩
  ·exact⟨by omega,h.1.2.2.1.not_loop ho hc⟩
 case hok=>exact fun s k h=>h.1
 case htc =>
  intro pre st x X r d h hx hd hl k hk
  rcases hk with e | e | e
  ·have:=HZ.out;omega
  ·exact⟨fun q=>row_not h.1.2.2.1.1 hd rfl (q ▸ e),fun q=>row_not h.1.2.2.1.1 hl rfl (q ▸ e)⟩
  ·exact⟨fun q=>row_not hx.1.row hd rfl (q ▸ e),fun q=>row_not hx.1.row hl rfl (q ▸ e)⟩
 case h0=>exact H0.out
 case hwa=>exact fun x X=>Below.refl _ _
 case hassign =>
  rintro pre st ⟨xv,us,H⟩ X K - hx hK
  dsimp only at hK ⊢
  gi_wp2
  exact hK
 case hbody =>
  rintro pre ⟨rv,gs⟩ ⟨xv,us,H⟩ X Xb h ⟨hx,hpl⟩ hsz ⟨r,hr⟩ hT
  dsimp only at hx hT hsz ⊢
  have hxb:=hx.loop hT hr rfl
  have hzz:=HZ.out
  have hb:RInv w W4.heap.size b5 bk bi bm bj P N c m pre (rv,gs) Xb:=h.stay hT HZ.out fun k e=>⟨by omega,h.1.2.2.1.not_loop (e ▸ hr) rfl⟩
  have hszb:W4.heap.size+2≤Xb.heap.size:=by have:=hT.size;omega
  have hXXb:=hT.size
  have hDr:Below Xb.heap.size Xb Xb.drew:=(Below.refl _ Xb).drew
  have hxd:PieceR w (W4.heap.size+2) me 60 (fun k=>W4.heap.size+2≤k∧¬ fpZ (rv,gs) k) (xv,us,H) Xb.drew:=⟨own_below hxb.row hDr (Nat.le_refl _),hxb.rd.below hDr,hxb.okr,hxb.good,hxb.apart,hxb.ne,hxb.len⟩
  have hbd:RInv w W4.heap.size b5 bk bi bm bj P N c m pre (rv,gs) Xb.drew:=hb.stay (M:=fun _=>False) (Tch.of_below _ hDr) HZ.out fun k e=>e.elim
  have hul:us.length=H.length:=hxd.rd.1
  have hpos:0<us.length:=by rw[hul];exact List.length_pos_iff.2 hxd.ne
  obtain⟨P',c',e',-,-,hrow⟩:=own_form hxd.row
  dsimp only at e' hrow
  obtain⟨g,eg,-,-⟩:=hrow hpos
  subst eg e'
  have k5:=hb.1.2.1.cell (i:=0) rfl
  dsimp only at k5
  have hR:=run_any w (W4.heap.size+2) me g c' us.length us H Xb.drew hxd.row rfl hxd.rd hbd.1.1 (by have:=(hxd.okr g rfl).1;omega) hxd.good hxd.apart hpos (by rw[hul];exact hxd.len) hme hszb
  obtain⟨n,hn⟩:∃ n,n=us.length:=⟨_,rfl⟩
  rw[← hn] at hR hxd ⊢
  have HR:=Lib.hid hR
  have HX:=Lib.hid hxd
  have HB:=Lib.hid hbd
  have HPL:=Lib.hid hpl
  have HDR:=Lib.hid hDr
  have HSZ:=Lib.hid hszb
  have HXX:=Lib.hid hXXb
  have HSZ0:=Lib.hid hsz
  clear hx hT hsz hxb hzz hb hszb hXXb hDr hxd hbd hul hpos hrow hR hn h hr hpl
  gi_wp2_with fail
  refine region_N (S:=fun W'=>W'.cell? ⟨b5,0,none⟩=some rv) (kill:=[4,5]) (by kernel_rfl) k5 (fun hHeld=>?_)
  refine WTN (i:=0) (v:=?vrg0) ?yrg0 hHeld ?rrg0
  case yrg0=>(intro W hW;obtain g5:=hW;go_simp;first | done | with_reducible rfl)
  try simp only[SL,Act.put]
  refine WTN (i:=1) (v:=?vrg1) ?yrg1 hHeld ?rrg1
  case yrg1=>(intro W hW;obtain g5:=hW;go_simp;first | done | with_reducible rfl)
  try simp only[SL,Act.put]
  clear k5
  refine anyN_ready (rs:=[2]) (by kernel_rfl) (by simp) ?_
  refine AllN.cons (by kernel_rfl) rfl (by rfl) (fun K hK=>?_) (AllN.nil)
  refine⟨fun _ _=>trivial,?_⟩
  go_simp
  refine (CallsIn.inRound _ (callsIn_wide.2 HR.out)).mono ?_
  rintro e6 w6 ⟨rfl,⟨us6,hG6,hl6,hO6⟩,ht6⟩
  obtain⟨k56,v',Y,hrun,o5Y,hInv,hTc,hok⟩:=HB.out.run HZ.out HDD.out HSZ.out HX.out HPL.out hG6 hO6 ht6
  dsimp only at k56 hrun o5Y hInv hTc hok
  refine hK.out _ _ (fun _=>k56) ?_
  clear hK K
  try simp only[SL,Act.put]
  have k5Y:=o5Y.cell (i:=0) rfl
  have f5Y:=o5Y.frozen 0
  obtain⟨Pv,cv,ev,-⟩:=own_form hInv.1.2.2.1.1
  dsimp only at ev
  obtain⟨nv,hnv⟩:∃ z,z=(gs ++ [(Value.slice (some ⟨g,0,none⟩) n c',us6)]).length:=⟨_,rfl⟩
  rw[← hnv] at ev
  have Hrun:=Lib.hid hrun
  have HE:=Lib.hid (And.intro hInv (And.intro ((Tch.of_below _ HDR.out).same hTc) hok))
  clear hG6 hl6 hO6 ht6 hrun o5Y hInv hTc hok HR HX HB hnv
  subst ev
  refine anyN_ready (rs:=[3]) (by kernel_rfl) (by simp) ?_
  refine AllN.cons (by kernel_rfl) rfl (by rfl) (fun K hK=>?_) (AllN.nil)
  refine⟨fun _ _=>trivial,?_⟩
  go_simp
  refine hK.out _ _ (fun _=>((Keeps.refl w6).alloc _) _ _ k56) ?_
  clear hK K
  try simp only[SL,Act.put]
  refine anyN_ready (rs:=[4]) (by kernel_rfl) (by simp) ?_
  refine AllN.cons (by kernel_rfl) rfl (by rfl) (fun K hK=>?_) (AllN.nil)
  refine⟨fun _ _=>trivial,?_⟩
  refine uponI_append (.tmp 19) (.tmp 22) 64 rfl _ _ _ rfl rfl Hrun.out ?_
  refine hK.out _ _ (fun h=>absurd (by decide) h) ?_
  clear hK K
  try simp only[SL,Act.put]
  refine anyN_ready (rs:=[5]) (by kernel_rfl) (by simp) ?_
  refine AllN.cons (by kernel_rfl) rfl (by rfl) (fun K hK=>?_) (AllN.nil)
  refine⟨fun _ _=>trivial,?_⟩
  go_simp
  refine hK.out _ _ (fun h=>absurd (by decide) h) ?_
  clear hK K
  try simp only[SL,Act.put]
  refine anyN_done (by kernel_rfl) ?_ _
  gi_wp2
  have hconv:∀ k,(k=b5∨rv.ownBlock=some k∨k=g)→(k=b5∨rv.ownBlock=some k∨(Value.slice (some ⟨g,0,none⟩) n c').ownBlock=some k):=fun k e=>e.imp id fun e=>e.imp id fun e=>by rw[e];rfl
  exact⟨_,HE.out.1,HE.out.2.1.mono fun k _ e=>hconv k e,fun k hk ho hn=>HE.out.2.2 k (Nat.lt_of_lt_of_le hk HXX.out) ho fun e=>hn (hconv k e)⟩
 case hdone =>
  rintro xs ⟨rv,gs⟩ X hxs h hD0
  have hout:=h.1.2.1.cell (i:=0) rfl
  dsimp only at hout
  have HF:Hid (GSz w.heap.size (X.putObj W4.heap.size (.deferred none)) (rv,gs) (runsP m [] L)∧Below w.heap.size w (X.putObj W4.heap.size (.deferred none))):=Lib.hid (by
   have hT:Tch (fun k=>k=W4.heap.size) X (X.putObj W4.heap.size (.deferred none)):=tch_put _ rfl
   have h':=h.stay hT HZ.out fun k e=>⟨by omega,h.1.2.2.1.not_loop (e ▸ hD0) rfl⟩
   have e1:(xs.map fun x=>grpR x.2.2)=runsP m [] L:=by
    have:=deal_runs hm (D.map (·.2)) [] [] List.Pairwise.nil
    rw[← hxs,HL.out,List.map_map] at this
    exact this
   exact⟨by rw[← e1];exact h'.1.2.2.1.mono (by have:=HZ.out;omega),h'.1.1⟩)
  have HD0:=Lib.hid hD0
  clear h hD0 hxs
  gi_wp2
  refine⟨by simp,.inl ⟨_,_,rfl,run_takeDeferred HD0.out,?_⟩⟩
  exact⟨_,results_tmp rfl _ _ _,rv,gs,rfl,HF.out⟩
end Go.Proofs.YtnjlkhhcfiedbaaGreatDoor
namespace Go.Proofs.YtnjlkhhcfiedbaaGreatDoor
open Go.RowKit Go.Shelf
theorem GSz.form {B:Nat} {X:World} {v:Value} {gs:List (Value × List V5)} {Js:List (List Cel)} (h:GSz B X (v,gs) Js):∃ P c,v=.slice P Js.length c∧Js.length≤c∧c≤maxLen∧RunsC X P Js.length Js∧(P=none→c=0):=by
 obtain⟨P,c,hv,h1,h2,h3⟩:=own_form h.1
 have hl:=h.2.1
 dsimp only at hv h1 h3 hl
 rw[hl] at hv h1 h3
 refine⟨P,c,hv,h1,h2,fun hn=>?_,fun e=>?_⟩
 ·obtain⟨g,rfl,-,q5⟩:=h3 hn
  refine⟨_,rfl,fun i J hJ=>?_⟩
  obtain⟨p,hp⟩:∃ p,gs[i]? = some p:=⟨_,List.getElem?_eq_getElem (by rw[hl];exact (List.getElem?_eq_some_iff.1 hJ).1)⟩
  have hG:=h.2.2 i p J hp hJ
  obtain⟨Pi,ci,e1,e2,e3,-,e4⟩:=hG.form
  have hul:=hG.len
  rw[hul] at e1 e2
  refine⟨Pi,ci,?_,?_,e2,e3,e4⟩
  ·rw[add0,← e1]
   exact q5 i p.1 (by rw[List.getElem?_map,hp];rfl)
  ·rw[e1] at hG
   exact hG.rowC.1
 ·rcases own_form0 h.1 with ⟨e1,_⟩ | ⟨g,c',e1,_⟩
  ·rw[hv] at e1;injection e1
  ·rw[hv,e] at e1;injection e1 with e1 _ _;cases e1
end Go.Proofs.YtnjlkhhcfiedbaaGreatDoor
namespace Go.Proofs.YtnjlkhhcfiedbaaGreatDoor
open Go.RowKit
theorem pk_alike (k1 k2:List Int) (set:Int):∀ i,(pk k1 set i).length=(pk k2 set i).length
 | 0=>rfl
 | i+1=>by
  have:=pk_alike k1 k2 set i
  unfold pk
  split
  ·simp[this]
  ·exact this
theorem pk_vals (key:List Int) (set:Int) (h:∀ v ∈ key,0≤v∧v≤15):∀ i,∀ v ∈ pk key set i,0≤v∧v≤15
 | 0=>by simp[pk]
 | i+1=>by
  have ih:=pk_vals key set h i
  unfold pk
  split
  ·intro v hv
   rcases List.mem_append.1 hv with h1 | h1
   ·exact ih v h1
   ·rw[List.mem_singleton] at h1
    subst h1
    cases hk:key[i]? with
    | none=>simp
    | some x=>exact h x (List.mem_of_getElem? hk)
  ·exact ih
theorem keysB_16:∀ {cs vs:List Int},keysB cs vs=true→(∀ x ∈ cs,1≤x∧x≤16)→∀ v ∈ vs,0≤v∧v≤15
 | [],[],_,_=>by simp
 | c :: cs,v :: vs,h,hc=>by
  simp only[keysB,Bool.and_eq_true,decide_eq_true_eq] at h
  intro x hx
  rcases List.mem_cons.1 hx with rfl | hx
  ·have:=hc c (by simp);omega
  ·exact keysB_16 h.2 (fun y hy=>hc y (by simp[hy])) x hx
def dimN (sa:Int) (q:Nat):Nat:=(pk [] sa q).length
def OkL (d mm:Nat) (L:List Cel):Prop:=∀ x ∈ L,x.key.length=d∧okK x.key=true∧EvenC mm x
theorem ok_cells {cs:List Int} {q mm:Nat} {l:List Fact} (sa:Int) (hr:allRightB cs (mm:Int) l=true) (hl:∀ r ∈ l,r.key.length=q∧r.m.length=mm) (hc:∀ x ∈ cs,1≤x∧x≤16):OkL (dimN sa q) mm (l.map (ofC sa)):=fun x hx=>by
 obtain⟨r,hr1,rfl⟩:=List.mem_map.1 hx
 obtain⟨h1,h2⟩:=hl r hr1
 have h3:=rightB_key ((allRightB_spec hr).2 r hr1)
 refine⟨?_,?_,⟨h2,h2,h2⟩⟩
 ·show (pk r.key sa r.key.length).length=dimN sa q
  rw[h1]
  exact pk_alike _ _ _ _
 ·show okK (pk r.key sa r.key.length)=true
  unfold okK
  rw[List.all_eq_true]
  intro v hv
  exact decide_eq_true (pk_vals r.key sa (keysB_16 h3 hc) _ v hv)
theorem OkL.few {d mm:Nat} {L:List Cel} (h:OkL d mm L) (hd:d≤1000) (hm:mm≤1000000):FewC L:=fun x hx=>by
 obtain⟨h1,-,h2,h3,h4⟩:=h x hx
 omega
theorem grp_okL {d mm:Nat} {L:List Cel} (h:OkL d mm L):OkL d mm (grpR L):=fun x hx=>by
 refine⟨?_,?_,grp_even L [] (fun y hy=>by cases hy) (fun y hy=>(h y hy).2.2) x hx⟩
 ·rcases grp_keys L [] x hx with ⟨z,hz,_⟩ | ⟨z,hz,e⟩
  ·cases hz
  ·rw[← e];exact (h z hz).1
 ·rcases grp_keys L [] x hx with ⟨z,hz,_⟩ | ⟨z,hz,e⟩
  ·cases hz
  ·rw[← e];exact (h z hz).2.1
theorem OI.tchF {B:Nat} {X Y:World} {v:Value} {xs:List Int} {M:Nat→Prop} (h:OI B X v xs) (ht:Tch M X Y) (hM:∀ k,M k→k<B):OI B Y v xs :=
 ⟨own_stay h.1 fun k hk=>ht.block k (h.1.lt k hk).2 fun e=>by have:=hM k e;have:=(h.1.lt k hk).1;omega,h.2⟩
theorem GRs.tchF {B:Nat} {X Y:World} {v:Value} {us:List V5} {J:List Cel} {M:Nat→Prop} (h:GRs B X v us J) (ht:Tch M X Y) (hM:∀ k,M k→k<B):GRs B Y v us J :=
 ⟨own_stay h.1 fun k hk=>ht.block k (h.1.lt k hk).2 fun e=>by have:=hM k e;have:=(h.1.lt k hk).1;omega,h.2.stay fun o=>o.tchF ht hM⟩
end Go.Proofs.YtnjlkhhcfiedbaaGreatDoor
namespace Go.Proofs.YtnjlkhhcfiedbaaGreatDoor
open Go.RowKit Go.Shelf
theorem okL_good {d me:Nat} {L:List Cel} (h:OkL d me L) (hd:d≤1000) (hi:∀ x ∈ L,inK .i64 x.cnt):∀ x ∈ L,GoodC me x:=fun x hx=>by
 obtain⟨h1,h2,h3⟩:=h x hx
 refine⟨fun v hv=>?_,by omega,h3,hi x hx⟩
 unfold okK at h2
 have:=List.all_eq_true.1 h2 v hv
 exact of_decide_eq_true this
theorem ofC_one (sa:Int) (l:List Fact):∀ x ∈ l.map (ofC sa),x.cnt=1:=fun x hx=>by
 obtain⟨r,-,rfl⟩:=List.mem_map.1 hx
 rfl
end Go.Proofs.YtnjlkhhcfiedbaaGreatDoor

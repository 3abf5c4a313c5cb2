import Derived.Test.YtnjlkhhcfiedbaaGreatDoorMapK
import Derived.Test.YtnjlkhhcfiedbaaGreatDoorColl
import Derived.Test.YtnjlkhhcfiedbaaGreatDoorHshd
namespace Go.Proofs.YtnjlkhhcfiedbaaGreatDoor
open Go.RowKit Go.Shelf
def NotInt (X:World) (k:Nat):Prop:=∀ cs p,X.heap[k]? ≠ some (.cells cs 3 p)
theorem OI.tchN {B:Nat} {X Y:World} {M:Nat→Prop} {v:Value} {xs:List Int} (h:OI B X v xs) (ht:Tch M X Y) (hM:∀ k,M k→NotInt X k):OI B Y v xs:=by
 refine⟨own_stay h.1 fun k hk=>ht.block k (h.1.lt k hk).2 fun e=>?_,h.2⟩
 rcases h.1.2 with ⟨rfl,_⟩ | ⟨g',cap,cur,rfl,_,hh,_⟩
 ·simp[Value.ownBlock] at hk
 ·simp only[Value.ownBlock,Option.some.injEq] at hk
  subst hk
  exact hM _ e _ _ hh
def RdO (w0:World) (B:Nat) (X:World) (us:List V5) (H:List Cel):Prop:=us.length=H.length∧∀ (i:Nat) u x,us[i]? = some u→H[i]? = some x→Reads w0 u x∨OwnC B X u x
section
variable {w0 X Y:World} {B B':Nat} {us:List V5} {H:List Cel} {M:Nat→Prop}
theorem RdO.nil:RdO w0 B X [] []:=⟨rfl,fun i u x h=>by simp at h⟩
theorem RdO.tchN (h:RdO w0 B X us H) (ht:Tch M X Y) (hM:∀ k,M k→NotInt X k):RdO w0 B Y us H:=⟨h.1,fun i u x hu hx=>(h.2 i u x hu hx).imp id fun o=>o.stay fun q=>q.tchN ht hM⟩
theorem RdO.below (h:RdO w0 B X us H) (hb:Below X.heap.size X Y):RdO w0 B Y us H:=h.tchN (M:=fun _=>False) (Tch.of_below _ hb) fun _ hk=>hk.elim
theorem RdO.mono (h:RdO w0 B X us H) (hb:B'≤B):RdO w0 B' X us H:=⟨h.1,fun i u x hu hx=>(h.2 i u x hu hx).imp id fun o=>o.stay fun q=>q.mono hb⟩
theorem RdO.reads (h:RdO w0 B X us H) (hb:Below w0.heap.size w0 X):ReadsL X us H:=⟨h.1,fun i u x hu hx=>by
 rcases h.2 i u x hu hx with h | h
 ·exact h.keep (Keeps.of_below hb)
 ·exact h.reads⟩
theorem RdO.set (h:RdO w0 B X us H) {i:Nat} {v:V5} {y:Cel} (hv:Reads w0 v y∨OwnC B X v y):RdO w0 B X (us.set i v) (H.set i y):=⟨by rw[List.length_set,List.length_set,h.1],fun j u x hu hx=>by
 rw[List.getElem?_set] at hu hx
 by_cases e:i=j
 ·subst e
  rw[if_pos rfl] at hu hx
  split at hu
  ·split at hx
   ·injection hu with hu;injection hx with hx
    subst hu hx
    exact hv
   ·cases hx
  ·cases hu
 ·rw[if_neg e] at hu hx
  exact h.2 j u x hu hx⟩
theorem RdO.snoc (h:RdO w0 B X us H) {v:V5} {y:Cel} (hv:Reads w0 v y∨OwnC B X v y):RdO w0 B X (us ++ [v]) (H ++ [y]):=⟨by rw[List.length_append,List.length_append,h.1];rfl,fun i u x hu hx=>by
 rcases Nat.lt_or_ge i us.length with hi | hi
 ·rw[List.getElem?_append_left hi] at hu
  rw[List.getElem?_append_left (by rw[← h.1];exact hi)] at hx
  exact h.2 i u x hu hx
 ·rw[List.getElem?_append_right hi] at hu
  rw[List.getElem?_append_right (by rw[← h.1];exact hi),← h.1] at hx
  have e0:i - us.length=0:=by
   rcases Nat.eq_zero_or_pos (i - us.length) with h | h
   ·exact h
   ·rw[List.getElem?_eq_none (by simp;omega)] at hu;cases hu
  rw[e0] at hu hx
  simp only[List.getElem?_cons_zero,Option.some.injEq] at hu hx
  subst hu hx
  exact hv⟩
end
def GoodC (me:Nat) (x:Cel):Prop:=OkV x.key∧x.key.length≤1000∧EvenC me x∧inK .i64 x.cnt
theorem GoodC.join {me:Nat} {a b:Cel} (ha:GoodC me a) (hb:GoodC me b):GoodC me (join2 a b):=⟨ha.1,ha.2.1,join2_even ha.2.2.1 hb.2.2.1,join2_ok⟩
theorem deal_len {m K:Nat}:∀ (l:List Cel) (s:List (List Cel) × List Cel),(∀ p ∈ s.1,p.length≤K)→s.2.length+l.length≤K→(∀ p ∈ (l.foldl (dealS m) s).1,p.length≤K)∧(l.foldl (dealS m) s).2.length≤K
 | [],s,h1,h2=>⟨h1,by simpa using h2⟩
 | c :: l,s,h1,h2=>by
  rw[List.foldl_cons]
  rw[List.length_cons] at h2
  refine deal_len l _ ?_ ?_ <;> unfold dealS
  ·split
   ·exact h1
   ·split
    ·intro p hp
     rcases List.mem_append.1 hp with hp | hp
     ·exact h1 p hp
     ·rw[List.mem_singleton] at hp
      subst hp
      omega
    ·exact h1
  ·split
   ·rw[List.length_set];omega
   ·split
    ·simp;omega
    ·rw[List.length_append];simp;omega
theorem deal_held {m me:Nat} (hm:1≤m) {L:List Cel} {Ps:List (List Cel)} {H:List Cel} (h:L.foldl (dealS m) ([],[])=(Ps,H)) (hg:∀ c ∈ L,GoodC me c) (hl:L.length≤60):(∀ c ∈ H,GoodC me c)∧Apart H∧H.length≤60:=by
 have h1:=deal_all (m:=m) (Q:=GoodC me) (fun a b=>GoodC.join) L ([],[]) hg (fun p hp=>by cases hp) (fun c hc=>by cases hc)
 have h2:=deal_apart (m:=m) L ([],[]) (fun p hp=>by cases hp) List.Pairwise.nil hm
 have h3:=deal_len (m:=m) (K:=60) L ([],[]) (fun p hp=>by cases hp) (by simpa using hl)
 rw[h] at h1 h2 h3
 exact⟨h1.2,h2.2,h3.2⟩
abbrev PX:=Value × List V5 × List Cel
structure PieceR (w0:World) (B me K:Nat) (okp:Nat→Prop) (x:PX) (W:World):Prop where
 row:W.ownsRow B 46 5 x.1 x.2.1.length (flatV x.2.1)
 rd:RdO w0 B W x.2.1 x.2.2
 okr:∀ k,x.1.ownBlock=some k→okp k
 good:∀ c ∈ x.2.2,GoodC me c
 apart:Apart x.2.2
 ne:x.2.2 ≠ []
 len:x.2.2.length≤K
structure PB {σ:Type} (J:List PX→σ→World→Prop) (ok:σ→Nat→Prop) (w0:World) (z b4 b5 b6 mo:Nat) (yv:Value) (s:σ) (Ps:List PX) (hv:Value) (hus:List V5) (H:List Cel) (X:World):Prop where
 out:J Ps s X
 o4:Own 89 X b4 [yv]
 o5:Own 31 X b5 [hv]
 o6:Own 117 X b6 [.map (some mo)]
 mp:MX X mo (H.map (·.key))
 row:X.ownsRow (z+2) 46 5 hv hus.length (flatV hus)
 rd:RdO w0 (z+2) X hus H
 okz:∀ k,k=b4∨k=b5∨k=b6∨k=mo∨k=z∨k=z+1→ok s k
 okr:∀ k,hv.ownBlock=some k→ok s k
section
variable {σ:Type} {J:List PX→σ→World→Prop} {ok:σ→Nat→Prop} {w0:World} {z b4 b5 b6 mo:Nat} {yv:Value} {s:σ} {Ps:List PX} {hv:Value} {hus:List V5} {H:List Cel} {X Y:World} {M:Nat→Prop}
theorem PB.stay (h:PB J ok w0 z b4 b5 b6 mo yv s Ps hv hus H X) (hst:∀ pre s A B M,J pre s A→Tch M A B→(∀ k,M k→ok s k)→J pre s B)
  (ht:Tch M X Y) (hM:∀ k,M k→ok s k∧k ≠ b4∧k ≠ b5∧k ≠ b6∧k ≠ mo∧hv.ownBlock ≠ some k∧NotInt X k):PB J ok w0 z b4 b5 b6 mo yv s Ps hv hus H Y :=
 ⟨hst _ _ _ _ M h.out ht fun k hk=>(hM k hk).1,(ht.block _ h.o4.lt fun hm=>(hM _ hm).2.1 rfl).trans h.o4,(ht.block _ h.o5.lt fun hm=>(hM _ hm).2.2.1 rfl).trans h.o5,(ht.block _ h.o6.lt fun hm=>(hM _ hm).2.2.2.1 rfl).trans h.o6,h.mp.stay (ht.block _ h.mp.lt fun hm=>(hM _ hm).2.2.2.2.1 rfl),own_stay h.row fun k hk=>ht.block k (h.row.lt k hk).2 fun hm=>(hM k hm).2.2.2.2.2.1 hk,h.rd.tchN ht fun k hk=>(hM k hk).2.2.2.2.2.2,h.okz,h.okr⟩
theorem PB.below (h:PB J ok w0 z b4 b5 b6 mo yv s Ps hv hus H X) (hst:∀ pre s A B M,J pre s A→Tch M A B→(∀ k,M k→ok s k)→J pre s B) (hb:Below X.heap.size X Y):PB J ok w0 z b4 b5 b6 mo yv s Ps hv hus H Y :=
 h.stay hst (M:=fun _=>False) (Tch.of_below _ hb) fun _ hk=>hk.elim
theorem notint_of {X:World} {k:Nat} {o:Obj} (h:X.heap[k]? = some o) (hc:o.isCells=false):NotInt X k:=fun cs p e=>by
 rw[h] at e
 injection e with e
 subst e
 cases hc
theorem notint_own {T:TypeId} {X:World} {k:Nat} {vs:List Value} (h:Own T X k vs) (hT:T ≠ 3):NotInt X k:=fun cs p e=>by
 unfold Own at h
 rw[h] at e
 injection e with e
 injection e with _ e2
 exact hT e2
theorem notint_row {B n:Nat} {T:TypeId} {sz:Nat} {X:World} {k:Nat} {v:Value} {xs:List Value} (h:X.ownsRow B T sz v n xs) (hk:v.ownBlock=some k) (hT:T ≠ 3):NotInt X k:=fun cs p e=>by
 rcases h.2 with ⟨rfl,_⟩ | ⟨g',cap,cur,rfl,_,hh,_⟩
 ·simp[Value.ownBlock] at hk
 ·simp only[Value.ownBlock,Option.some.injEq] at hk
  subst hk
  rw[hh] at e
  injection e with e
  injection e with _ e2
  exact hT e2
theorem PB.loops (h:PB J ok w0 z b4 b5 b6 mo yv s Ps hv hus H X) (hst:∀ pre s A B M,J pre s A→Tch M A B→(∀ k,M k→ok s k)→J pre s B) (hz:b4<z∧b5<z∧b6<z∧mo<z)
  (ht:Tch M X Y) (hM:∀ k,M k→(k=z∨k=z+1)∧∃ o,X.heap[k]? = some o∧o.isCells=false):PB J ok w0 z b4 b5 b6 mo yv s Ps hv hus H Y :=
 h.stay hst ht fun k hk=>by
  obtain⟨h1,o,h2,h3⟩:=hM k hk
  refine⟨h.okz k (by omega),by omega,by omega,by omega,by omega,fun e=>?_,notint_of h2 h3⟩
  have:=(h.row.lt k e).1
  omega
theorem append_row5 {B:Nat} {X:World} {v:Value} {us:List V5} {u:V5} (ho:X.ownsRow B 46 5 v us.length (flatV us)) (h1:∀ w ∈ u.l,w.oneCell'=true) (hl:us.length+1≤1000000) (hB:B≤X.heap.size) :
  ∃ v' Y,(Builtin.append_ #[31,31] 31 #[v,.slice (some ⟨X.heap.size,0,none⟩) 1 1]).run Tryz.prog (X.alloc (.cells #[u.a,u.b,u.c,u.d,u.e] 46))=.ok v' Y∧Y.ownsRow B 46 5 v' (us ++ [u]).length (flatV (us ++ [u]))∧Tch (fun k=>v.ownBlock=some k) X Y∧(∀ k,v'.ownBlock=some k→v.ownBlock=some k∨X.heap.size≤k):=by
 have hb:Below X.heap.size X (X.alloc (.cells #[u.a,u.b,u.c,u.d,u.e] 46)):=(Below.refl _ _).alloc (Nat.le_refl _) _
 obtain⟨i0,hi,hz0,hz1,hz2⟩:=info_parts infoC
 have ho2:=own_below ho hb (Nat.le_refl _)
 obtain⟨v',Y,hrun,hr,hg,-,hbl⟩:=run_append_own_at (P:=Tryz.prog) (X.alloc (.cells #[u.a,u.b,u.c,u.d,u.e] 46)) B 31 31 46 i0 _ 5 104 Tryz.underlying31 hi hz0 hz1 hz2 rfl (by omega) v us.length (flatV us) ho2 ⟨X.heap.size,0,none⟩ 1 1 (flatV [u]) (by simp[flatV,V5.l])
  (fun j w hw=>by
   rw[add0,show (X.alloc (.cells #[u.a,u.b,u.c,u.d,u.e] 46)).cell? ⟨X.heap.size,j,none⟩=#[u.a,u.b,u.c,u.d,u.e][j]? from cell_of_row _ _ _ _ 46 (0,0) (heap_alloc_new X _)]
   rw[flatV_one] at hw
   simpa [V5.l] using hw) (by rw[flatV_one];exact h1) (by simp only[maxLen];omega) (by omega) (by simp;omega)
 refine⟨v',Y,hrun,?_,?_,fun k hk=>?_⟩
 ·rw[List.length_append,flatV_append]
  exact hr
 ·exact (Tch.of_below _ hb).same (Tch.of_grown hg fun k e=>e)
 ·rcases hbl with e | e
  ·exact .inl (by rw[← e,hk])
  ·rw[e] at hk
   injection hk with hk
   right
   rw[← hk];simp
theorem PB.tail {me:Nat} {u:V5} {x:Cel} {b8:Nat} (h:PB J ok w0 z b4 b5 b6 mo yv s Ps hv hus H X) (hst:∀ pre s A B M,J pre s A→Tch M A B→(∀ k,M k→ok s k)→J pre s B) (hJn:∀ pre s X k,J pre s X→X.heap.size≤k→ok s k)
  (hz:b4<z∧b5<z∧b6<z∧mo<z) (hd:b5 ≠ mo∧b4 ≠ mo∧b6 ≠ mo∧b4 ≠ b5∧b6 ≠ b5) (hzs:z+2≤X.heap.size) (hx:Reads w0 u x) (hg:GoodC me x) (hn:∀ y ∈ H,y.key ≠ x.key) (hH:∀ y ∈ H,GoodC me y) (hl:H.length≤60)
  (h8:Own 46 X b8 [u.a,u.b,u.c,u.d,u.e]) (h8m:b8 ≠ mo) :
  ∃ Y v' Z,(Instr.mapUpdate 117 (.map (some mo)) (.string (strOf (textI x.key))) (.int .i64 (H.length:Int))).run Tryz.prog X=.ok () Y∧Own 31 Y b5 [hv]∧Own 46 Y b8 [u.a,u.b,u.c,u.d,u.e] ∧
   (Builtin.append_ #[31,31] 31 #[hv,.slice (some ⟨Y.heap.size,0,none⟩) 1 1]).run Tryz.prog (Y.alloc (.cells #[u.a,u.b,u.c,u.d,u.e] 46))=.ok v' Z∧Own 31 Z b5 [hv] ∧
   PB J ok w0 z b4 b5 b6 mo yv s Ps v' (hus ++ [u]) (H ++ [x]) (Z.setCell ⟨b5,0,none⟩ v')∧Tch (fun k=>k=mo∨k=b5∨hv.ownBlock=some k) X (Z.setCell ⟨b5,0,none⟩ v'):=by
 obtain⟨Y,hrunY,hmY,htY⟩:=h.mp.put (k:=x.key) hg.1 hg.2.1 (by
  intro hm
  obtain⟨y,hy,e⟩:=List.mem_map.1 hm
  exact hn y hy e) (by
  intro q hq
  obtain⟨y,hy,rfl⟩:=List.mem_map.1 hq
  exact (hH y hy).1) (by rw[List.length_map];omega)
 rw[List.length_map] at hrunY
 have hmn:NotInt X mo:=by
  obtain⟨n,D,⟨es,clock,e,-⟩,-⟩:=h.mp
  exact notint_of e rfl
 have rowne:∀ k,hv.ownBlock=some k→z+2≤k∧k<X.heap.size:=fun k hk=>h.row.lt k hk
 have hYs:=htY.size
 have bk:∀ k,k<X.heap.size→k ≠ mo→Y.heap[k]? = X.heap[k]?:=fun k h1 h2=>htY.block k h1 h2
 have o5Y:Own 31 Y b5 [hv]:=(bk _ h.o5.lt hd.1).trans h.o5
 have o8Y:Own 46 Y b8 [u.a,u.b,u.c,u.d,u.e]:=(bk _ h8.lt h8m).trans h8
 have rowY:Y.ownsRow (z+2) 46 5 hv hus.length (flatV hus):=own_stay h.row fun k hk=>bk k (rowne k hk).2 (by have:=(rowne k hk).1;omega)
 have h1:∀ w ∈ u.l,w.oneCell'=true:=by
  obtain⟨ub,⟨⟨P1,q1,e1,-⟩,⟨P2,q2,e2,-⟩,⟨P3,q3,e3,-⟩,⟨P4,q4,e4,-⟩⟩,-⟩:=hx
  intro w hw
  obtain⟨ua,ub',uc,ud,ue⟩:=u
  dsimp only at ub e1 e2 e3 e4
  subst ub e1 e2 e3 e4
  simp only[V5.l,List.mem_cons,List.not_mem_nil,or_false] at hw
  rcases hw with rfl | rfl | rfl | rfl | rfl <;> rfl
 have hhl:hus.length=H.length:=h.rd.1
 obtain⟨v',Z,hrunZ,hrZ,htZ,hoZ⟩:=append_row5 rowY h1 (by omega) (by omega)
 have hZs:=htZ.size
 have bz:∀ k,k<Y.heap.size→hv.ownBlock ≠ some k→Z.heap[k]? = Y.heap[k]?:=fun k h1 h2=>htZ.block k h1 h2
 have nb:∀ k,k<z+2→hv.ownBlock ≠ some k:=fun k hk e=>by have:=(rowne k e).1;omega
 have o5Z:Own 31 Z b5 [hv]:=(bz _ o5Y.lt (nb _ (by omega))).trans o5Y
 obtain⟨F,hF⟩:∃ F,F=Z.setCell ⟨b5,0,none⟩ v':=⟨_,rfl⟩
 have htF:Tch (fun k=>k=b5) Z F:=by rw[hF];exact Tch.of_only (only_setCell b5 Z 0 v') rfl
 have hFs:=htF.size
 have hall:Tch (fun k=>k=mo∨k=b5∨hv.ownBlock=some k) X F:=((htY.mono fun k _ e=>.inl e).same (htZ.mono fun k _ e=>.inr (.inr e))).same (htF.mono fun k _ e=>.inr (.inl e))
 have bf:∀ k,k<X.heap.size→k ≠ mo→k ≠ b5→k<z+2→F.heap[k]? = X.heap[k]?:=fun k h1 h2 h3 h4=>hall.block k h1 fun e=>by
  rcases e with e | e | e
  ·exact h2 e
  ·exact h3 e
  ·exact nb k h4 e
 refine⟨Y,v',Z,hrunY,o5Y,o8Y,hrunZ,o5Z,?_,hF ▸ hall⟩
 rw[← hF]
 have ok5:Own 31 F b5 [v']:=by rw[hF];exact o5Z.set_ 0 v'
 refine⟨hst _ _ _ _ _ h.out hall fun k hk=>?_,(bf _ h.o4.lt hd.2.1 hd.2.2.2.1 (by omega)).trans h.o4,ok5,(bf _ h.o6.lt hd.2.2.1 hd.2.2.2.2 (by omega)).trans h.o6,?_,?_,?_,h.okz,fun k hk=>?_⟩
 ·rcases hk with e | e | e
  ·exact h.okz k (by omega)
  ·exact h.okz k (by omega)
  ·exact h.okr k e
 ·rw[List.map_append]
  refine hmY.stay ((htF.block mo (Nat.lt_of_lt_of_le hmY.lt hZs) (fun e=>hd.1 e.symm)).trans (bz mo hmY.lt (nb _ (by omega))))
 ·exact own_stay hrZ fun k hk=>htF.block k (hrZ.lt k hk).2 fun e=>by have:=(hrZ.lt k hk).1;omega
 ·refine (h.rd.snoc (.inl hx)).tchN hall fun k hk=>?_
  rcases hk with e | e | e
  ·rw[e];exact hmn
  ·rw[e];exact notint_own h.o5 (by decide)
  ·exact notint_row h.row e (by decide)
 ·rcases hoZ k hk with e | e
  ·exact h.okr k e
  ·exact hJn _ _ _ _ h.out (by omega)
theorem tch_setF (W:World) (g i:Nat) (q:V5):Tch (fun k=>k=g) W (setF W g i q):=by
 unfold setF
 exact Tch.of_only (((((Only.refl g W).setCell _ _).setCell _ _).setCell _ _).setCell _ _ |>.setCell _ _) rfl
theorem PB.joined {g ch i:Nat} {v:V5} {x y:Cel} (h:PB J ok w0 z b4 b5 b6 mo yv s Ps (.slice (some ⟨g,0,none⟩) hus.length ch) hus H X) (hst:∀ pre s A B M,J pre s A→Tch M A B→(∀ k,M k→ok s k)→J pre s B) (hz:b4<z∧b5<z∧b6<z∧mo<z)
  (hi:H[i]? = some x) (hk:y.key=x.key) (hv:OwnC (z+2) X v y):PB J ok w0 z b4 b5 b6 mo yv s Ps (.slice (some ⟨g,0,none⟩) hus.length ch) (hus.set i v) (H.set i y) (setF X g i v)∧Tch (fun k=>k=g) X (setF X g i v):=by
 have ht:=tch_setF X g i v
 have hgz:=(h.row.lt g rfl).1
 have hil:i<hus.length:=by rw[h.rd.1];exact (List.getElem?_eq_some_iff.1 hi).1
 have h0:=h.row
 have s1:=(h0.stored (i*5) v.a).1
 have s2:=(s1.stored (i*5+1) v.b).1
 have s3:=(s2.stored (i*5+2) v.c).1
 have s4:=(s3.stored (i*5+3) v.d).1
 have s5:=(s4.stored (i*5+4) v.e).1
 rw[flatV_set hus i v hil] at s5
 have hni:=notint_row h.row rfl (show 46 ≠ 3 by decide)
 refine⟨⟨hst _ _ _ _ _ h.out ht fun k hk=>h.okr k (by rw[hk];rfl),(ht.block _ h.o4.lt (by omega)).trans h.o4,(ht.block _ h.o5.lt (by omega)).trans h.o5,(ht.block _ h.o6.lt (by omega)).trans h.o6,?_,?_,?_,h.okz,h.okr⟩,ht⟩
 ·rw[set_keys hi hk]
  exact h.mp.stay (ht.block _ h.mp.lt (by omega))
 ·rw[List.length_set]
  exact s5
 ·exact (h.rd.set (.inr hv)).tchN ht fun k hk=>by rw[hk];exact hni
end
end Go.Proofs.YtnjlkhhcfiedbaaGreatDoor
namespace Go.Proofs.YtnjlkhhcfiedbaaGreatDoor
open Go.RowKit Go.Shelf Go.Sort Go.Lib
attribute [local go_sem] Oper.semAt_some
set_option maxRecDepth 100000 in
set_option maxHeartbeats 1000000 in
theorem ccmp_grow (k s n m k' s' n' m':Value) (x y:Cel) (w:World) (hx:CR w k s n m x) (hy:CR w k' s' n' m' y) (h1:x.key.length≤1000000) (h2:y.key.length≤1000000) :
  Calls Tryz.prog 92 #[.agg #[k,.int .i64 x.cnt,s,n,m],.agg #[k',.int .i64 y.cnt,s',n',m']] w fun e w'=>e=.returned (.int .i64 (cmpL x.key y.key))∧∃ os,w'=grow w os:=by
 obtain⟨⟨Pk,ck,rfl,hk⟩,⟨Ps,cs,rfl,hs⟩,⟨Pn,cn,rfl,hn⟩,⟨Pm,cm,rfl,hm⟩⟩:=hx
 obtain⟨⟨Qk,dk,rfl,gk⟩,⟨Qs,ds,rfl,gs⟩,⟨Qn,dn,rfl,gn⟩,⟨Qm,dm,rfl,gm⟩⟩:=hy
 have R1:Hid (RI w (.slice Pk x.key.length ck) x.key):=Lib.hid ⟨_,_,rfl,hk⟩
 have R2:Hid (RI w (.slice Qk y.key.length dk) y.key):=Lib.hid ⟨_,_,rfl,gk⟩
 have L1:=Lib.hid h1
 have L2:=Lib.hid h2
 clear hk hs hn hm gk gs gn gm h1 h2
 generalize hlk:x.key.length=lk at R1 L1 ⊢
 generalize hlq:y.key.length=lq at R2 L2 ⊢
 have hb:RowKit.Below w.heap.size w ((w.alloc (.cells #[.slice Pk lk ck,.int .i64 x.cnt,.slice Ps x.sum.length cs,.slice Pn x.mn.length cn,.slice Pm x.mx.length cm] 46)).alloc (.cells #[.slice Qk lq dk,.int .i64 y.cnt,.slice Qs y.sum.length ds,.slice Qn y.mn.length dn,.slice Qm y.mx.length dm] 46)):=((RowKit.Below.refl _ w).alloc (Nat.le_refl _) _).alloc (by simp) _
 have HB:=Lib.hid hb
 have E1:=Lib.hid hlk
 have E2:=Lib.hid hlq
 clear hb hlk hlq
 go_enter Tryz.func92,Tryz.ntmps92
 go_wp2_with fail
 refine (less_any _ _ x.key y.key _ (R1.out.keep (Keeps.of_below HB.out)) (R2.out.keep (Keeps.of_below HB.out)) (by rw[E1.out];exact L1.out) (by rw[E2.out];exact L2.out)).mono ?_
 rintro e w' ⟨rfl,rfl⟩
 go_wp2
 go_ret
 exact⟨rfl,_,by rw[alloc_eq_grow,alloc_eq_grow,grow_grow]⟩
end Go.Proofs.YtnjlkhhcfiedbaaGreatDoor

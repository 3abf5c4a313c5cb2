import Derived.Test.YtnjlkhhcfiedbaaGreatDoorCel9
import Derived.Test.YtnjlkhhcfiedbaaGreatDoorStab5
namespace Go.Proofs.YtnjlkhhcfiedbaaGreatDoor
open Go.RowKit Go.Shelf Go.Sort Go.Lib
theorem cell_lt {w:World} {a:Addr} {v:Value} (h:w.cell? a=some v):a.block<w.heap.size:=by
 rcases Nat.lt_or_ge a.block w.heap.size with h1 | h1
 ·exact h1
 ·simp[World.cell?,Array.getElem?_eq_none h1] at h
end Go.Proofs.YtnjlkhhcfiedbaaGreatDoor
namespace Go.Proofs.YtnjlkhhcfiedbaaGreatDoor
open Go.RowKit
theorem wrap64_add (u v:Int):wrap64 (wrap64 u+v)=wrap64 (u+v):=by unfold wrap64;omega
theorem zip_rcomm (f:Int→Int→Int) (h:∀ x a b,f (f x a) b=f (f x b) a):∀ (x a b:List Int),List.zipWith f (List.zipWith f x a) b=List.zipWith f (List.zipWith f x b) a
 | [],_,_=>by simp
 | _ :: _,[],_=>by simp
 | _ :: _,_ :: _,[]=>by simp
 | x :: xs,a :: ys,b :: bs=>by simp[h x a b,zip_rcomm f h xs ys bs]
theorem zip_comm (f:Int→Int→Int) (h:∀ a b,f a b=f b a):∀ (a b:List Int),List.zipWith f a b=List.zipWith f b a
 | [],_=>by simp
 | _ :: _,[]=>by simp
 | a :: ys,b :: bs=>by simp[h a b,zip_comm f h ys bs]
theorem join2_rcomm (x a b:Cel):join2 (join2 x a) b=join2 (join2 x b) a:=by
 unfold join2 addL minL maxL
 simp only[Cel.mk.injEq,true_and]
 refine⟨?_,zip_rcomm _ (fun x a b=>?_) _ _ _,zip_rcomm _ (fun x a b=>?_) _ _ _,zip_rcomm _ (fun x a b=>?_) _ _ _⟩
 ·rw[wrap64_add,wrap64_add,Int.add_right_comm]
 ·rw[wrap64_add,wrap64_add,Int.add_right_comm]
 ·omega
 ·omega
theorem join2_comm {a b:Cel} (h:a.key=b.key):join2 a b=join2 b a:=by
 unfold join2 addL minL maxL
 simp only[Cel.mk.injEq]
 refine⟨h,by rw[Int.add_comm],zip_comm _ (fun a b=>by rw[Int.add_comm]) _ _,zip_comm _ (fun a b=>by omega) _ _,zip_comm _ (fun a b=>by omega) _ _⟩
def putC:List Cel→Cel→List Cel
 | [],c=>[c]
 | x :: l,c=>if cmpL x.key c.key<0 then x :: putC l c else if cmpL x.key c.key=0 then join2 x c :: l else c :: x :: l
def grpR (l:List Cel):List Cel:=l.foldl putC []
theorem cmpL_lt_of {a b c:List Int} (h1:cmpL a b<0) (h2:cmpL b c≤0):cmpL a c<0:=by
 have h:=cmpL_trans (Int.le_of_lt h1) h2
 rcases Int.lt_or_eq_of_le h with h | h
 ·exact h
 ·have e:=cmpL_zero.1 h
  subst e
  have:=cmpL_anti a b
  omega
theorem putC_comm (a b:Cel):∀ (l:List Cel),putC (putC l a) b=putC (putC l b) a
 | []=>by
  have h:=cmpL_anti a.key b.key
  simp only[putC]
  rcases Int.lt_trichotomy (cmpL a.key b.key) 0 with c | c | c
  ·rw[if_pos c,if_neg (by omega),if_neg (by omega)]
  ·rw[if_neg (by omega),if_pos c,if_neg (by omega),if_pos (by omega),join2_comm (cmpL_zero.1 c)]
  ·rw[if_neg (by omega),if_neg (by omega),if_pos (by omega)]
 | x :: l=>by
  have h:=cmpL_anti a.key b.key
  have ih:=putC_comm a b l
  rcases Int.lt_trichotomy (cmpL x.key a.key) 0 with c | c | c
  ·have e1:putC (x :: l) a=x :: putC l a:=by simp only[putC];rw[if_pos c]
   rw[e1]
   rcases Int.lt_trichotomy (cmpL x.key b.key) 0 with d | d | d
   ·have e2:putC (x :: l) b=x :: putC l b:=by simp only[putC];rw[if_pos d]
    rw[e2]
    simp only[putC]
    rw[if_pos d,if_pos c,ih]
   ·have e2:putC (x :: l) b=join2 x b :: l:=by simp only[putC];rw[if_neg (by omega),if_pos d]
    rw[e2]
    simp only[putC]
    rw[if_neg (by omega),if_pos d,if_pos (show cmpL (join2 x b).key a.key<0 from c)]
   ·have e2:putC (x :: l) b=b :: x :: l:=by simp only[putC];rw[if_neg (by omega),if_neg (by omega)]
    rw[e2]
    have hb:cmpL b.key a.key<0:=cmpL_lt_of (by have:=cmpL_anti x.key b.key;omega) (Int.le_of_lt c)
    simp only[putC]
    rw[if_neg (by omega),if_neg (by omega),if_pos hb,if_pos c]
  ·have e1:putC (x :: l) a=join2 x a :: l:=by simp only[putC];rw[if_neg (by omega),if_pos c]
   rw[e1]
   rcases Int.lt_trichotomy (cmpL x.key b.key) 0 with d | d | d
   ·have e2:putC (x :: l) b=x :: putC l b:=by simp only[putC];rw[if_pos d]
    rw[e2]
    simp only[putC]
    rw[if_pos (show cmpL (join2 x a).key b.key<0 from d),if_neg (by omega),if_pos c]
   ·have e2:putC (x :: l) b=join2 x b :: l:=by simp only[putC];rw[if_neg (by omega),if_pos d]
    rw[e2]
    simp only[putC]
    rw[if_neg (show ¬ cmpL (join2 x a).key b.key<0 from by show ¬ cmpL x.key b.key<0;omega),if_pos (show cmpL (join2 x a).key b.key=0 from d),if_neg (show ¬ cmpL (join2 x b).key a.key<0 from by show ¬ cmpL x.key a.key<0;omega),if_pos (show cmpL (join2 x b).key a.key=0 from c),join2_rcomm]
   ·have e2:putC (x :: l) b=b :: x :: l:=by simp only[putC];rw[if_neg (by omega),if_neg (by omega)]
    rw[e2]
    have hb:cmpL b.key a.key<0:=cmpL_lt_of (by have:=cmpL_anti x.key b.key;omega) (Int.le_of_eq c)
    simp only[putC]
    rw[if_neg (show ¬ cmpL (join2 x a).key b.key<0 from by show ¬ cmpL x.key b.key<0;omega),if_neg (show ¬ cmpL (join2 x a).key b.key=0 from by show ¬ cmpL x.key b.key=0;omega),if_pos hb,if_neg (by omega),if_pos c]
  ·have e1:putC (x :: l) a=a :: x :: l:=by simp only[putC];rw[if_neg (by omega),if_neg (by omega)]
   have hax:cmpL a.key x.key<0:=by have:=cmpL_anti x.key a.key;omega
   rw[e1]
   rcases Int.lt_trichotomy (cmpL x.key b.key) 0 with d | d | d
   ·have e2:putC (x :: l) b=x :: putC l b:=by simp only[putC];rw[if_pos d]
    rw[e2]
    have hb:cmpL a.key b.key<0:=cmpL_lt_of hax (Int.le_of_lt d)
    simp only[putC]
    rw[if_pos hb,if_pos d,if_neg (by omega),if_neg (by omega)]
   ·have e2:putC (x :: l) b=join2 x b :: l:=by simp only[putC];rw[if_neg (by omega),if_pos d]
    rw[e2]
    have hb:cmpL a.key b.key<0:=cmpL_lt_of hax (Int.le_of_eq d)
    simp only[putC]
    rw[if_pos hb,if_neg (by omega),if_pos d,if_neg (show ¬ cmpL (join2 x b).key a.key<0 from by show ¬ cmpL x.key a.key<0;omega),if_neg (show ¬ cmpL (join2 x b).key a.key=0 from by show ¬ cmpL x.key a.key=0;omega)]
   ·have e2:putC (x :: l) b=b :: x :: l:=by simp only[putC];rw[if_neg (by omega),if_neg (by omega)]
    rw[e2]
    simp only[putC]
    rcases Int.lt_trichotomy (cmpL a.key b.key) 0 with f | f | f
    ·rw[if_pos f,if_neg (by omega),if_neg (by omega),if_neg (by omega),if_neg (by omega)]
    ·rw[if_neg (by omega),if_pos f,if_neg (by omega),if_pos (by omega),join2_comm (cmpL_zero.1 f)]
    ·rw[if_neg (by omega),if_neg (by omega),if_pos (by omega),if_neg (by omega),if_neg (by omega)]
theorem grpR_perm {l l':List Cel} (h:l.Perm l'):grpR l=grpR l':=by
 unfold grpR
 exact h.foldl_eq' (fun x _ y _ z=>putC_comm x y z) _
theorem putC_keys (c:Cel):∀ (l:List Cel) (y:Cel),y ∈ putC l c→y.key=c.key∨∃ z ∈ l,z.key=y.key
 | [],y,h=>by simp only[putC,List.mem_singleton] at h;exact .inl (by rw[h])
 | x :: l,y,h=>by
  simp only[putC] at h
  split at h
  ·rcases List.mem_cons.1 h with rfl | h
   ·exact .inr ⟨_,by simp,rfl⟩
   ·rcases putC_keys c l y h with h | ⟨z,hz,e⟩
    ·exact .inl h
    ·exact .inr ⟨z,by simp[hz],e⟩
  ·split at h
   ·rcases List.mem_cons.1 h with rfl | h
    ·exact .inr ⟨x,by simp,rfl⟩
    ·exact .inr ⟨y,by simp[h],rfl⟩
   ·rcases List.mem_cons.1 h with rfl | h
    ·exact .inl rfl
    ·exact .inr ⟨y,h,rfl⟩
theorem grp_keys:∀ (l acc:List Cel) (y:Cel),y ∈ l.foldl putC acc→(∃ z ∈ acc,z.key=y.key)∨∃ z ∈ l,z.key=y.key
 | [],acc,y,h=>.inl ⟨y,h,rfl⟩
 | x :: l,acc,y,h=>by
  rcases grp_keys l (putC acc x) y h with ⟨z,hz,e⟩ | ⟨z,hz,e⟩
  ·rcases putC_keys x acc z hz with k | ⟨u,hu,k⟩
   ·exact .inr ⟨x,by simp,by rw[← e,k]⟩
   ·exact .inl ⟨u,hu,by rw[k,e]⟩
  ·exact .inr ⟨z,by simp[hz],e⟩
theorem putC_end {c:Cel}:∀ {l:List Cel},(∀ y ∈ l,cmpL y.key c.key<0)→putC l c=l ++ [c]
 | [],_=>rfl
 | x :: l,h=>by
  simp only[putC]
  rw[if_pos (h x (by simp)),putC_end fun y hy=>h y (by simp[hy])]
  rfl
end Go.Proofs.YtnjlkhhcfiedbaaGreatDoor
namespace Go.Proofs.YtnjlkhhcfiedbaaGreatDoor
open Go.RowKit Go.Shelf
attribute [local go_sem] Oper.semAt_some
end Go.Proofs.YtnjlkhhcfiedbaaGreatDoor
namespace Go.Proofs.YtnjlkhhcfiedbaaGreatDoor
open Go.RowKit Go.Shelf
def OwnC (B:Nat) (X:World) (u:V5) (x:Cel):Prop:=u.b=.int .i64 x.cnt∧CO B X u.a u.c u.d u.e x∧inK .i64 x.cnt
def OwnL (B:Nat) (X:World) (us:List V5) (J:List Cel):Prop:=us.length=J.length∧∀ (i:Nat) (u:V5) (x:Cel),us[i]? = some u→J[i]? = some x→OwnC B X u x
def GRs (B:Nat) (X:World) (v:Value) (us:List V5) (J:List Cel):Prop:=X.ownsRow B 46 5 v us.length (flatV us)∧OwnL B X us J
section
variable {B B':Nat} {X Y:World} {v:Value} {u:V5} {x:Cel} {us us':List V5} {J J':List Cel}
theorem OwnC.reads (h:OwnC B X u x):Reads X u x:=⟨h.1,h.2.1.cr,h.2.2⟩
theorem OwnL.reads (h:OwnL B X us J):ReadsL X us J:=⟨h.1,fun i u x hu hx=>(h.2 i u x hu hx).reads⟩
theorem OwnC.stay (h:OwnC B X u x) (hs:∀ {w:Value} {xs:List Int},OI B X w xs→OI B' Y w xs):OwnC B' Y u x:=⟨h.1,⟨hs h.2.1.key,hs h.2.1.sum,hs h.2.1.mn,hs h.2.1.mx⟩,h.2.2⟩
theorem OwnL.stay (h:OwnL B X us J) (hs:∀ {w:Value} {xs:List Int},OI B X w xs→OI B' Y w xs):OwnL B' Y us J:=⟨h.1,fun i u x hu hx=>(h.2 i u x hu hx).stay hs⟩
theorem OwnL.below (h:OwnL B X us J) (hb:Below X.heap.size X Y):OwnL B Y us J:=h.stay fun o=>o.below hb
theorem OwnL.mono (h:OwnL B X us J) (hb:B'≤B):OwnL B' X us J:=h.stay fun o=>o.mono hb
theorem GRs.below (h:GRs B X v us J) (hb:Below X.heap.size X Y):GRs B Y v us J:=⟨own_below h.1 hb (Nat.le_refl _),h.2.below hb⟩
theorem GRs.mono (h:GRs B X v us J) (hb:B'≤B):GRs B' X v us J:=⟨own_mono h.1 hb,h.2.mono hb⟩
theorem GRs.nil (B:Nat) (X:World):GRs B X (.slice none 0 0) [] []:=⟨World.ownsRow_nil _ _ _ _,rfl,fun i u x h=>by simp at h⟩
theorem GRs.len (h:GRs B X v us J):us.length=J.length:=h.2.1
theorem OI.rowC {w:Value} {xs:List Int} {n:Nat} {ys:List Value} (h:OI B X w xs) (ho:X.ownsRow B' 46 5 v n ys) (hg:X.grownBy Y v.ownBlock):OI B Y w xs :=
 ⟨own_stay h.1 fun k hk=>hg.block k (h.1.lt k hk).2 fun e=>by
  rcases own_apart h.1 ho (by decide) with h0 | h0
  ·rw[h0] at hk;cases hk
  ·exact h0 (by rw[hk,e]),h.2⟩
theorem OwnL.append (h:OwnL B X us J) (h':OwnL B X us' J'):OwnL B X (us ++ us') (J ++ J'):=by
 refine⟨by simp[h.1,h'.1],fun i u x hu hx=>?_⟩
 rcases Nat.lt_or_ge i us.length with c | c
 ·rw[List.getElem?_append_left c] at hu
  rw[List.getElem?_append_left (by rw[← h.1];exact c)] at hx
  exact h.2 i u x hu hx
 ·rw[List.getElem?_append_right c] at hu
  rw[List.getElem?_append_right (by rw[← h.1];exact c),← h.1] at hx
  exact h'.2 _ u x hu hx
theorem OwnL.one (h:OwnC B X u x):OwnL B X [u] [x]:=⟨rfl,fun i w y hw hy=>by
 match i,hw,hy with
 | 0,hw,hy =>
  simp only[List.getElem?_cons_zero,Option.some.injEq] at hw hy
  subst hw hy
  exact h⟩
theorem OwnL.take (h:OwnL B X us J) (k:Nat):OwnL B X (us.take k) (J.take k):=⟨by simp[h.1],fun i u x hu hx=>by
 rw[List.getElem?_take] at hu hx
 split at hu
 ·rename_i hk
  rw[if_pos hk] at hx
  exact h.2 i u x hu hx
 ·cases hu⟩
theorem OwnL.drop (h:OwnL B X us J) (k:Nat):OwnL B X (us.drop k) (J.drop k):=⟨by simp[h.1],fun i u x hu hx=>by
 rw[List.getElem?_drop] at hu hx
 exact h.2 _ u x hu hx⟩
theorem flatV_append (us us':List V5):flatV (us ++ us')=flatV us ++ flatV us':=by simp[flatV]
theorem flatV_one (u:V5):flatV [u]=u.l:=by simp[flatV]
theorem GRs.form (h:GRs B X v us J):∃ P c,v=.slice P us.length c∧us.length≤c∧c≤maxLen∧(0<us.length→∃ g,P=some ⟨g,0,none⟩∧B≤g∧g<X.heap.size∧CellsR X ⟨g,0,none⟩ J∧∀ j u,(flatV us)[j]? = some u→X.cell? ⟨g,j,none⟩=some u)∧(P=none→c=0):=by
 obtain⟨P,c,hv,h1,h2,h3⟩:=own_form h.1
 refine⟨P,c,hv,h1,h2,fun hn=>?_,fun e=>?_⟩
 ·obtain⟨g,rfl,q4,q5⟩:=h3 hn
  refine⟨g,rfl,q4,?_,cells_of_vals h.2.reads (fun j u hu=>by rw[add0];exact q5 j u hu),q5⟩
  have:=h.1.lt g (by rw[hv];rfl)
  exact this.2
 ·rcases own_form0 h.1 with ⟨e1,_⟩ | ⟨g,c',e1,_⟩
  ·rw[hv] at e1;injection e1
  ·rw[hv,e] at e1;injection e1 with e1 _ _;cases e1
end
theorem append_gr {B:Nat} {X:World} {v:Value} {us us2:List V5} {J J2:List Cel} (a:Addr) (m c:Nat) (h:GRs B X v us J) (h2:OwnL B X us2 J2) (hm:m=us2.length) (hc:∀ j u,(flatV us2)[j]? = some u→X.cell? (a.add j)=some u) (hl:us.length+m≤1000000) (hB:B≤X.heap.size) :
  ∃ v' X3,(Builtin.append_ #[31,31] 31 #[v,.slice (some a) m c]).run Tryz.prog X=.ok v' X3∧GRs B X3 v' (us ++ us2) (J ++ J2)∧X.grownBy X3 v.ownBlock∧(v'.ownBlock=v.ownBlock∨v'.ownBlock=some X.heap.size):=by
 obtain⟨i0,hi,hz0,hz1,hz2⟩:=info_parts infoC
 subst hm
 obtain⟨v',X3,hrun,ho,hg,_,hb⟩:=run_append_own_at (P:=Tryz.prog) X B 31 31 46 i0 _ 5 104 Tryz.underlying31 hi hz0 hz1 hz2 rfl (by omega) v us.length (flatV us) h.1 a us2.length c (flatV us2) (flatV_len us2) hc h2.reads.one (by simp only[maxLen];omega) (by omega) hB
 refine⟨v',X3,hrun,⟨?_,(h.2.append h2).stay fun o=>o.rowC h.1 hg⟩,hg,hb⟩
 rw[List.length_append,flatV_append]
 exact ho
theorem append_one {B:Nat} {X:World} {v:Value} {us:List V5} {J:List Cel} {u:V5} {x:Cel} (h:GRs B X v us J) (h2:OwnC B X u x) (hl:us.length+1≤1000000) (hB:B≤X.heap.size) :
  ∃ v' X3,(Builtin.append_ #[31,31] 31 #[v,.slice (some ⟨X.heap.size,0,none⟩) 1 1]).run Tryz.prog (X.alloc (.cells #[u.a,u.b,u.c,u.d,u.e] 46))=.ok v' X3∧GRs B X3 v' (us ++ [u]) (J ++ [x]) ∧
   (X.alloc (.cells #[u.a,u.b,u.c,u.d,u.e] 46)).grownBy X3 v.ownBlock∧(v'.ownBlock=v.ownBlock∨v'.ownBlock=some (X.heap.size+1)):=by
 have hb:Below X.heap.size X (X.alloc (.cells #[u.a,u.b,u.c,u.d,u.e] 46)):=(Below.refl _ _).alloc (Nat.le_refl _) _
 have:=append_gr (X:=X.alloc (.cells #[u.a,u.b,u.c,u.d,u.e] 46)) ⟨X.heap.size,0,none⟩ 1 1 (h.below hb) ((OwnL.one h2).below hb) rfl (fun j w hw=>by
  rw[add0,show (X.alloc (.cells #[u.a,u.b,u.c,u.d,u.e] 46)).cell? ⟨X.heap.size,j,none⟩=#[u.a,u.b,u.c,u.d,u.e][j]? from cell_of_row _ _ _ _ 46 (0,0) (heap_alloc_new X _)]
  rw[flatV_one] at hw
  simpa [V5.l] using hw) hl (by simp;omega)
 simpa using this
end Go.Proofs.YtnjlkhhcfiedbaaGreatDoor
namespace Go.Proofs.YtnjlkhhcfiedbaaGreatDoor
open Go.RowKit Go.Shelf
attribute [local go_sem] Oper.semAt_some
theorem join2_ok {a b:Cel}:inK .i64 (join2 a b).cnt:=by
 show inK .i64 (wrap64 (a.cnt+b.cnt))
 unfold wrap64
 exact⟨by omega,by omega⟩
end Go.Proofs.YtnjlkhhcfiedbaaGreatDoor

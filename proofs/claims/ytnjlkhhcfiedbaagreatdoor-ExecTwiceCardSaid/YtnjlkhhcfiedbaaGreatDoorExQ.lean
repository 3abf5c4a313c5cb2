import Derived.RowKit
import Derived.Test.YtnjlkhhcfiedbaaGreatDoorMake
namespace Go.Proofs.YtnjlkhhcfiedbaaGreatDoor
open Go.RowKit Go.Shelf
def RiseC (l:List Cel):Prop:=l.Pairwise fun x y=>cmpL x.key y.key<0
theorem putC_rise (c:Cel):∀ (l:List Cel),RiseC l→RiseC (putC l c)
 | [],_=>by simp[putC,RiseC]
 | x :: l,h=>by
  obtain⟨h1,h2⟩:=List.pairwise_cons.1 h
  have ha:=cmpL_anti x.key c.key
  simp only[putC]
  split
  ·rename_i hlt
   refine List.pairwise_cons.2 ⟨fun y hy=>?_,putC_rise c l h2⟩
   rcases putC_keys c l y hy with e | ⟨z,hz,e⟩
   ·rw[e];exact hlt
   ·rw[← e];exact h1 z hz
  ·split
   ·exact List.pairwise_cons.2 ⟨h1,h2⟩
   ·have hcx:cmpL c.key x.key<0:=by omega
    exact List.pairwise_cons.2 ⟨fun y hy=>by
     rcases List.mem_cons.1 hy with rfl | hy
     ·exact hcx
     ·exact cmpL_lt_of hcx (Int.le_of_lt (h1 y hy)),h⟩
theorem grp_rise:∀ (l acc:List Cel),RiseC acc→RiseC (l.foldl putC acc)
 | [],_,h=>h
 | x :: l,acc,h=>grp_rise l (putC acc x) (putC_rise x acc h)
theorem grpR_rise (l:List Cel):RiseC (grpR l):=grp_rise l [] (by simp[RiseC])
theorem grp_same:∀ (l acc:List Cel),RiseC (acc ++ l)→l.foldl putC acc=acc ++ l
 | [],acc,_=>by simp
 | x :: l,acc,h=>by
  have h1:∀ y ∈ acc,cmpL y.key x.key<0:=fun y hy=>(List.pairwise_append.1 h).2.2 y hy x (by simp)
  rw[List.foldl_cons,putC_end h1,grp_same l (acc ++ [x]) (by simpa using h)]
  simp
theorem grpR_again (l:List Cel):grpR (grpR l)=grpR l:=grp_same (grpR l) [] (by simpa using grpR_rise l)
theorem putC_even {me:Nat} {c:Cel} (hc:EvenC me c):∀ (l:List Cel),(∀ x ∈ l,EvenC me x)→∀ y ∈ putC l c,EvenC me y
 | [],_,y,hy=>by simp only[putC,List.mem_singleton] at hy;rw[hy];exact hc
 | x :: l,h,y,hy=>by
  simp only[putC] at hy
  split at hy
  ·rcases List.mem_cons.1 hy with rfl | hy
   ·exact h _ (by simp)
   ·exact putC_even hc l (fun z hz=>h z (by simp[hz])) y hy
  ·split at hy
   ·rcases List.mem_cons.1 hy with rfl | hy
    ·exact join2_even (h _ (by simp)) hc
    ·exact h y (by simp[hy])
   ·rcases List.mem_cons.1 hy with rfl | hy
    ·exact hc
    ·exact h y hy
theorem grp_even {me:Nat}:∀ (l acc:List Cel),(∀ x ∈ acc,EvenC me x)→(∀ x ∈ l,EvenC me x)→∀ y ∈ l.foldl putC acc,EvenC me y
 | [],_,h,_,y,hy=>h y hy
 | x :: l,acc,h,h2,y,hy=>grp_even l (putC acc x) (putC_even (h2 x (by simp)) acc h) (fun z hz=>h2 z (by simp[hz])) y hy
theorem putC_lt (c:Cel):∀ (l:List Cel),(putC l c).length≤l.length+1
 | []=>by simp[putC]
 | x :: l=>by
  simp only[putC]
  split
  ·have:=putC_lt c l
   simp only[List.length_cons];omega
  ·split <;> simp
theorem grp_lt:∀ (l acc:List Cel),(l.foldl putC acc).length≤acc.length+l.length
 | [],acc=>by simp
 | x :: l,acc=>by
  have h1:=grp_lt l (putC acc x)
  have h2:=putC_lt x acc
  simp only[List.foldl_cons,List.length_cons];omega
def cnts (l:List Cel):Int:=(l.map Cel.cnt).sum
theorem cnts_cons (x:Cel) (l:List Cel):cnts (x :: l)=x.cnt+cnts l:=by simp[cnts]
def PosC (l:List Cel):Prop:=∀ x ∈ l,0≤x.cnt
theorem PosC.sum:∀ {l:List Cel},PosC l→0≤cnts l
 | [],_=>by simp[cnts]
 | x :: l,h=>by
  rw[cnts_cons]
  have h1:=h x (by simp)
  have h2:=PosC.sum (l:=l) (fun y hy=>h y (by simp[hy]))
  omega
theorem putC_cnts {c:Cel} (hc:0≤c.cnt):∀ (l:List Cel),PosC l→cnts l+c.cnt≤1000000→PosC (putC l c)∧cnts (putC l c)=cnts l+c.cnt
 | [],_,_=>⟨fun x hx=>by simp only[putC,List.mem_singleton] at hx;rw[hx];exact hc,by simp[putC,cnts]⟩
 | x :: l,h,hb=>by
  have hx:=h x (by simp)
  have hl:PosC l:=fun y hy=>h y (by simp[hy])
  have hs:=hl.sum
  rw[cnts_cons] at hb
  simp only[putC]
  split
  ·obtain⟨h1,h2⟩:=putC_cnts hc l hl (by omega)
   refine⟨fun y hy=>?_,by rw[cnts_cons,cnts_cons,h2];omega⟩
   rcases List.mem_cons.1 hy with rfl | hy
   ·exact hx
   ·exact h1 y hy
  ·split
   ·have e:(join2 x c).cnt=x.cnt+c.cnt:=by
     show wrap64 (x.cnt+c.cnt)=_
     unfold wrap64;omega
    refine⟨fun y hy=>?_,by rw[cnts_cons,cnts_cons,e];omega⟩
    rcases List.mem_cons.1 hy with rfl | hy
    ·rw[e];omega
    ·exact hl y hy
   ·refine⟨fun y hy=>?_,by rw[cnts_cons,cnts_cons];omega⟩
    rcases List.mem_cons.1 hy with rfl | hy
    ·exact hc
    ·exact h y hy
theorem grp_cnts:∀ (l acc:List Cel),PosC acc→PosC l→cnts acc+cnts l≤1000000→PosC (l.foldl putC acc)∧cnts (l.foldl putC acc)=cnts acc+cnts l
 | [],acc,h,_,_=>⟨h,by simp[cnts]⟩
 | x :: l,acc,h,hl,hb=>by
  have hx:=hl x (by simp)
  have hl':PosC l:=fun y hy=>hl y (by simp[hy])
  have hs:=hl'.sum
  rw[cnts_cons] at hb
  obtain⟨h1,h2⟩:=putC_cnts hx acc h (by omega)
  obtain⟨h3,h4⟩:=grp_cnts l (putC acc x) h1 hl' (by omega)
  exact⟨h3,by rw[List.foldl_cons,h4,h2,cnts_cons];omega⟩
theorem cnts_one {l:List Cel} (h:∀ x ∈ l,x.cnt=1):cnts l=l.length:=by
 induction l with
 | nil=>simp[cnts]
 | cons x l ih =>
  rw[cnts_cons,ih (fun y hy=>h y (by simp[hy])),h x (by simp)]
  simp only[List.length_cons];omega
theorem flatV_cons (r:V5) (s:List V5):flatV (r :: s)=r.a :: r.b :: r.c :: r.d :: r.e :: flatV s:=by simp[flatV,V5.l]
theorem flatV_set:∀ (us:List V5) (a:Nat) (q:V5),a<us.length→(((((flatV us).set (a*5) q.a).set (a*5+1) q.b).set (a*5+2) q.c).set (a*5+3) q.d).set (a*5+4) q.e=flatV (us.set a q)
 | [],a,_,h=>by simp at h
 | p :: t,0,q,_=>by simp[flatV,V5.l]
 | p :: t,a+1,q,h=>by
  rw[List.set_cons_succ,flatV_cons,flatV_cons,← flatV_set t a q (by simpa using h),
   show (a+1)*5=a*5+1+1+1+1+1 from by omega,
   show a*5+1+1+1+1+1+2=a*5+2+1+1+1+1+1 from by omega,
   show a*5+1+1+1+1+1+3=a*5+3+1+1+1+1+1 from by omega,
   show a*5+1+1+1+1+1+4=a*5+4+1+1+1+1+1 from by omega]
  simp only[List.set_cons_succ]
theorem flatV_five {us:List V5} {i:Nat} {u:V5} (h:us[i]? = some u):(flatV us)[i*5]? = some u.a∧(flatV us)[i*5+1]? = some u.b∧(flatV us)[i*5+2]? = some u.c∧(flatV us)[i*5+3]? = some u.d∧(flatV us)[i*5+4]? = some u.e:=by
 induction us generalizing i with
 | nil=>simp at h
 | cons p t ih =>
  rw[flatV_cons]
  cases i with
  | zero =>
   simp only[List.getElem?_cons_zero,Option.some.injEq] at h
   subst h
   simp
  | succ i =>
   obtain⟨h1,h2,h3,h4,h5⟩:=ih (i:=i) (by simpa using h)
   rw[show (i+1)*5=i*5+1+1+1+1+1 from by omega,
    show i*5+1+1+1+1+1+2=i*5+2+1+1+1+1+1 from by omega,
    show i*5+1+1+1+1+1+3=i*5+3+1+1+1+1+1 from by omega,
    show i*5+1+1+1+1+1+4=i*5+4+1+1+1+1+1 from by omega]
   simp only[List.getElem?_cons_succ]
   exact⟨h1,h2,h3,h4,h5⟩
def setF (W:World) (g a:Nat) (q:V5):World:=((((W.setCell ⟨g,a*5,none⟩ q.a).setCell ⟨g,a*5+1,none⟩ q.b).setCell ⟨g,a*5+2,none⟩ q.c).setCell ⟨g,a*5+3,none⟩ q.d).setCell ⟨g,a*5+4,none⟩ q.e
theorem setF_bel {B g a:Nat} {W X:World} {q:V5} (h:Below B W X) (hg:B≤g):Below B W (setF X g a q):=((((h.setCell hg _).setCell hg _).setCell hg _).setCell hg _).setCell hg _
theorem OI.farC {B B' g i n:Nat} {X:World} {v z:Value} {w:Value} {xs:List Int} {ys:List Value} (h:OI B X w xs) (ho:X.ownsRow B' 46 5 v n ys) (hg:v.ownBlock=some g):OI B (X.setCell ⟨g,i,none⟩ z) w xs :=
 ⟨own_stay h.1 fun k hk=>Below.heap_setCell _ _ _ _ (fun e=>by
  rcases own_apart h.1 ho (by decide) with h0 | h0
  ·rw[h0] at hk;cases hk
  ·exact h0 (by rw[hk,hg,e])),h.2⟩
theorem GRs.setF {B g c a:Nat} {X:World} {us:List V5} {J:List Cel} {q:V5} {x:Cel} (h:GRs B X (.slice (some ⟨g,0,none⟩) us.length c) us J) (hq:OwnC B X q x) (ha:a<us.length) :
  GRs B (setF X g a q) (.slice (some ⟨g,0,none⟩) us.length c) (us.set a q) (J.set a x)∧(∀ (u:V5) (y:Cel),OwnC B X u y→OwnC B (Go.Proofs.YtnjlkhhcfiedbaaGreatDoor.setF X g a q) u y):=by
 have hb:(Value.slice (some ⟨g,0,none⟩) us.length c).ownBlock=some g:=rfl
 have h0:=h.1
 have s1:=(h0.stored (a*5) q.a).1
 have s2:=(s1.stored (a*5+1) q.b).1
 have s3:=(s2.stored (a*5+2) q.c).1
 have s4:=(s3.stored (a*5+3) q.d).1
 have s5:=(s4.stored (a*5+4) q.e).1
 rw[flatV_set us a q ha] at s5
 have stay:∀ {w:Value} {xs:List Int},OI B X w xs→OI B (Go.Proofs.YtnjlkhhcfiedbaaGreatDoor.setF X g a q) w xs:=fun o =>
  ((((o.farC h0 hb).farC s1 hb).farC s2 hb).farC s3 hb).farC s4 hb
 have hq':=hq.stay (fun o=>stay o)
 have hl:=h.2.stay (fun o=>stay o)
 refine⟨⟨by rw[List.length_set];exact s5,by rw[List.length_set,List.length_set];exact hl.1,fun i u y hu hy=>?_⟩,fun u y hu=>hu.stay fun o=>stay o⟩
 by_cases e:i=a
 ·subst e
  rw[List.getElem?_set_self ha] at hu
  rw[List.getElem?_set_self (by rw[← h.2.1];exact ha)] at hy
  injection hu with hu
  injection hy with hy
  rw[← hu,← hy]
  exact hq'
 ·rw[List.getElem?_set_ne (by omega)] at hu hy
  exact hl.2 i u y hu hy
theorem swap_perm {α:Type} {l:List α} {a b:Nat} {x y:α} (ha:l[a]? = some x) (hb:l[b]? = some y):((l.set a y).set b x).Perm l:=by
 obtain⟨h1,rfl⟩:=List.getElem?_eq_some_iff.1 ha
 obtain⟨h2,rfl⟩:=List.getElem?_eq_some_iff.1 hb
 exact List.set_set_perm h1 h2
theorem lit_cells {B m c:Nat} {W:World} {P:Option Addr} {us:List V5} {L:List Cel} (h:GRs B W (.slice P m c) us L) (hl:m≤1000000) (hB:B≤W.heap.size) :
  ∃ g c' W',(Builtin.append_ #[31,31] 31 #[.slice (some ⟨W.heap.size,0,none⟩) 0 0,.slice P m c]).run Tryz.prog (W.alloc (.cells #[] 46))=.ok (.slice (some ⟨g,0,none⟩) m c') W'∧W.heap.size≤g∧GRs B W' (.slice (some ⟨g,0,none⟩) m c') us L∧Below W.heap.size W W':=by
 obtain⟨i0,hi,hz0,hz1,hz2⟩:=info_parts infoC
 have hlit:(W.alloc (.cells #[] 46)).ownsRow W.heap.size 46 5 (.slice (some ⟨W.heap.size,0,none⟩) 0 0) 0 []:=World.ownsRow_made W #[] 0 (Nat.le_refl _) (by simp[maxLen]) (by simp)
 have hb:Below W.heap.size W (W.alloc (.cells #[] 46)):=(Below.refl _ _).alloc (Nat.le_refl _) _
 obtain⟨P',c',e,-,-,h2,h3⟩:=h.form
 injection e with e1 e2 e3
 subst e1 e2 e3
 rcases Nat.eq_zero_or_pos us.length with hz | hz
 ·have he:us=[]:=List.length_eq_zero_iff.1 hz
  subst he
  have hL:L=[]:=List.length_eq_zero_iff.1 (by rw[← h.len];rfl)
  subst hL
  refine⟨W.heap.size,0,_,?_,Nat.le_refl _,⟨own_mono hlit hB,rfl,fun i u x hu=>by simp at hu⟩,hb⟩
  cases P with
  | none =>
   obtain rfl:=h3 rfl
   exact run_append_nothing (P:=Tryz.prog) _ 31 31 31 46 i0 Tryz.underlying31 hi _ 0 0 (Nat.le_refl _) (.slice none 0 0) (Src.ofNil _ Tryz.underlying31 0)
  | some ad=>exact run_append_nothing (P:=Tryz.prog) _ 31 31 31 46 i0 Tryz.underlying31 hi _ 0 0 (Nat.le_refl _) (.slice (some ad) 0 c) (Src.ofSlice _ Tryz.underlying31 ad 0 c [] (by simp) (fun j u h=>by simp at h) (fun u h=>by cases h))
 ·obtain⟨g0,rfl,-,-,-,h4⟩:=h2 hz
  obtain⟨v',W',hrun,ho,hgr,_⟩:=run_append_own_at (P:=Tryz.prog) (W.alloc (.cells #[] 46)) W.heap.size 31 31 46 i0 _ 5 104 Tryz.underlying31 hi hz0 hz1 hz2 rfl (by omega) _ 0 [] hlit ⟨g0,0,none⟩ us.length c (flatV us) (flatV_len us)
   (fun j u hu=>(Keeps.of_below hb) _ _ (by rw[add0];exact h4 j u hu)) h.2.reads.one (by simp[maxLen];omega) (by omega) hb.size
  rw[Nat.zero_add,List.nil_append] at ho
  have hbw:Below W.heap.size W W':=hb.grown hgr hb.size fun j e=>(hlit.lt j e).1
  obtain⟨P2,c2,hv,-,-,h5⟩:=own_form ho
  obtain⟨g,rfl,h6,-⟩:=h5 hz
  subst hv
  exact⟨g,c2,W',hrun,h6,⟨own_mono ho hB,(h.2.below hb).stay fun o=>o.rowC hlit hgr⟩,hbw⟩
end Go.Proofs.YtnjlkhhcfiedbaaGreatDoor
namespace Go.Proofs.YtnjlkhhcfiedbaaGreatDoor
open Go.RowKit Go.Shelf
theorem putC_same (c:Cel):∀ (l:List Cel) (k:Nat) (x:Cel),l[k]? = some x→(∀ i y,i<k→l[i]? = some y→cmpL y.key c.key<0)→cmpL x.key c.key=0→putC l c=l.set k (join2 x c)
 | [],k,x,h,_,_=>by simp at h
 | y :: l,0,x,h,_,e=>by
  simp only[List.getElem?_cons_zero,Option.some.injEq] at h
  subst h
  simp only[putC]
  rw[if_neg (by omega),if_pos e]
  rfl
 | y :: l,k+1,x,h,hl,e=>by
  simp only[putC]
  rw[if_pos (hl 0 y (by omega) rfl),putC_same c l k x (by simpa using h) (fun i z hi hz=>hl (i+1) z (by omega) (by simpa using hz)) e]
  rfl
theorem putC_new (c:Cel):∀ (l:List Cel) (k:Nat),k≤l.length→(∀ i y,i<k→l[i]? = some y→cmpL y.key c.key<0)→(∀ x,l[k]? = some x→0<cmpL x.key c.key)→putC l c=l.take k ++ c :: l.drop k
 | [],k,hk,_,_=>by simp[putC]
 | y :: l,0,_,_,h=>by
  have:=h y rfl
  simp only[putC]
  rw[if_neg (by omega),if_neg (by omega)]
  simp
 | y :: l,k+1,hk,hl,h=>by
  simp only[putC]
  rw[if_pos (hl 0 y (by omega) rfl),putC_new c l k (by simpa using hk) (fun i z hi hz=>hl (i+1) z (by omega) (by simpa using hz)) (fun x hx=>h x (by simpa using hx))]
  simp
theorem grpR_snoc (l:List Cel) (c:Cel):grpR (l ++ [c])=putC (grpR l) c:=by simp[grpR,List.foldl_append]
theorem zip_assoc {f:Int→Int→Int} (hf:∀ a b c,f (f a b) c=f a (f b c)):∀ (a b c:List Int),List.zipWith f (List.zipWith f a b) c=List.zipWith f a (List.zipWith f b c)
 | [],_,_=>by simp
 | _ :: _,[],_=>by simp
 | _ :: _,_ :: _,[]=>by simp
 | a :: xs,b :: ys,c :: zs=>by simp[hf,zip_assoc hf xs ys zs]
theorem join2_assoc (a b c:Cel):join2 (join2 a b) c=join2 a (join2 b c):=by
 unfold join2 addL minL maxL
 simp only[Cel.mk.injEq,true_and]
 refine⟨by unfold wrap64;omega,zip_assoc (fun a b c=>by unfold wrap64;omega) _ _ _,zip_assoc (fun a b c=>by omega) _ _ _,zip_assoc (fun a b c=>by omega) _ _ _⟩
theorem putC_join (x c:Cel) (h:x.key=c.key):∀ (l:List Cel),putC (putC l x) c=putC l (join2 x c)
 | []=>by
  simp only[putC]
  rw[h,cmpL_self,if_neg (by omega),if_pos rfl]
 | y :: l=>by
  have e:(join2 x c).key=c.key:=h
  rcases Int.lt_trichotomy (cmpL y.key c.key) 0 with k | k | k
  ·have e1:putC (y :: l) x=y :: putC l x:=by simp only[putC];rw[h,if_pos k]
   have e2:putC (y :: l) (join2 x c)=y :: putC l (join2 x c):=by simp only[putC];rw[e,if_pos k]
   rw[e1,e2,← putC_join x c h l]
   simp only[putC]
   rw[if_pos k]
  ·have e1:putC (y :: l) x=join2 y x :: l:=by simp only[putC];rw[h,if_neg (by omega),if_pos k]
   have e2:putC (y :: l) (join2 x c)=join2 y (join2 x c) :: l:=by simp only[putC];rw[e,if_neg (by omega),if_pos k]
   rw[e1,e2,← join2_assoc]
   simp only[putC]
   rw[if_neg (show ¬ cmpL (join2 y x).key c.key<0 from by show ¬ cmpL y.key c.key<0;omega),if_pos (show cmpL (join2 y x).key c.key=0 from k)]
  ·have e1:putC (y :: l) x=x :: y :: l:=by simp only[putC];rw[h,if_neg (by omega),if_neg (by omega)]
   have e2:putC (y :: l) (join2 x c)=join2 x c :: y :: l:=by simp only[putC];rw[e,if_neg (by omega),if_neg (by omega)]
   rw[e1,e2]
   simp only[putC]
   rw[h,cmpL_self,if_neg (by omega),if_pos rfl]
theorem foldl_comm_ (c:Cel):∀ (l acc:List Cel),l.foldl putC (putC acc c)=putC (l.foldl putC acc) c
 | [],_=>rfl
 | y :: l,acc=>by
  rw[List.foldl_cons,List.foldl_cons,putC_comm,foldl_comm_ c l]
def Goes (f:Cel→Cel):Prop:=(∀ x y,x.key=y.key→(f x).key=(f y).key)∧∀ x y,x.key=y.key→f (join2 x y)=join2 (f x) (f y)
theorem goes_id:Goes id:=⟨fun _ _ h=>h,fun _ _ _=>rfl⟩
theorem foldl_put {f:Cel→Cel} (hf:Goes f) (c:Cel):∀ (l acc:List Cel),((putC l c).map f).foldl putC acc=putC ((l.map f).foldl putC acc) (f c)
 | [],acc=>by simp[putC]
 | y :: l,acc=>by
  simp only[putC]
  split
  ·rw[List.map_cons,List.foldl_cons,List.map_cons,List.foldl_cons,foldl_put hf c l]
  ·split
   ·rename_i h
    have hk:=cmpL_zero.1 h
    rw[List.map_cons,List.foldl_cons,List.map_cons,List.foldl_cons,hf.2 y c hk,← putC_join (f y) (f c) (hf.1 y c hk),foldl_comm_]
   ·rw[List.map_cons,List.foldl_cons,List.map_cons,List.foldl_cons,List.foldl_cons,putC_comm,foldl_comm_]
theorem foldl_grp {f:Cel→Cel} (hf:Goes f):∀ (l m acc:List Cel),((l.foldl putC m).map f).foldl putC acc=(l.map f).foldl putC ((m.map f).foldl putC acc)
 | [],_,_=>rfl
 | x :: l,m,acc=>by
  rw[List.foldl_cons,foldl_grp hf l,foldl_put hf,List.map_cons,List.foldl_cons]
theorem grpR_map {f:Cel→Cel} (hf:Goes f) (l:List Cel):grpR ((grpR l).map f)=grpR (l.map f):=foldl_grp hf l [] []
theorem grpR_parts (a b:List Cel):grpR (a ++ grpR b)=grpR (a ++ b):=by
 have h:=foldl_grp goes_id b [] (a.foldl putC [])
 simp only[List.map_id] at h
 unfold grpR
 rw[List.foldl_append,List.foldl_append]
 exact h
theorem goes_narrow (g:List Int→List Int):Goes fun x=>⟨g x.key,x.cnt,x.sum,x.mn,x.mx⟩:=⟨fun x y h=>by show g x.key=g y.key;rw[h],fun _ _ _=>rfl⟩
end Go.Proofs.YtnjlkhhcfiedbaaGreatDoor
namespace Go.Proofs.YtnjlkhhcfiedbaaGreatDoor
def hashI (key:List Int):Int:=key.foldl (fun h v=>(31*h+v+1) % 1000003) 7
def plcN (key:List Int) (n:Nat):Nat:=(hashI key).toNat % n
theorem plcN_lt (key:List Int) {n:Nat} (h:0<n):plcN key n<n:=Nat.mod_lt _ h
theorem hashI_snoc (key:List Int) (v:Int):hashI (key ++ [v])=(31*hashI key+v+1) % 1000003:=by
 unfold hashI
 rw[List.foldl_append];rfl
theorem hashI_take {key:List Int} {k:Nat} {v:Int} (h:key[k]? = some v):hashI (key.take (k+1))=(31*hashI (key.take k)+v+1) % 1000003:=by
 rw[List.take_add_one,h];exact hashI_snoc _ v
theorem hashI_in (key:List Int):0≤hashI key∧hashI key≤1000002:=by
 unfold hashI
 have:∀ (l:List Int) (h:Int),0≤h∧h≤1000002→0≤l.foldl (fun h v=>(31*h+v+1) % 1000003) h∧l.foldl (fun h v=>(31*h+v+1) % 1000003) h≤1000002:=by
  intro l
  induction l with
  | nil=>intro h hh;exact hh
  | cons v l ih=>intro h _;exact ih _ (by show 0≤(31*h+v+1) % 1000003∧(31*h+v+1) % 1000003≤1000002;omega)
 exact this key 7 (by omega)
theorem plcN_mod (key:List Int) (n:Nat):(plcN key n:Int)=hashI key % (n:Int):=by
 have:=hashI_in key
 unfold plcN
 rw[Int.natCast_emod,Int.toNat_of_nonneg this.1]
end Go.Proofs.YtnjlkhhcfiedbaaGreatDoor
namespace Go.Proofs.YtnjlkhhcfiedbaaGreatDoor
open Go.RowKit
def seekF (ts:List (Option Cel)) (key:List Int):Nat→Nat→Option Nat
 | _,0=>none
 | a,f+1=>match ts[a]? with
  | some (some c)=>if c.key=key then some a else seekF ts key ((a+1) % ts.length) f
  | some none=>some a
  | none=>none
def seekT (ts:List (Option Cel)) (key:List Int):Option Nat:=seekF ts key (plcN key ts.length) ts.length
def putT (ts:List (Option Cel)) (c:Cel):Option (List (Option Cel)):=match seekT ts c.key with
 | none=>none
 | some k=>some (ts.set k (some (match ts[k]? with | some (some x)=>join2 x c | _=>c)))
def cellsT (ts:List (Option Cel)):List Cel:=ts.filterMap id
def InvT (ts:List (Option Cel)):Prop:=∀ k c,ts[k]? = some (some c)→seekT ts c.key=some k
theorem seekF_has {ts:List (Option Cel)} {key:List Int}:∀ {f a k:Nat},seekF ts key a f=some k→ts[k]? = some none∨∃ c,ts[k]? = some (some c)∧c.key=key
 | 0,a,k,h=>by simp[seekF] at h
 | f+1,a,k,h=>by
  unfold seekF at h
  split at h
  ·rename_i c hc
   split at h
   ·rename_i e
    injection h with h
    subst h
    exact .inr ⟨c,hc,e⟩
   ·exact seekF_has h
  ·rename_i hc
   injection h with h
   subst h
   exact .inl hc
  ·cases h
theorem seekF_far {ts:List (Option Cel)} {key:List Int} {k k':Nat} (x:Option Cel) (hk:ts[k]? = some none) (hn:k' ≠ k):∀ {f a:Nat},seekF ts key a f=some k'→seekF (ts.set k x) key a f=some k'
 | 0,a,h=>by simp[seekF] at h
 | f+1,a,h=>by
  unfold seekF at h ⊢
  by_cases hak:a=k
  ·subst hak
   rw[hk] at h
   simp only[Option.some.injEq] at h
   exact absurd h.symm hn
  ·rw[List.getElem?_set_ne (fun e=>hak e.symm),List.length_set]
   split at h
   ·rename_i c hc
    split at h
    ·rename_i e
     rw[if_pos e];exact h
    ·rename_i e
     rw[if_neg e];exact seekF_far x hk hn h
   ·exact h
   ·cases h
theorem seekF_self {ts:List (Option Cel)} {key:List Int} {k:Nat} {y:Cel} (hy:y.key=key):∀ {f a:Nat},seekF ts key a f=some k→seekF (ts.set k (some y)) key a f=some k
 | 0,a,h=>by simp[seekF] at h
 | f+1,a,h=>by
  have hh:=seekF_has h
  unfold seekF at h ⊢
  split at h
  ·rename_i c hc
   split at h
   ·rename_i e
    injection h with h
    subst h
    have hl:=(List.getElem?_eq_some_iff.1 hc).1
    rw[List.getElem?_set_self hl]
    simp only[hy,if_true]
   ·rename_i e
    have hak:k ≠ a:=fun e2=>by
     subst e2
     rcases hh with hh | ⟨c',hh,e3⟩
     ·rw[hc] at hh;cases hh
     ·rw[hc] at hh;injection hh with hh;injection hh with hh;subst hh;exact e e3
    rw[List.getElem?_set_ne hak,List.length_set,hc]
    simp only
    rw[if_neg e];exact seekF_self hy h
  ·rename_i hc
   injection h with h
   subst h
   have hl:=(List.getElem?_eq_some_iff.1 hc).1
   rw[List.getElem?_set_self hl]
   simp only[hy,if_true]
  ·cases h
theorem seekF_same {ts:List (Option Cel)} {k:Nat} {x y:Cel} (hx:ts[k]? = some (some x)) (hy:y.key=x.key) (key:List Int):∀ (f a:Nat),seekF (ts.set k (some y)) key a f=seekF ts key a f
 | 0,a=>rfl
 | f+1,a=>by
  unfold seekF
  rw[List.length_set]
  by_cases hak:k=a
  ·subst hak
   rw[List.getElem?_set_self (List.getElem?_eq_some_iff.1 hx).1,hx]
   simp only[hy]
   rw[seekF_same hx hy key f]
  ·rw[List.getElem?_set_ne hak]
   split
   ·rw[seekF_same hx hy key f]
   ·rfl
   ·rfl
theorem seekF_none {ts:List (Option Cel)} {key:List Int}:∀ {f a:Nat},a<ts.length→seekF ts key a f=none→∀ i,i<f→∃ c,ts[(a+i) % ts.length]? = some (some c)∧c.key ≠ key
 | 0,a,_,_,i,hi=>absurd hi (by omega)
 | f+1,a,ha,h,i,hi=>by
  unfold seekF at h
  split at h
  ·rename_i c hc
   split at h
   ·cases h
   ·rename_i e
    cases i with
    | zero=>exact⟨c,by rw[Nat.add_zero,Nat.mod_eq_of_lt ha];exact hc,e⟩
    | succ i =>
     obtain⟨d,hd,e2⟩:=seekF_none (Nat.mod_lt _ (by omega)) h i (by omega)
     refine⟨d,?_,e2⟩
     rw[Nat.mod_add_mod,show a+1+i=a+(i+1) by omega] at hd
     exact hd
  ·cases h
  ·rename_i hc
   rw[List.getElem?_eq_getElem ha] at hc
   cases hc
theorem seekT_none {ts:List (Option Cel)} {key:List Int} (h:seekT ts key=none) (k:Nat) (hk:k<ts.length):∃ c,ts[k]? = some (some c)∧c.key ≠ key:=by
 have ha:=plcN_lt key (n:=ts.length) (by omega)
 by_cases hak:plcN key ts.length≤k
 ·have:=seekF_none ha h (k - plcN key ts.length) (by omega)
  rwa [show plcN key ts.length+(k - plcN key ts.length)=k by omega,Nat.mod_eq_of_lt hk] at this
 ·have:=seekF_none ha h (k+ts.length - plcN key ts.length) (by omega)
  rwa [show plcN key ts.length+(k+ts.length - plcN key ts.length)=k+ts.length by omega,Nat.add_mod_right,Nat.mod_eq_of_lt hk] at this
theorem cellsT_split {ts:List (Option Cel)} {k:Nat} {t:Option Cel} (h:ts[k]? = some t):∃ a b,cellsT ts=a ++ t.toList ++ b∧∀ y:Cel,cellsT (ts.set k (some y))=a ++ [y] ++ b:=by
 obtain⟨hk,rfl⟩:=List.getElem?_eq_some_iff.1 h
 refine⟨cellsT (ts.take k),cellsT (ts.drop (k+1)),?_,fun y=>?_⟩
 ·have e:ts=ts.take k ++ ts[k] :: ts.drop (k+1):=by rw[← List.drop_eq_getElem_cons hk,List.take_append_drop]
  unfold cellsT
  conv=>lhs;rw[e]
  rw[List.filterMap_append,List.filterMap_cons]
  cases ts[k] <;> simp
 ·unfold cellsT
  rw[List.set_eq_take_append_cons_drop,if_pos hk,List.filterMap_append,List.filterMap_cons]
  simp
theorem put_grp {ts ts':List (Option Cel)} {c:Cel} (hI:InvT ts) (h:putT ts c=some ts'):InvT ts'∧grpR (cellsT ts')=putC (grpR (cellsT ts)) c∧ts'.length=ts.length:=by
 unfold putT at h
 cases hs:seekT ts c.key with
 | none=>rw[hs] at h;cases h
 | some k =>
  rw[hs] at h
  simp only[Option.some.injEq] at h
  rcases seekF_has hs with h2 | ⟨x,h2,e⟩
  ·rw[h2] at h
   simp only at h
   subst h
   refine⟨fun k' d hd=>?_,?_,List.length_set⟩
   ·by_cases hkk:k=k'
    ·subst hkk
     rw[List.getElem?_set_self (List.getElem?_eq_some_iff.1 h2).1] at hd
     injection hd with hd
     injection hd with hd
     subst hd
     unfold seekT
     rw[List.length_set]
     exact seekF_self rfl hs
    ·rw[List.getElem?_set_ne hkk] at hd
     have:=hI k' d hd
     unfold seekT at this ⊢
     rw[List.length_set]
     exact seekF_far _ h2 (fun e=>hkk e.symm) this
   ·obtain⟨a,b,e1,e2⟩:=cellsT_split h2
    rw[e1,e2 c,← grpR_snoc]
    apply grpR_perm
    simp only[Option.toList_none,List.append_nil]
    exact (List.append_assoc a [c] b ▸ (List.Perm.append_left a (List.perm_append_comm (l₁:=[c]) (l₂:=b))).trans (by rw[List.append_assoc]))
  ·rw[h2] at h
   simp only at h
   subst h
   refine⟨fun k' d hd=>?_,?_,List.length_set⟩
   ·have hsk:∀ key,seekT (ts.set k (some (join2 x c))) key=seekT ts key:=fun key=>by
     unfold seekT;rw[List.length_set];exact seekF_same (x:=x) (y:=join2 x c) h2 rfl key _ _
    rw[hsk]
    by_cases hkk:k=k'
    ·subst hkk
     rw[List.getElem?_set_self (List.getElem?_eq_some_iff.1 h2).1] at hd
     injection hd with hd
     injection hd with hd
     subst hd
     exact hI k x h2
    ·rw[List.getElem?_set_ne hkk] at hd
     exact hI k' d hd
   ·obtain⟨a,b,e1,e2⟩:=cellsT_split h2
    have p:∀ z:Cel,(a ++ [z] ++ b).Perm (a ++ b ++ [z]):=fun z=>by
     rw[List.append_assoc,List.append_assoc]
     exact List.Perm.append_left a List.perm_append_comm
    rw[e1,e2,Option.toList_some,grpR_perm (p _),grpR_perm (p _),grpR_snoc,grpR_snoc,putC_join x c e]
theorem inv_new (n:Nat):InvT (List.replicate n none):=fun k c h=>by
 obtain⟨hk,h⟩:=List.getElem?_eq_some_iff.1 h
 rw[List.getElem_replicate] at h
 cases h
theorem cells_new (n:Nat):cellsT (List.replicate n none)=[]:=by
 unfold cellsT
 induction n with
 | zero=>rfl
 | succ n ih=>rw[List.replicate_succ,List.filterMap_cons];exact ih
theorem mem_cells {ts:List (Option Cel)} {c:Cel}:c ∈ cellsT ts ↔ ∃ k:Nat,ts[k]? = some (some c):=by
 unfold cellsT
 rw[List.mem_filterMap]
 constructor
 ·rintro ⟨o,ho,e⟩
  obtain⟨k,hk⟩:=List.mem_iff_getElem?.1 ho
  exact⟨k,by rw[hk];exact congrArg some e⟩
 ·rintro ⟨k,hk⟩
  exact⟨some c,List.mem_iff_getElem?.2 ⟨k,hk⟩,rfl⟩
theorem inv_apart {ts:List (Option Cel)} (hI:InvT ts):(cellsT ts).Pairwise fun x y=>x.key ≠ y.key:=by
 unfold cellsT
 rw[List.pairwise_filterMap,List.pairwise_iff_getElem]
 intro i j hi hj hij b hb b' hb' e
 have h1:=hI i b (by rw[List.getElem?_eq_getElem hi];exact congrArg some hb)
 have h2:=hI j b' (by rw[List.getElem?_eq_getElem hj];exact congrArg some hb')
 rw[e,h2] at h1
 injection h1 with h1
 omega
theorem putC_len_new (c:Cel):∀ (l:List Cel),(∀ x ∈ l,x.key ≠ c.key)→(putC l c).length=l.length+1
 | [],_=>rfl
 | x :: l,h=>by
  simp only[putC]
  split
  ·rw[List.length_cons,putC_len_new c l fun y hy=>h y (by simp[hy]),List.length_cons]
  ·rw[if_neg fun e=>h x (by simp) (cmpL_zero.1 e)];simp
theorem putC_len_old (c:Cel):∀ (l:List Cel),RiseC l→(∃ x ∈ l,x.key=c.key)→(putC l c).length=l.length
 | [],_,h=>by obtain⟨x,hx,_⟩:=h;simp at hx
 | x :: l,hr,h=>by
  obtain⟨h1,h2⟩:=List.pairwise_cons.1 hr
  simp only[putC]
  split
  ·rename_i hlt
   have hx:∃ y ∈ l,y.key=c.key:=by
    obtain⟨y,hy,e⟩:=h
    rcases List.mem_cons.1 hy with rfl | hy
    ·rw[e,cmpL_self] at hlt;omega
    ·exact⟨y,hy,e⟩
   rw[List.length_cons,putC_len_old c l h2 hx,List.length_cons]
  ·split
   ·simp
   ·rename_i hn1 hn2
    exfalso
    obtain⟨y,hy,e⟩:=h
    rcases List.mem_cons.1 hy with rfl | hy
    ·exact hn2 (by rw[e,cmpL_self])
    ·have:=h1 y hy
     rw[e] at this
     omega
theorem putC_len_ge (c:Cel):∀ (l:List Cel),l.length≤(putC l c).length
 | []=>by simp[putC]
 | x :: l=>by
  simp only[putC]
  have:=putC_len_ge c l
  split
  ·simp only[List.length_cons];omega
  ·split <;> simp
theorem grp_mem_key:∀ (l:List Cel) (k:List Int),(∃ x ∈ grpR l,x.key=k) ↔ ∃ x ∈ l,x.key=k:=by
 intro l k
 constructor
 ·rintro ⟨x,hx,e⟩
  rcases grp_keys l [] x hx with ⟨z,hz,_⟩ | ⟨z,hz,e2⟩
  ·simp at hz
  ·exact⟨z,hz,e2.trans e⟩
 ·have put_has:∀ (c:Cel) (l:List Cel),∃ x ∈ putC l c,x.key=c.key:=by
   intro c l
   induction l with
   | nil=>exact⟨c,by simp[putC],rfl⟩
   | cons y l ih =>
    simp only[putC]
    split
    ·obtain⟨x,hx,e⟩:=ih;exact⟨x,by simp[hx],e⟩
    ·split
     ·rename_i e;exact⟨_,List.mem_cons_self,cmpL_zero.1 e⟩
     ·exact⟨c,List.mem_cons_self,rfl⟩
  have put_old:∀ (c z:Cel) (l:List Cel),z ∈ l→∃ x ∈ putC l c,x.key=z.key:=by
   intro c z l
   induction l with
   | nil=>intro h;simp at h
   | cons y l ih =>
    intro h
    simp only[putC]
    split
    ·rcases List.mem_cons.1 h with rfl | h
     ·exact⟨_,List.mem_cons_self,rfl⟩
     ·obtain⟨x,hx,e⟩:=ih h;exact⟨x,by simp[hx],e⟩
    ·split
     ·rcases List.mem_cons.1 h with rfl | h
      ·exact⟨_,List.mem_cons_self,rfl⟩
      ·exact⟨z,by simp[h],rfl⟩
     ·exact⟨z,List.mem_cons_of_mem _ h,rfl⟩
  have fold_old:∀ (l acc:List Cel) (z:Cel),z ∈ acc→∃ x ∈ l.foldl putC acc,x.key=z.key:=by
   intro l
   induction l with
   | nil=>intro acc z h;exact⟨z,h,rfl⟩
   | cons y l ih =>
    intro acc z h
    obtain⟨x,hx,e⟩:=put_old y z acc h
    obtain⟨x2,hx2,e2⟩:=ih (putC acc y) x hx
    exact⟨x2,hx2,e2.trans e⟩
  have fold_new:∀ (l acc:List Cel) (z:Cel),z ∈ l→∃ x ∈ l.foldl putC acc,x.key=z.key:=by
   intro l
   induction l with
   | nil=>intro acc z h;simp at h
   | cons y l ih =>
    intro acc z h
    rcases List.mem_cons.1 h with rfl | h
    ·obtain⟨x,hx,e⟩:=put_has z acc
     obtain⟨x2,hx2,e2⟩:=fold_old l (putC acc z) x hx
     exact⟨x2,hx2,e2.trans e⟩
    ·exact ih (putC acc y) z h
  rintro ⟨x,hx,rfl⟩
  exact fold_new l [] x hx
theorem fold_len_apart:∀ (l acc:List Cel),(l.Pairwise fun x y=>x.key ≠ y.key)→(∀ x ∈ acc,∀ y ∈ l,x.key ≠ y.key)→(l.foldl putC acc).length=acc.length+l.length
 | [],acc,_,_=>rfl
 | c :: l,acc,h,hd=>by
  obtain⟨h1,h2⟩:=List.pairwise_cons.1 h
  rw[List.foldl_cons,fold_len_apart l (putC acc c) h2 (fun x hx y hy e=>by
   rcases putC_keys c acc x hx with e2 | ⟨z,hz,e2⟩
   ·exact h1 y hy (e2.symm.trans e)
   ·exact hd z hz y (by simp[hy]) (e2.trans e)),putC_len_new c acc (fun x hx=>hd x hx c (by simp)),List.length_cons]
  omega
theorem grp_len_apart (l:List Cel) (h:l.Pairwise fun x y=>x.key ≠ y.key):(grpR l).length=l.length:=by
 have:=fold_len_apart l [] h (fun x hx=>by simp at hx)
 simpa [grpR] using this
theorem cells_le (ts:List (Option Cel)):(cellsT ts).length≤ts.length:=List.length_filterMap_le _ _
theorem inv_len {ts:List (Option Cel)} (hI:InvT ts):(grpR (cellsT ts)).length=(cellsT ts).length:=grp_len_apart _ (inv_apart hI)
theorem cells_full {ts:List (Option Cel)} (h:∀ k,k<ts.length→∃ c,ts[k]? = some (some c)):(cellsT ts).length=ts.length:=by
 induction ts with
 | nil=>rfl
 | cons t ts ih =>
  obtain⟨c,hc⟩:=h 0 (by simp)
  simp only[List.getElem?_cons_zero,Option.some.injEq] at hc
  subst hc
  have:=ih fun k hk=>by
   have:=h (k+1) (by simp;omega)
   simpa using this
  unfold cellsT at this ⊢
  rw[List.filterMap_cons]
  simp only[id,List.length_cons,this]
theorem put_none {ts:List (Option Cel)} {c:Cel} (h:putT ts c=none):(cellsT ts).length=ts.length∧∀ x ∈ cellsT ts,x.key ≠ c.key:=by
 unfold putT at h
 cases hs:seekT ts c.key with
 | some k=>rw[hs] at h;cases h
 | none =>
  refine⟨cells_full fun k hk=>(seekT_none hs k hk).imp fun _ h=>h.1,fun x hx=>?_⟩
  obtain⟨k,hk⟩:=mem_cells.1 hx
  obtain⟨d,hd,e⟩:=seekT_none hs k (List.getElem?_eq_some_iff.1 hk).1
  rw[hk] at hd;injection hd with hd;injection hd with hd;subst hd;exact e
def fillT:List (Option Cel)→List Cel→Option (List (Option Cel))
 | ts,[]=>some ts
 | ts,c :: l=>match putT ts c with
  | none=>none
  | some ts'=>fillT ts' l
theorem fold_len_ge:∀ (l acc:List Cel),acc.length≤(l.foldl putC acc).length
 | [],_=>Nat.le_refl _
 | c :: l,acc=>Nat.le_trans (putC_len_ge c acc) (fold_len_ge l (putC acc c))
theorem fill_some:∀ (l:List Cel) {ts ts':List (Option Cel)},InvT ts→fillT ts l=some ts'→InvT ts'∧grpR (cellsT ts')=l.foldl putC (grpR (cellsT ts))∧ts'.length=ts.length
 | [],ts,ts',hI,h=>by simp only[fillT,Option.some.injEq] at h;subst h;exact⟨hI,rfl,rfl⟩
 | c :: l,ts,ts',hI,h=>by
  unfold fillT at h
  split at h
  ·cases h
  ·rename_i t2 ht
   obtain⟨h1,h2,h3⟩:=put_grp hI ht
   obtain⟨h4,h5,h6⟩:=fill_some l h1 h
   exact⟨h4,by rw[h5,h2];rfl,h6.trans h3⟩
theorem fill_none:∀ (l:List Cel) {ts:List (Option Cel)},InvT ts→fillT ts l=none→ts.length<(l.foldl putC (grpR (cellsT ts))).length
 | [],ts,_,h=>by simp[fillT] at h
 | c :: l,ts,hI,h=>by
  unfold fillT at h
  split at h
  ·rename_i ht
   obtain⟨h1,h2⟩:=put_none ht
   have h3:=putC_len_new c (grpR (cellsT ts)) fun x hx e=>by
    obtain⟨z,hz,e2⟩:=(grp_mem_key _ c.key).1 ⟨x,hx,e⟩
    exact h2 z hz e2
   have h4:=fold_len_ge l (putC (grpR (cellsT ts)) c)
   rw[inv_len hI] at h3
   rw[List.foldl_cons]
   omega
  ·rename_i t2 ht
   obtain⟨h1,h2,h3⟩:=put_grp hI ht
   have:=fill_none l h1 h
   rw[h2,h3] at this
   exact this
theorem fill_fits (l:List Cel) (n:Nat):(∃ ts,fillT (List.replicate n none) l=some ts) ↔ (grpR l).length≤n:=by
 constructor
 ·rintro ⟨ts,h⟩
  obtain⟨h1,h2,h3⟩:=fill_some l (inv_new n) h
  rw[cells_new] at h2
  have h4:=inv_len h1
  have h5:=cells_le ts
  rw[h2] at h4
  rw[h3,List.length_replicate] at h5
  show (l.foldl putC []).length≤n
  exact h4 ▸ h5
 ·intro h
  cases hf:fillT (List.replicate n none) l with
  | some ts=>exact⟨ts,rfl⟩
  | none =>
   have:=fill_none l (inv_new n) hf
   rw[cells_new,List.length_replicate] at this
   have e:(l.foldl putC (grpR [])).length=(grpR l).length:=rfl
   omega
end Go.Proofs.YtnjlkhhcfiedbaaGreatDoor
namespace Go.Proofs.YtnjlkhhcfiedbaaGreatDoor
open Go.RowKit
def valK (c:Cel) (a:Nat):Int:=c.key[a]?.getD 0
def byV (l:List Cel) (a v:Nat):List Cel:=l.filter fun c=>valK c a == (v:Int)
structure Fit (d a:Nat) (l:List Cel):Prop where
 len:∀ c ∈ l,c.key.length=d
 val:∀ c ∈ l,∀ v ∈ c.key,0≤v∧v≤15
 same:∀ c ∈ l,∀ c' ∈ l,c.key.take a=c'.key.take a
theorem valK_in {d a:Nat} {l:List Cel} (h:Fit d a l) (hb:a<d) {c:Cel} (hc:c ∈ l):0≤valK c a∧valK c a≤15:=by
 have hl:=h.len c hc
 have:c.key[a]? = some c.key[a]:=List.getElem?_eq_getElem (by omega)
 unfold valK
 rw[this]
 exact h.val c hc _ (List.getElem_mem _)
theorem mem_byV {l:List Cel} {a v:Nat} {c:Cel}:c ∈ byV l a v ↔ c ∈ l∧valK c a=(v:Int):=by
 unfold byV
 rw[List.mem_filter,beq_iff_eq]
theorem key_at {d a:Nat} {l:List Cel} (h:Fit d a l) (hb:a<d) {c:Cel} (hc:c ∈ l):c.key[a]? = some (valK c a):=by
 have:c.key[a]? = some (c.key[a]'(by rw[h.len c hc];exact hb)):=List.getElem?_eq_getElem _
 unfold valK
 rw[this];rfl
theorem Fit.by {d a v:Nat} {l:List Cel} (h:Fit d a l) (hb:a<d):Fit d (a+1) (byV l a v) :=
 ⟨fun c hc=>h.len c (mem_byV.1 hc).1,fun c hc=>h.val c (mem_byV.1 hc).1,fun c hc c' hc'=>by
  obtain⟨h1,h2⟩:=mem_byV.1 hc
  obtain⟨h3,h4⟩:=mem_byV.1 hc'
  rw[List.take_add_one,List.take_add_one,h.same c h1 c' h3,key_at h hb h1,key_at h hb h3,h2,h4]⟩
theorem cmpL_at:∀ {a:Nat} {s t:List Int} {x y:Int},s.take a=t.take a→s[a]? = some x→t[a]? = some y→x<y→cmpL s t<0
 | 0,[],_,x,y,_,h1,_,_=>by simp at h1
 | 0,_ :: _,[],x,y,_,_,h2,_=>by simp at h2
 | 0,x' :: s,y' :: t,x,y,_,h1,h2,h=>by
  simp only[List.getElem?_cons_zero,Option.some.injEq] at h1 h2
  subst h1 h2
  have:cmpI x' y'=-1:=by unfold cmpI;rw[if_pos h]
  unfold cmpL
  rw[this,if_neg (by omega)];omega
 | a+1,[],_,x,y,_,h1,_,_=>by simp at h1
 | a+1,_ :: _,[],x,y,_,_,h2,_=>by simp at h2
 | a+1,x' :: s,y' :: t,x,y,h0,h1,h2,h=>by
  simp only[List.take_succ_cons,List.cons.injEq] at h0
  obtain⟨rfl,h0⟩:=h0
  unfold cmpL
  rw[if_pos (cmpI_self x')]
  exact cmpL_at h0 (by simpa using h1) (by simpa using h2) h
theorem filter_step {α:Type} (f:α→Int) (n:Nat):∀ (l:List α),(l.filter fun c=>decide (f c<((n+1:Nat):Int))).Perm ((l.filter fun c=>decide (f c<(n:Int))) ++ l.filter fun c=>f c == (n:Int))
 | []=>List.Perm.refl _
 | c :: l=>by
  have ih:=filter_step f n l
  rcases Int.lt_trichotomy (f c) (n:Int) with h | h | h
  ·rw[List.filter_cons_of_pos (by simp;omega),List.filter_cons_of_pos (by simpa using h),List.filter_cons_of_neg (by simp;omega)]
   exact List.Perm.cons _ ih
  ·rw[List.filter_cons_of_pos (by simp;omega),List.filter_cons_of_neg (by simp;omega),List.filter_cons_of_pos (by simpa using h)]
   exact (List.Perm.cons _ ih).trans List.perm_middle.symm
  ·rw[List.filter_cons_of_neg (by simp;omega),List.filter_cons_of_neg (by simp;omega),List.filter_cons_of_neg (by simp;omega)]
   exact ih
theorem byV_perm (l:List Cel) (a:Nat) (h0:∀ c ∈ l,0≤valK c a):∀ n:Nat,(l.filter fun c=>decide (valK c a<(n:Int))).Perm ((List.range n).flatMap (byV l a))
 | 0=>by
  rw[List.filter_eq_nil_iff.2 fun c hc=>by have:=h0 c hc;simp;omega]
  exact List.Perm.refl _
 | n+1=>by
  rw[List.range_succ,List.flatMap_append]
  refine (filter_step (fun c=>valK c a) n l).trans (List.Perm.append (byV_perm l a h0 n) ?_)
  simp only[List.flatMap_cons,List.flatMap_nil,List.append_nil]
  exact List.Perm.refl _
theorem byV_all {d a:Nat} {l:List Cel} (h:Fit d a l) (hb:a<d):l.Perm ((List.range 16).flatMap (byV l a)):=by
 have:=byV_perm l a (fun c hc=>(valK_in h hb hc).1) 16
 rwa [List.filter_eq_self.2 fun c hc=>by have:=(valK_in h hb hc).2;simp;omega] at this
theorem grp_flat (f:Nat→List Cel):∀ n:Nat,grpR ((List.range n).flatMap fun v=>grpR (f v))=grpR ((List.range n).flatMap f)
 | 0=>rfl
 | n+1=>by
  rw[List.range_succ,List.flatMap_append,List.flatMap_append]
  simp only[List.flatMap_cons,List.flatMap_nil,List.append_nil]
  rw[grpR_parts]
  have:=grp_flat f n
  unfold grpR at this ⊢
  rw[List.foldl_append,List.foldl_append,this]
theorem rise_flat {d a:Nat} {l:List Cel} (h:Fit d a l) (hb:a<d):∀ n:Nat,RiseC ((List.range n).flatMap fun v=>grpR (byV l a v))
 | 0=>by simp[RiseC]
 | n+1=>by
  rw[List.range_succ,List.flatMap_append]
  simp only[List.flatMap_cons,List.flatMap_nil,List.append_nil]
  refine List.pairwise_append.2 ⟨rise_flat h hb n,grpR_rise _,fun x hx y hy=>?_⟩
  obtain⟨v,hv,hx⟩:=List.mem_flatMap.1 hx
  obtain⟨x',hx',ex⟩:=(grp_mem_key _ x.key).1 ⟨x,hx,rfl⟩
  obtain⟨y',hy',ey⟩:=(grp_mem_key _ y.key).1 ⟨y,hy,rfl⟩
  obtain⟨h1,h2⟩:=mem_byV.1 hx'
  obtain⟨h3,h4⟩:=mem_byV.1 hy'
  rw[← ex,← ey]
  exact cmpL_at (h.same x' h1 y' h3) (key_at h hb h1) (key_at h hb h3) (by have:=List.mem_range.1 hv;omega)
theorem grp_by {d a:Nat} {l:List Cel} (h:Fit d a l) (hb:a<d):grpR l=(List.range 16).flatMap fun v=>grpR (byV l a v):=by
 rw[grpR_perm (byV_all h hb),← grp_flat]
 exact grp_same _ [] (by simpa using rise_flat h hb 16)
def partsP (slots:Nat):Nat→Nat→List Cel→List (List Cel)
 | 0,_,l=>[grpR l]
 | f+1,a,l=>if (grpR l).length≤slots then [grpR l] else (List.range 16).flatMap fun v=>if byV l a v=[] then [] else partsP slots f (a+1) (byV l a v)
theorem flat_flat {α β:Type} (f:α→List (List β)):∀ l:List α,(l.flatMap f).flatten=l.flatMap fun v=>(f v).flatten
 | []=>rfl
 | v :: l=>by rw[List.flatMap_cons,List.flatten_append,flat_flat f l,List.flatMap_cons]
theorem parts_flat (slots d:Nat):∀ (f a:Nat) (l:List Cel),a+f=d→Fit d a l→(partsP slots f a l).flatten=grpR l
 | 0,a,l,_,_=>by simp[partsP]
 | f+1,a,l,hd,h=>by
  unfold partsP
  split
  ·simp
  ·rw[flat_flat,grp_by h (by omega)]
   congr 1
   funext v
   split
   ·rename_i e;rw[e];rfl
   ·exact parts_flat slots d f (a+1) (byV l a v) (by omega) (h.by (by omega))
theorem fit_end {d:Nat} {l:List Cel} (h:Fit d d l):(grpR l).length≤1:=by
 have hr:=grpR_rise l
 match hg:grpR l with
 | []=>simp
 | [x]=>simp
 | x :: y :: t =>
  exfalso
  rw[hg] at hr
  have hxy:=(List.pairwise_cons.1 hr).1 y (by simp)
  obtain⟨x',hx',ex⟩:=(grp_mem_key l x.key).1 ⟨x,by rw[hg];simp,rfl⟩
  obtain⟨y',hy',ey⟩:=(grp_mem_key l y.key).1 ⟨y,by rw[hg];simp,rfl⟩
  have:=h.same x' hx' y' hy'
  rw[List.take_of_length_le (by rw[h.len x' hx'];exact Nat.le_refl _),List.take_of_length_le (by rw[h.len y' hy'];exact Nat.le_refl _),ex,ey] at this
  rw[this,cmpL_self] at hxy
  omega
theorem grp_pos {l:List Cel} (h:l ≠ []):1≤(grpR l).length:=by
 obtain⟨c,hc⟩:=List.exists_mem_of_ne_nil l h
 obtain⟨x,hx,_⟩:=(grp_mem_key l c.key).2 ⟨c,hc,rfl⟩
 exact List.length_pos_of_mem hx
theorem parts_each (slots d:Nat) (hs:1≤slots):∀ (f a:Nat) (l:List Cel),a+f=d→Fit d a l→l ≠ []→∀ p ∈ partsP slots f a l,1≤p.length∧p.length≤slots
 | 0,a,l,hd,h,hne,p,hp=>by
  simp only[partsP,List.mem_singleton] at hp
  subst hp
  have:a=d:=by omega
  subst this
  have:=fit_end h
  exact⟨grp_pos hne,by omega⟩
 | f+1,a,l,hd,h,hne,p,hp=>by
  unfold partsP at hp
  split at hp
  ·rename_i hle
   simp only[List.mem_singleton] at hp
   subst hp
   exact⟨grp_pos hne,hle⟩
  ·obtain⟨v,hv,hp⟩:=List.mem_flatMap.1 hp
   split at hp
   ·simp at hp
   ·rename_i hnv
    exact parts_each slots d hs f (a+1) (byV l a v) (by omega) (h.by (by omega)) hnv p hp
theorem parts_pos (slots d:Nat):∀ (f a:Nat) (l:List Cel),a+f=d→Fit d a l→1≤(partsP slots f a l).length
 | 0,_,_,_,_=>by simp[partsP]
 | f+1,a,l,hd,h=>by
  unfold partsP
  split
  ·simp
  ·rename_i hn
   have hne:l ≠ []:=fun e=>by subst e;exact hn (by simp[grpR])
   obtain⟨c,hc⟩:=List.exists_mem_of_ne_nil l hne
   obtain⟨v0,v1⟩:=valK_in h (by omega) hc
   have hb:c ∈ byV l a (valK c a).toNat:=mem_byV.2 ⟨hc,by omega⟩
   have:=parts_pos slots d f (a+1) (byV l a (valK c a).toNat) (by omega) (h.by (by omega))
   obtain⟨p,hp⟩:=List.exists_mem_of_length_pos this
   refine List.length_pos_of_mem (List.mem_flatMap.2 ⟨(valK c a).toNat,List.mem_range.2 (by omega),?_⟩) (a:=p)
   rw[if_neg (List.ne_nil_of_mem hb)]
   exact hp
theorem parts_one {slots d f a:Nat} {l:List Cel} (hs:1≤slots) (hd:a+f=d) (h:Fit d a l):(partsP slots f a l).length=1 ↔ (grpR l).length≤slots:=by
 constructor
 ·intro h1
  have hf:=parts_flat slots d f a l hd h
  match hp:partsP slots f a l,h1 with
  | [p],_ =>
   rw[hp] at hf
   simp only[List.flatten_cons,List.flatten_nil,List.append_nil] at hf
   by_cases hne:l=[]
   ·subst hne;simp[grpR]
   ·rw[← hf]
    exact (parts_each slots d hs f a l hd h hne p (by rw[hp];simp)).2
 ·intro h1
  cases f with
  | zero=>simp[partsP]
  | succ f=>unfold partsP;rw[if_pos h1];rfl
theorem parts_skip {slots d f a:Nat} {l:List Cel} (hd:a+(f+1)=d) (h:Fit d a l) (hs:∀ c ∈ l,∀ c' ∈ l,valK c a=valK c' a) (hn:¬ (grpR l).length≤slots):partsP slots (f+1) a l=partsP slots f (a+1) l:=by
 have hne:l ≠ []:=fun e=>by subst e;exact hn (by simp[grpR])
 obtain⟨c,hc⟩:=List.exists_mem_of_ne_nil l hne
 obtain⟨v0,v1⟩:=valK_in h (by omega) hc
 obtain⟨u,hu⟩:∃ u:Nat,valK c a=(u:Int):=⟨(valK c a).toNat,by omega⟩
 have hall:byV l a u=l:=List.filter_eq_self.2 fun c' hc'=>by rw[hs c' hc' c hc,hu];simp
 have hnone:∀ v,v ≠ u→byV l a v=[]:=fun v hv=>List.filter_eq_nil_iff.2 fun c' hc'=>by rw[hs c' hc' c hc,hu];simp;omega
 have key:∀ n:Nat,((List.range n).flatMap fun v=>if byV l a v=[] then [] else partsP slots f (a+1) (byV l a v))=if u<n then partsP slots f (a+1) l else []:=by
  intro n
  induction n with
  | zero=>simp
  | succ n ih =>
   rw[List.range_succ,List.flatMap_append,ih]
   simp only[List.flatMap_cons,List.flatMap_nil,List.append_nil]
   by_cases hun:u=n
   ·subst hun
    rw[if_neg (by omega),hall,if_neg hne,if_pos (by omega)];rfl
   ·rw[hnone n (fun e=>hun e.symm),if_pos rfl,List.append_nil]
    by_cases h3:u<n
    ·rw[if_pos h3,if_pos (by omega)]
    ·rw[if_neg h3,if_neg (by omega)]
 conv=>lhs;unfold partsP
 rw[if_neg hn,key 16,if_pos (by omega)]
end Go.Proofs.YtnjlkhhcfiedbaaGreatDoor
namespace Go.Proofs.YtnjlkhhcfiedbaaGreatDoor
open Go.RowKit
def hasK (H:List Cel) (c:Cel):Bool:=H.any fun x=>x.key == c.key
def runsP (m:Nat):List Cel→List Cel→List (List Cel)
 | H,[]=>if H=[] then [] else [H]
 | H,c :: l=>if hasK H c then runsP m (putC H c) l else if H.length=m then H :: runsP m [c] l else runsP m (putC H c) l
theorem hasK_iff {H:List Cel} {c:Cel}:hasK H c=true ↔ ∃ x ∈ H,x.key=c.key:=by
 unfold hasK
 rw[List.any_eq_true]
 constructor
 ·rintro ⟨x,hx,e⟩;exact⟨x,hx,by simpa using e⟩
 ·rintro ⟨x,hx,e⟩;exact⟨x,hx,by simpa using e⟩
theorem putC_len_has {H:List Cel} {c:Cel} (hr:RiseC H) (h:hasK H c=true):(putC H c).length=H.length:=putC_len_old c H hr (hasK_iff.1 h)
theorem putC_len_hasnt {H:List Cel} {c:Cel} (h:hasK H c=false):(putC H c).length=H.length+1 :=
 putC_len_new c H fun x hx e=>by rw[hasK_iff.2 ⟨x,hx,e⟩] at h;cases h
theorem rise_one (c:Cel):RiseC [c]:=List.pairwise_singleton _ _
theorem putC_ne (H:List Cel) (c:Cel):putC H c ≠ []:=by
 cases H with
 | nil=>simp[putC]
 | cons x l =>
  simp only[putC]
  split
  ·simp
  ·split <;> simp
theorem runs_each {m:Nat} (hm:1≤m):∀ (l H:List Cel),RiseC H→H.length≤m→∀ p ∈ runsP m H l,RiseC p∧1≤p.length∧p.length≤m
 | [],H,hr,hl,p,hp=>by
  unfold runsP at hp
  split at hp
  ·simp at hp
  ·rename_i hne
   simp only[List.mem_singleton] at hp
   subst hp
   exact⟨hr,List.length_pos_iff.2 hne,hl⟩
 | c :: l,H,hr,hl,p,hp=>by
  unfold runsP at hp
  split at hp
  ·rename_i h
   exact runs_each hm l _ (putC_rise c H hr) (by rw[putC_len_has hr h];exact hl) p hp
  ·rename_i h
   split at hp
   ·rename_i he
    rcases List.mem_cons.1 hp with rfl | hp
    ·exact⟨hr,by omega,hl⟩
    ·exact runs_each hm l [c] (rise_one c) (by simpa using hm) p hp
   ·exact runs_each hm l _ (putC_rise c H hr) (by rw[putC_len_hasnt (by simpa using h)];omega) p hp
theorem runs_all {m:Nat}:∀ (l H acc:List Cel),RiseC H→(runsP m H l).flatten.foldl putC acc=l.foldl putC (H.foldl putC acc)
 | [],H,acc,_=>by
  unfold runsP
  split
  ·rename_i e;subst e;rfl
  ·simp
 | c :: l,H,acc,hr=>by
  have hput:(putC H c).foldl putC acc=putC (H.foldl putC acc) c:=by
   have:=foldl_put goes_id c H acc
   simpa using this
  unfold runsP
  split
  ·rw[runs_all l _ acc (putC_rise c H hr),hput];rfl
  ·split
   ·rw[List.flatten_cons,List.foldl_append,runs_all l [c] _ (rise_one c)];rfl
   ·rw[runs_all l _ acc (putC_rise c H hr),hput];rfl
theorem runs_grp (m:Nat) (l:List Cel):grpR (runsP m [] l).flatten=grpR l:=runs_all l [] [] (by simp[RiseC])
theorem runs_one {m:Nat}:∀ (l H:List Cel),RiseC H→(l.foldl putC H).length≤m→H ≠ []∨l ≠ []→runsP m H l=[l.foldl putC H]
 | [],H,_,_,h=>by
  rcases h with h | h
  ·unfold runsP;rw[if_neg h];rfl
  ·exact absurd rfl h
 | c :: l,H,hr,hl,_=>by
  unfold runsP
  split
  ·exact runs_one l _ (putC_rise c H hr) hl (.inl (putC_ne H c))
  ·rename_i h
   have h1:=putC_len_hasnt (H:=H) (c:=c) (by simpa using h)
   have h2:=fold_len_ge l (putC H c)
   rw[List.foldl_cons] at hl
   rw[if_neg (by omega)]
   exact runs_one l _ (putC_rise c H hr) hl (.inl (putC_ne H c))
end Go.Proofs.YtnjlkhhcfiedbaaGreatDoor
namespace Go.Proofs.YtnjlkhhcfiedbaaGreatDoor
open Go.RowKit
def ixK (H:List Cel) (k:List Int):Option Nat:=H.findIdx? fun x=>x.key == k
def dealS (m:Nat) (s:List (List Cel) × List Cel) (c:Cel):List (List Cel) × List Cel:=match ixK s.2 c.key with
 | some i=>(s.1,s.2.set i (join2 (s.2[i]?.getD c) c))
 | none=>if s.2.length=m then (s.1 ++ [s.2],[c]) else (s.1,s.2 ++ [c])
def dealE (s:List (List Cel) × List Cel):List (List Cel):=if s.2=[] then s.1 else s.1 ++ [s.2]
def Apart (H:List Cel):Prop:=H.Pairwise fun x y=>x.key ≠ y.key
theorem ixK_some {H:List Cel} {k:List Int} {i:Nat} (h:ixK H k=some i):∃ x,H[i]? = some x∧x.key=k:=by
 unfold ixK at h
 rw[List.findIdx?_eq_some_iff_getElem] at h
 obtain⟨hi,h1,-⟩:=h
 exact⟨H[i],List.getElem?_eq_getElem hi,by simpa using h1⟩
theorem ixK_none {H:List Cel} {k:List Int} (h:ixK H k=none):∀ x ∈ H,x.key ≠ k:=by
 unfold ixK at h
 rw[List.findIdx?_eq_none_iff] at h
 intro x hx e
 have:=h x hx
 rw[e] at this
 simp at this
theorem set_keys {H:List Cel} {i:Nat} {x y:Cel} (hx:H[i]? = some x) (e:y.key=x.key):(H.set i y).map (·.key)=H.map (·.key):=by
 apply List.ext_getElem?
 intro j
 rw[List.map_set,List.getElem?_set]
 split
 ·rename_i h
  subst h
  split
  ·rw[List.getElem?_map,hx,e];rfl
  ·rename_i h2
   rw[List.getElem?_eq_none (by omega)]
 ·rfl
theorem apart_iff (H:List Cel):Apart H ↔ (H.map (·.key)).Nodup:=by
 unfold Apart List.Nodup
 rw[List.pairwise_map]
theorem Apart.set {H:List Cel} (ha:Apart H) {i:Nat} {x y:Cel} (hx:H[i]? = some x) (e:y.key=x.key):Apart (H.set i y):=by
 rw[apart_iff] at ha ⊢
 rw[set_keys hx e]
 exact ha
theorem Apart.snoc {H:List Cel} (ha:Apart H) {c:Cel} (h:∀ x ∈ H,x.key ≠ c.key):Apart (H ++ [c]):=by
 refine List.pairwise_append.2 ⟨ha,List.pairwise_singleton _ _,fun x hx y hy=>?_⟩
 rw[List.mem_singleton] at hy
 subst hy
 exact h x hx
theorem grp_set {H:List Cel} {i:Nat} {x c:Cel} (hx:H[i]? = some x) (e:x.key=c.key):grpR (H.set i (join2 x c))=putC (grpR H) c:=by
 obtain⟨hi,rfl⟩:=List.getElem?_eq_some_iff.1 hx
 have e1:H.set i (join2 H[i] c)=H.take i ++ join2 H[i] c :: H.drop (i+1):=by rw[List.set_eq_take_append_cons_drop,if_pos hi]
 have e2:H=H.take i ++ H[i] :: H.drop (i+1):=by rw[← List.drop_eq_getElem_cons hi,List.take_append_drop]
 have p1:(H.take i ++ join2 H[i] c :: H.drop (i+1)).Perm ((H.take i ++ H.drop (i+1)) ++ [join2 H[i] c]):=by
  refine (List.perm_middle).trans ?_
  exact (List.perm_append_singleton _ _).symm
 have p2:(H.take i ++ H[i] :: H.drop (i+1)).Perm ((H.take i ++ H.drop (i+1)) ++ [H[i]]):=by
  refine (List.perm_middle).trans ?_
  exact (List.perm_append_singleton _ _).symm
 have g1:grpR (H.set i (join2 H[i] c))=putC (grpR (H.take i ++ H.drop (i+1))) (join2 H[i] c):=by
  rw[e1,grpR_perm p1,grpR_snoc]
 have g2:grpR H=putC (grpR (H.take i ++ H.drop (i+1))) H[i]:=by
  rw[← grpR_snoc,← grpR_perm p2,← e2]
 rw[g1,g2]
 exact (putC_join _ _ e _).symm
theorem hasK_grp (H:List Cel) (c:Cel):hasK (grpR H) c=(ixK H c.key).isSome:=by
 cases h:ixK H c.key with
 | none =>
  have:=ixK_none h
  cases hh:hasK (grpR H) c with
  | false=>rfl
  | true =>
   obtain⟨x,hx,e⟩:=(grp_mem_key H c.key).1 (hasK_iff.1 hh)
   exact absurd e (this x hx)
 | some i =>
  obtain⟨x,hx,e⟩:=ixK_some h
  exact hasK_iff.2 ((grp_mem_key H c.key).2 ⟨x,List.mem_of_getElem? hx,e⟩)
theorem deal_runs {m:Nat} (hm:1≤m):∀ (l:List Cel) (Ps:List (List Cel)) (H:List Cel),Apart H→(dealE (l.foldl (dealS m) (Ps,H))).map grpR=Ps.map grpR ++ runsP m (grpR H) l
 | [],Ps,H,_=>by
  unfold dealE runsP
  by_cases h:H=[]
  ·rw[List.foldl_nil,if_pos h,if_pos (by rw[h];rfl),List.append_nil]
  ·rw[List.foldl_nil,if_neg h,if_neg (fun e=>h (by
    cases H with
    | nil=>rfl
    | cons x t =>
     have:=grp_pos (l:=x :: t) (by simp)
     rw[e] at this
     simp at this)),List.map_append]
   rfl
 | c :: l,Ps,H,ha=>by
  rw[List.foldl_cons,runsP,hasK_grp]
  cases h:ixK H c.key with
  | some i =>
   obtain⟨x,hx,e⟩:=ixK_some h
   have hs:dealS m (Ps,H) c=(Ps,H.set i (join2 x c)):=by unfold dealS;simp only[h,hx,Option.getD_some]
   rw[hs,deal_runs hm l Ps _ (ha.set hx (y:=join2 x c) rfl),grp_set hx e]
   simp
  | none =>
   have hn:=ixK_none h
   have hl:(grpR H).length=H.length:=grp_len_apart H ha
   simp only[Option.isSome_none,Bool.false_eq_true,if_false,hl]
   by_cases he:H.length=m
   ·have hs:dealS m (Ps,H) c=(Ps ++ [H],[c]):=by unfold dealS;simp only[h,if_pos he]
    rw[hs,if_pos he,deal_runs hm l _ [c] (List.pairwise_singleton _ _),List.map_append,List.append_assoc]
    rfl
   ·have hs:dealS m (Ps,H) c=(Ps,H ++ [c]):=by unfold dealS;simp only[h,if_neg he]
    rw[hs,if_neg he,deal_runs hm l Ps _ (ha.snoc hn),grpR_snoc]
theorem deal_all {m:Nat} {Q:Cel→Prop} (hj:∀ a b,Q a→Q b→Q (join2 a b)):∀ (l:List Cel) (s:List (List Cel) × List Cel),(∀ c ∈ l,Q c)→(∀ p ∈ s.1,∀ c ∈ p,Q c)→(∀ c ∈ s.2,Q c)→(∀ p ∈ (l.foldl (dealS m) s).1,∀ c ∈ p,Q c)∧∀ c ∈ (l.foldl (dealS m) s).2,Q c
 | [],s,_,h1,h2=>⟨h1,h2⟩
 | c :: l,s,h0,h1,h2=>by
  rw[List.foldl_cons]
  have hc:=h0 c List.mem_cons_self
  refine deal_all hj l _ (fun y hy=>h0 y (List.mem_cons_of_mem _ hy)) ?_ ?_ <;> unfold dealS
  ·split
   ·exact h1
   ·split
    ·intro p hp
     rcases List.mem_append.1 hp with hp | hp
     ·exact h1 p hp
     ·rw[List.mem_singleton] at hp
      subst hp
      exact h2
    ·exact h1
  ·split
   ·rename_i i h
    obtain⟨x,hx,-⟩:=ixK_some h
    intro y hy
    rcases List.mem_or_eq_of_mem_set hy with hy | hy
    ·exact h2 y hy
    ·subst hy
     rw[hx]
     exact hj x c (h2 x (List.mem_of_getElem? hx)) hc
   ·split
    ·intro y hy
     rw[List.mem_singleton] at hy
     subst hy
     exact hc
    ·intro y hy
     rcases List.mem_append.1 hy with hy | hy
     ·exact h2 y hy
     ·rw[List.mem_singleton] at hy
      subst hy
      exact hc
theorem deal_apart {m:Nat}:∀ (l:List Cel) (s:List (List Cel) × List Cel),(∀ p ∈ s.1,Apart p∧p ≠ [])→Apart s.2→(1≤m)→(∀ p ∈ (l.foldl (dealS m) s).1,Apart p∧p ≠ [])∧Apart (l.foldl (dealS m) s).2
 | [],s,h1,h2,_=>⟨h1,h2⟩
 | c :: l,s,h1,h2,hm=>by
  rw[List.foldl_cons]
  have hS:(∀ p ∈ (dealS m s c).1,Apart p∧p ≠ [])∧Apart (dealS m s c).2:=by
   unfold dealS
   cases h:ixK s.2 c.key with
   | some i =>
    obtain⟨x,hx,e⟩:=ixK_some h
    refine⟨h1,?_⟩
    simp only[hx,Option.getD_some]
    exact h2.set hx rfl
   | none =>
    have hn:=ixK_none h
    by_cases he:s.2.length=m
    ·simp only[if_pos he]
     refine⟨fun p hp=>?_,List.pairwise_singleton _ _⟩
     rcases List.mem_append.1 hp with hp | hp
     ·exact h1 p hp
     ·rw[List.mem_singleton] at hp
      subst hp
      exact⟨h2,fun e=>by rw[e] at he;simp at he;omega⟩
    ·simp only[if_neg he]
     exact⟨h1,h2.snoc hn⟩
  exact deal_apart l _ hS.1 hS.2 hm
end Go.Proofs.YtnjlkhhcfiedbaaGreatDoor
namespace Go.Proofs.YtnjlkhhcfiedbaaGreatDoor
open Go.RowKit
theorem byV_same {l l':List Cel} (h:l.Perm l') (a v:Nat):(byV l a v).Perm (byV l' a v):=h.filter _
theorem Fit.perm {d a:Nat} {l l':List Cel} (h:Fit d a l) (hp:l.Perm l'):Fit d a l' :=
 ⟨fun c hc=>h.len c (hp.mem_iff.2 hc),fun c hc=>h.val c (hp.mem_iff.2 hc),fun c hc c' hc'=>h.same c (hp.mem_iff.2 hc) c' (hp.mem_iff.2 hc')⟩
theorem parts_perm (slots:Nat):∀ (f a:Nat) (l l':List Cel),l.Perm l'→partsP slots f a l=partsP slots f a l'
 | 0,a,l,l',h=>by unfold partsP;rw[grpR_perm h]
 | f+1,a,l,l',h=>by
  unfold partsP
  rw[grpR_perm h]
  split
  ·rfl
  ·congr 1
   funext v
   have hb:=byV_same h a v
   rw[parts_perm slots f (a+1) _ _ hb]
   by_cases e:byV l a v=[]
   ·rw[if_pos e,if_pos (by rw[e] at hb;exact hb.symm.eq_nil)]
   ·rw[if_neg e,if_neg (fun e2=>e (by rw[e2] at hb;exact hb.eq_nil))]
def RiseV (a:Nat) (l:List Cel):Prop:=l.Pairwise fun x y=>valK x a≤valK y a
def runsK (a:Nat):Nat→List Cel→List (List Cel)
 | 0,_=>[]
 | _+1,[]=>[]
 | f+1,c :: t=>(c :: t.takeWhile fun x=>valK x a == valK c a) :: runsK a f (t.dropWhile fun x=>valK x a == valK c a)
theorem take_eq {a:Nat} {v:Int}:∀ {t:List Cel},RiseV a t→(∀ x ∈ t,v≤valK x a)→t.takeWhile (fun x=>valK x a == v)=t.filter (fun x=>valK x a == v)∧t.dropWhile (fun x=>valK x a == v)=t.filter (fun x=>decide (v<valK x a))
 | [],_,_=>⟨rfl,rfl⟩
 | x :: t,h,hv=>by
  obtain⟨h1,h2⟩:=List.pairwise_cons.1 h
  by_cases e:valK x a=v
  ·obtain⟨i1,i2⟩:=take_eq h2 fun y hy=>hv y (by simp[hy])
   rw[List.takeWhile_cons_of_pos (by simp[e]),List.dropWhile_cons_of_pos (by simp[e]),List.filter_cons_of_pos (by simp[e]),List.filter_cons_of_neg (by simp;omega),i1,i2]
   exact⟨rfl,rfl⟩
  ·have hx:=hv x (by simp)
   have ha:∀ y ∈ t,v<valK y a:=fun y hy=>by have:=h1 y hy;omega
   rw[List.takeWhile_cons_of_neg (by simp[e]),List.dropWhile_cons_of_neg (by simp[e]),List.filter_cons_of_neg (by simp[e]),List.filter_cons_of_pos (by simp;omega)]
   refine⟨(List.filter_eq_nil_iff.2 fun y hy=>by have:=ha y hy;simp;omega).symm,?_⟩
   rw[List.filter_eq_self.2 fun y hy=>by simpa using ha y hy]
theorem runs_by (a:Nat):∀ (n f u:Nat) (l:List Cel),l.length≤f→u+n=16→RiseV a l→(∀ x ∈ l,(u:Int)≤valK x a∧valK x a≤15)→runsK a f l=((List.range' u n).map (byV l a)).filter fun p=>!p.isEmpty
 | 0,f,u,l,_,hu,_,hv=>by
  have:l=[]:=by
   cases l with
   | nil=>rfl
   | cons x t=>have:=hv x (by simp);omega
  subst this
  cases f <;> rfl
 | n+1,f,u,[],hf,hu,h,hv=>by
  have hb:∀ v,byV [] a v=[]:=fun v=>rfl
  have:((List.range' u (n+1)).map (byV [] a)).filter (fun p=>!p.isEmpty)=[]:=List.filter_eq_nil_iff.2 fun p hp=>by
   obtain⟨v,_,rfl⟩:=List.mem_map.1 hp
   simp[hb]
  rw[this]
  cases f <;> rfl
 | n+1,f+1,u,c :: t,hf,hu,h,hv=>by
  obtain⟨h1,h2⟩:=List.pairwise_cons.1 h
  have hc:=hv c (by simp)
  by_cases e:valK c a=(u:Int)
  ·have ht:∀ x ∈ t,valK c a≤valK x a:=h1
   obtain⟨e1,e2⟩:=take_eq h2 ht
   have hb:byV (c :: t) a u=c :: t.filter (fun x=>valK x a == valK c a):=by
    unfold byV
    rw[List.filter_cons_of_pos (by simp[e]),e]
   have hrest:∀ v,u<v→byV (c :: t) a v=byV (t.filter (fun x=>decide (valK c a<valK x a))) a v:=fun v hvu=>by
    unfold byV
    rw[List.filter_cons_of_neg (by simp[e];omega),List.filter_filter]
    apply List.filter_congr
    intro x hx
    by_cases e3:valK x a=(v:Int)
    ·simp[e3,e];omega
    ·simp[e3]
   rw[List.range'_succ,List.map_cons,List.filter_cons_of_pos (by rw[hb];rfl),hb]
   unfold runsK
   rw[e1,e2]
   congr 1
   rw[runs_by a n f (u+1) _ (by
    have:=List.length_filter_le (fun x=>decide (valK c a<valK x a)) t
    simp only[List.length_cons] at hf
    omega) (by omega) (h2.filter _) (fun x hx=>by
    obtain⟨hx1,hx2⟩:=List.mem_filter.1 hx
    have:=hv x (by simp[hx1])
    simp only[decide_eq_true_eq] at hx2
    omega)]
   congr 1
   apply List.map_congr_left
   intro v hv2
   have:=List.mem_range'_1.1 hv2
   exact (hrest v (by omega)).symm
  ·have hb:byV (c :: t) a u=[]:=List.filter_eq_nil_iff.2 fun x hx=>by
    rcases List.mem_cons.1 hx with rfl | hx2
    ·simp[e]
    ·have:=h1 x hx2;simp;omega
   rw[List.range'_succ,List.map_cons,hb,List.filter_cons_of_neg (by simp)]
   exact runs_by a n (f+1) (u+1) (c :: t) hf (by omega) h fun x hx=>by
    have:=hv x hx
    rcases List.mem_cons.1 hx with rfl | hx2
    ·omega
    ·have:=h1 x hx2;omega
theorem flat_filter (g:List Cel→List (List Cel)):∀ ps:List (List Cel),(ps.filter fun p=>!p.isEmpty).flatMap g=ps.flatMap fun p=>if p=[] then [] else g p
 | []=>rfl
 | [] :: ps=>by rw[List.filter_cons_of_neg (by simp),List.flatMap_cons,if_pos rfl,flat_filter g ps];rfl
 | (c :: p) :: ps=>by rw[List.filter_cons_of_pos (by simp),List.flatMap_cons,List.flatMap_cons,if_neg (by simp),flat_filter g ps]
theorem parts_runs {slots d f a:Nat} {l:List Cel} (hd:a+(f+1)=d) (h:Fit d a l) (hr:RiseV a l) (hn:¬ (grpR l).length≤slots):partsP slots (f+1) a l=(runsK a l.length l).flatMap (partsP slots f (a+1)):=by
 rw[runs_by a 16 l.length 0 l (Nat.le_refl _) rfl hr (fun x hx=>by have:=valK_in h (by omega) hx;omega),flat_filter,List.flatMap_map]
 conv=>lhs;unfold partsP
 rw[if_neg hn,← List.range_eq_range']
theorem fit_lt {slots d a:Nat} {l:List Cel} (hs:1≤slots) (ha:a≤d) (h:Fit d a l) (hn:¬ (grpR l).length≤slots):a<d:=by
 rcases Nat.lt_or_ge a d with h1 | h1
 ·exact h1
 ·obtain rfl:a=d:=by omega
  have:=fit_end h
  omega
theorem Fit.next {d a:Nat} {l:List Cel} (h:Fit d a l) (hb:a<d) (hs:∀ c ∈ l,∀ c' ∈ l,valK c a=valK c' a):Fit d (a+1) l :=
 ⟨h.len,h.val,fun c hc c' hc'=>by rw[List.take_add_one,List.take_add_one,h.same c hc c' hc',key_at h hb hc,key_at h hb hc',hs c hc c' hc']⟩
theorem seek_step (ts:List (Option Cel)) (key:List Int) (i:Nat) (hi:i<ts.length):∃ t,ts[(plcN key ts.length+i) % ts.length]? = some t∧seekF ts key ((plcN key ts.length+i) % ts.length) (ts.length - i)=match t with
  | none=>some ((plcN key ts.length+i) % ts.length)
  | some c=>if c.key=key then some ((plcN key ts.length+i) % ts.length) else seekF ts key ((plcN key ts.length+(i+1)) % ts.length) (ts.length - (i+1)):=by
 have hl:(plcN key ts.length+i) % ts.length<ts.length:=Nat.mod_lt _ (by omega)
 refine⟨ts[(plcN key ts.length+i) % ts.length],List.getElem?_eq_getElem hl,?_⟩
 rw[show ts.length - i=(ts.length - (i+1))+1 by omega]
 conv=>lhs;unfold seekF
 rw[List.getElem?_eq_getElem hl]
 cases ts[(plcN key ts.length+i) % ts.length] with
 | none=>rfl
 | some c =>
  simp only
  rw[Nat.mod_add_mod,Nat.add_assoc]
theorem seek_start (ts:List (Option Cel)) (key:List Int) (h:0<ts.length):seekF ts key ((plcN key ts.length+0) % ts.length) (ts.length - 0)=seekT ts key:=by
 rw[Nat.add_zero,Nat.mod_eq_of_lt (plcN_lt key h),Nat.sub_zero];rfl
theorem round_ne {a n i:Nat} (ha:a<n) (h1:0<i) (h2:i<n):(a+i) % n ≠ a:=by
 rcases Nat.lt_or_ge (a+i) n with h | h
 ·rw[Nat.mod_eq_of_lt h];omega
 ·rw[Nat.mod_eq_sub_mod h,Nat.mod_eq_of_lt (by omega)];omega
theorem round_eq {a n:Nat} (ha:a<n):(a+n) % n=a:=by rw[Nat.add_mod_right,Nat.mod_eq_of_lt ha]
theorem round_next (a i n:Nat):((a+i) % n+1) % n=(a+(i+1)) % n:=by rw[Nat.mod_add_mod,Nat.add_assoc]
end Go.Proofs.YtnjlkhhcfiedbaaGreatDoor
namespace Go.Proofs.YtnjlkhhcfiedbaaGreatDoor
open Go.RowKit
def tellP (slots:Nat):Nat→Nat→List Cel→List (List Cel)
 | 0,_,G=>[G]
 | f+1,a,G=>if G.length≤slots then [G] else (runsK a G.length G).flatMap (tellP slots f (a+1))
theorem flat_congr {α β:Type} {f g:α→List β}:∀ {l:List α},(∀ x ∈ l,f x=g x)→l.flatMap f=l.flatMap g
 | [],_=>rfl
 | x :: l,h=>by rw[List.flatMap_cons,List.flatMap_cons,h x (by simp),flat_congr fun y hy=>h y (by simp[hy])]
theorem rise_self {G:List Cel} (h:RiseC G):grpR G=G:=by
 have:=grp_same G [] (by simpa using h)
 simpa [grpR] using this
theorem cmpL_val:∀ {a:Nat} {s t:List Int} {x y:Int},s.take a=t.take a→s[a]? = some x→t[a]? = some y→cmpL s t<0→x≤y:=by
 intro a s t x y h hx hy hc
 rcases Int.lt_or_le y x with hlt | hle
 ·have h1:=cmpL_at h.symm hy hx hlt
  have h2:=cmpL_anti s t
  omega
 ·exact hle
theorem rise_val {d a:Nat} {G:List Cel} (h:Fit d a G) (hb:a<d) (hr:RiseC G):RiseV a G:=by
 unfold RiseV
 refine List.Pairwise.imp_of_mem ?_ hr
 intro x y hx hy hc
 exact cmpL_val (h.same x hx y hy) (key_at h hb hx) (key_at h hb hy) hc
theorem tell_parts (slots d:Nat) (hs:1≤slots):∀ (f a:Nat) (G:List Cel),a+f=d→Fit d a G→RiseC G→tellP slots f a G=partsP slots f a G
 | 0,a,G,_,_,hr=>by
  unfold tellP partsP
  rw[rise_self hr]
 | f+1,a,G,hd,h,hr=>by
  by_cases hl:G.length≤slots
  ·unfold tellP partsP
   rw[rise_self hr,if_pos hl,if_pos hl]
  ·have hg:¬ (grpR G).length≤slots:=by rw[rise_self hr];exact hl
   have hb:a<d:=by omega
   have hv:=rise_val h hb hr
   rw[parts_runs hd h hv hg]
   unfold tellP
   rw[if_neg hl]
   have hrn:=runs_by a 16 G.length 0 G (Nat.le_refl _) (by omega) hv (fun x hx=>by have:=valK_in h hb hx;omega)
   rw[hrn]
   refine flat_congr ?_
   intro p hp
   obtain⟨v,-,rfl⟩:=List.mem_map.1 (List.mem_filter.1 hp).1
   exact tell_parts slots d hs f (a+1) (byV G a v) (by omega) (h.by hb) (List.Pairwise.sublist List.filter_sublist hr)
theorem grp_none {l:List Cel}:grpR l=[] ↔ l=[]:=by
 constructor
 ·intro h
  by_cases e:l=[]
  ·exact e
  ·have:=grp_pos e
   rw[h] at this
   simp at this
 ·rintro rfl;rfl
theorem grp_val {l:List Cel} {a:Nat} {v:Int} (h:∀ c ∈ l,valK c a=v):∀ c ∈ grpR l,valK c a=v:=fun c hc=>by
 rcases grp_keys l [] c hc with ⟨z,hz,_⟩ | ⟨z,hz,e⟩
 ·cases hz
 ·have:=h z hz
  unfold valK at this ⊢
  rw[← e]
  exact this
theorem grp_byV {d a v:Nat} {l:List Cel} (h:Fit d a l) (hb:a<d) (hv:v<16):byV (grpR l) a v=grpR (byV l a v):=by
 rw[grp_by h hb]
 unfold byV
 rw[List.filter_flatMap]
 have hp:∀ u:Nat,(grpR (l.filter fun c=>valK c a == (u:Int))).filter (fun c=>valK c a == (v:Int))=if u=v then grpR (l.filter fun c=>valK c a == (v:Int)) else []:=by
  intro u
  have hu:∀ c ∈ grpR (l.filter fun c=>valK c a == (u:Int)),valK c a=(u:Int):=grp_val fun c hc=>by
   have:=(List.mem_filter.1 hc).2
   simpa using this
  split
  ·rename_i e
   subst e
   exact List.filter_eq_self.2 fun c hc=>by rw[hu c hc];simp
  ·rename_i e
   exact List.filter_eq_nil_iff.2 fun c hc=>by rw[hu c hc];simp;omega
 have:∀ n:Nat,(List.range n).flatMap (fun (u:Nat)=>(grpR (l.filter fun c=>valK c a == (u:Int))).filter fun c=>valK c a == (v:Int))=if v<n then grpR (l.filter fun c=>valK c a == (v:Int)) else []:=by
  intro n
  induction n with
  | zero=>rfl
  | succ n ih =>
   rw[List.range_succ,List.flatMap_append,ih,List.flatMap_singleton,hp n]
   by_cases h1:v<n
   ·rw[if_pos h1,if_neg (show ¬ n=v by omega),if_pos (show v<n+1 by omega),List.append_nil]
   ·by_cases h2:n=v
    ·rw[if_neg h1,if_pos h2,if_pos (show v<n+1 by omega),List.nil_append]
    ·rw[if_neg h1,if_neg h2,if_neg (show ¬ v<n+1 by omega),List.append_nil]
 rw[this 16,if_pos hv]
theorem Fit.grp {d a:Nat} {l:List Cel} (h:Fit d a l):Fit d a (grpR l):=by
 have hk:∀ c ∈ grpR l,∃ z ∈ l,z.key=c.key:=fun c hc=>by
  rcases grp_keys l [] c hc with ⟨z,hz,_⟩ | ⟨z,hz,e⟩
  ·cases hz
  ·exact⟨z,hz,e⟩
 refine⟨fun c hc=>?_,fun c hc=>?_,fun c hc c' hc'=>?_⟩
 ·obtain⟨z,hz,e⟩:=hk c hc
  rw[← e]
  exact h.len z hz
 ·obtain⟨z,hz,e⟩:=hk c hc
  rw[← e]
  exact h.val z hz
 ·obtain⟨z,hz,e⟩:=hk c hc
  obtain⟨z',hz',e'⟩:=hk c' hc'
  rw[← e,← e']
  exact h.same z hz z' hz'
theorem parts_grp (slots d:Nat):∀ (f a:Nat) (l:List Cel),a+f=d→Fit d a l→partsP slots f a (grpR l)=partsP slots f a l
 | 0,a,l,_,_=>by
  unfold partsP
  rw[grpR_again]
 | f+1,a,l,hd,h=>by
  unfold partsP
  rw[grpR_again]
  split
  ·rfl
  ·refine flat_congr ?_
   intro v hv
   have hv16:v<16:=List.mem_range.1 hv
   have hb:a<d:=by omega
   rw[grp_byV h hb hv16]
   by_cases he:byV l a v=[]
   ·rw[if_pos he,if_pos (grp_none.2 he)]
   ·rw[if_neg he,if_neg fun e=>he (grp_none.1 e)]
    exact parts_grp slots d f (a+1) (byV l a v) (by omega) (h.by hb)
theorem tell_grp {slots d:Nat} (hs:1≤slots) {l:List Cel} (h:Fit d 0 l):tellP slots d 0 (grpR l)=partsP slots d 0 l:=by
 rw[tell_parts slots d hs d 0 _ (by omega) h.grp (grpR_rise l),parts_grp slots d d 0 l (by omega) h]
end Go.Proofs.YtnjlkhhcfiedbaaGreatDoor
namespace Go.Proofs.YtnjlkhhcfiedbaaGreatDoor
open Go.RowKit
def mxN (l:List Nat):Nat:=l.foldl max 0
theorem mxN_snoc (l:List Nat) (x:Nat):mxN (l ++ [x])=max (mxN l) x:=by simp[mxN]
theorem foldmax_le {b:Nat}:∀ (l:List Nat) (a:Nat),a≤b→(∀ x ∈ l,x≤b)→l.foldl max a≤b
 | [],a,h,_=>h
 | x :: l,a,h,hl=>foldmax_le l (max a x) (by have:=hl x (by simp);omega) fun y hy=>hl y (by simp[hy])
theorem foldmax_ge:∀ (l:List Nat) (a:Nat),a≤l.foldl max a∧∀ x ∈ l,x≤l.foldl max a
 | [],a=>⟨Nat.le_refl _,fun x hx=>by cases hx⟩
 | x :: l,a=>by
  obtain⟨h1,h2⟩:=foldmax_ge l (max a x)
  refine⟨by simp only[List.foldl_cons];omega,fun y hy=>?_⟩
  simp only[List.foldl_cons]
  rcases List.mem_cons.1 hy with rfl | hy
  ·omega
  ·exact h2 y hy
theorem mxN_le {b:Nat} {l:List Nat} (h:∀ x ∈ l,x≤b):mxN l≤b:=foldmax_le l 0 (by omega) h
theorem mxN_ge {l:List Nat} {x:Nat} (h:x ∈ l):x≤mxN l:=(foldmax_ge l 0).2 x h
def lensJ (Js:List (List Cel)):List Nat:=Js.map List.length
def hiR (lo k fan:Nat):Nat:=if k<2 then lo else max lo (min fan k+1)
def hiS (b:Nat) (L:List Cel):Nat:=hiR (mxN (lensJ (runsP b [] L))) (runsP b [] L).length (b - 1)
def hiH (s d:Nat) (L:List Cel):Nat:=mxN (lensJ (partsP s d 0 L))
theorem lens_one (J:List Cel):mxN (lensJ [J])=J.length:=by simp[mxN,lensJ]
theorem hiS_none (b:Nat):hiS b []=0:=by simp[hiS,hiR,runsP,lensJ,mxN]
theorem hiS_le {b:Nat} (hb:1≤b) (L:List Cel):hiS b L≤b:=by
 have h1:mxN (lensJ (runsP b [] L))≤b:=mxN_le fun x hx=>by
  unfold lensJ at hx
  obtain⟨J,hJ,rfl⟩:=List.mem_map.1 hx
  exact (runs_each hb L [] (by simp[RiseC]) (by simp) J hJ).2.2
 unfold hiS hiR
 split
 ·exact h1
 ·omega
theorem hiS_few {b:Nat} (L:List Cel) (h:(grpR L).length≤b):hiS b L=(grpR L).length:=by
 by_cases hL:L=[]
 ·subst hL;rw[hiS_none];rfl
 ·unfold hiS
  rw[runs_one L [] (by simp[RiseC]) h (.inr hL),lens_one]
  rfl
theorem hiS_pos {b:Nat} (hb:1≤b) (L:List Cel):0<hiS b L ↔ 0<(grpR L).length:=by
 by_cases hL:L=[]
 ·subst hL;rw[hiS_none];simp[grpR]
 ·have h1:=grp_pos hL
  refine⟨fun _=>h1,fun _=>?_⟩
  rcases Nat.lt_or_ge b (grpR L).length with h | h
  ·have h2:runsP b [] L ≠ []:=fun e=>by
    have hg:=runs_grp b L
    rw[e] at hg
    rw[← hg] at h1
    simp[grpR] at h1
   obtain⟨J,hJ⟩:=List.exists_mem_of_ne_nil _ h2
   have h3:=(runs_each hb L [] (by simp[RiseC]) (by simp) J hJ).2.1
   have h4:J.length≤mxN (lensJ (runsP b [] L)):=mxN_ge (List.mem_map_of_mem hJ)
   unfold hiS hiR
   split <;> omega
  ·rw[hiS_few L h];exact h1
theorem parts_none (s:Nat):∀ f a:Nat,partsP s f a []=[[]]
 | 0,_=>by simp[partsP,grpR]
 | f+1,a=>by simp[partsP,grpR]
theorem hiH_none (s d:Nat):hiH s d []=0:=by unfold hiH;rw[parts_none];simp[lensJ,mxN]
theorem hiH_le {s d:Nat} (hs:1≤s) {L:List Cel} (h:Fit d 0 L):hiH s d L≤s:=by
 by_cases hL:L=[]
 ·subst hL;rw[hiH_none];omega
 ·exact mxN_le fun x hx=>by
   unfold lensJ at hx
   obtain⟨J,hJ,rfl⟩:=List.mem_map.1 hx
   exact (parts_each s d hs d 0 L (by omega) h hL J hJ).2
theorem hiH_few {s d:Nat} (hs:1≤s) {L:List Cel} (h:Fit d 0 L) (hl:(grpR L).length≤s):hiH s d L=(grpR L).length:=by
 have h1:=(parts_one (f:=d) (a:=0) hs (by omega) h).2 hl
 have h2:=parts_flat s d d 0 L (by omega) h
 obtain⟨J,hJ⟩:=List.length_eq_one_iff.1 h1
 rw[hJ] at h2
 unfold hiH
 rw[hJ,lens_one,← h2]
 simp
theorem hiH_pos {s d:Nat} (hs:1≤s) {L:List Cel} (h:Fit d 0 L):0<hiH s d L ↔ 0<(grpR L).length:=by
 by_cases hL:L=[]
 ·subst hL;rw[hiH_none];simp[grpR]
 ·have h1:=grp_pos hL
  refine⟨fun _=>h1,fun _=>?_⟩
  have h2:=parts_pos s d d 0 L (by omega) h
  obtain⟨J,hJ⟩:=List.exists_mem_of_ne_nil _ (show partsP s d 0 L ≠ [] from fun e=>by rw[e] at h2;simp at h2)
  have h3:=(parts_each s d hs d 0 L (by omega) h hL J hJ).1
  have h4:J.length≤mxN (lensJ (partsP s d 0 L)):=mxN_ge (List.mem_map_of_mem hJ)
  unfold hiH
  omega
def hiX (alg:Int) (b d:Nat) (L:List Cel):Nat:=if alg=0 then hiS b L else hiH (min b 10000) d L
theorem hiX_le {alg:Int} {b d:Nat} (hb:1≤b) {L:List Cel} (h:Fit d 0 L):hiX alg b d L≤b:=by
 unfold hiX
 split
 ·exact hiS_le hb L
 ·have:=hiH_le (s:=min b 10000) (by omega) h
  omega
theorem hiX_few {alg:Int} {b d:Nat} (hb:1≤b) {L:List Cel} (h:Fit d 0 L) (h2:(grpR L).length≤10000) (hl:(grpR L).length≤b):hiX alg b d L=(grpR L).length:=by
 unfold hiX
 split
 ·exact hiS_few L hl
 ·exact hiH_few (by omega) h (by omega)
theorem hiX_pos {alg:Int} {b d:Nat} (hb:1≤b) {L:List Cel} (h:Fit d 0 L):0<hiX alg b d L ↔ 0<(grpR L).length:=by
 unfold hiX
 split
 ·exact hiS_pos hb L
 ·exact hiH_pos (by omega) h
end Go.Proofs.YtnjlkhhcfiedbaaGreatDoor

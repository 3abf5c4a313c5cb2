import Derived.Deep.RegionHeld
import Derived.Test.YtnjlkhhcfiedbaaGreatDoorSl
import Derived.Test.YtnjlkhhcfiedbaaGreatDoorMake
import Derived.Test.YtnjlkhhcfiedbaaGreatDoorCel4
namespace Go.Proofs.YtnjlkhhcfiedbaaGreatDoor
open Go.RowKit Go.Shelf
def upL (X:Nat→Value) (i:Nat) (v:Value):Nat→Value:=fun j=>if j=i then v else X j
theorem upL_same (X:Nat→Value) (i:Nat) (v:Value):upL X i v i=v:=by simp[upL]
theorem upL_ne (X:Nat→Value) {i j:Nat} (v:Value) (h:j ≠ i):upL X i v j=X j:=by simp[upL,h]
def pcL (n b:Nat):Nat:=((List.range n).map fun k=>if b.testBit k then 1 else 0).sum
theorem pcL_le (n b:Nat):pcL n b≤n:=by
 unfold pcL
 have h:∀ l:List Nat,(l.map fun k=>if b.testBit k then 1 else 0).sum≤l.length:=fun l=>by
  induction l with
  | nil=>simp
  | cons a l ih=>simp only[List.map_cons,List.sum_cons,List.length_cons];split <;> omega
 simpa using h (List.range n)
def okL (m b:Nat):Bool:=(List.range m).all fun k=>b.testBit k
def nxL (n:Nat) (iL:Nat→Nat) (ls:Nat→Nat→Array Bool) (m b i:Nat):Bool :=
 (List.range n).any fun k=>decide (iL k=i) && decide (m≤k) && decide ((ls m b).setIfInBounds i true=ls m (b+2 ^ k)) && decide (b+2 ^ k<2 ^ n) && okL m (b+2 ^ k) && decide (pcL n (b+2 ^ k)=pcL n b+1) &&
  (List.range n).all fun j=>(b+2 ^ k).testBit j == (b.testBit j || decide (j=k))
def nxA (_n:Nat) (iA:Nat→Nat) (ls:Nat→Nat→Array Bool) (m b i:Nat):Bool :=
 decide (iA m=i) && b.testBit m && decide ((ls m b).setIfInBounds i true=ls (m+1) b) && okL (m+1) b
def chkL (n:Nat) (iL iA:Nat→Nat) (ls:Nat→Nat→Array Bool) (ops:Array Oper):Bool :=
 (List.range n).all fun m=>(List.range (2 ^ n)).all fun b=>!okL m b || (!(Region.ready .any ops (ls m b)).isEmpty && (Region.ready .any ops (ls m b)).all fun i=>nxL n iL ls m b i || nxA n iA ls m b i)
structure InvL (n:Nat) (LI AI:Nat→World→Value→Prop) (G:Nat→World→Prop) (m b:Nat) (X:Nat→Value) (w:World):Prop where
 g:G m w
 lit:∀ k,k<n→m≤k→b.testBit k=true→LI k w (X k)
 app:∀ k,k<m→AI k w (X (n+k))
theorem any_lits {P:Program} {ops:Array Oper} {Q:Exit→Act→World→Prop} {S:World→Prop} (n fe:Nat) (iL iA:Nat→Nat) (ls:Nat→Nat→Array Bool) (F:(Nat→Value)→Act) (LI AI:Nat→World→Value→Prop) (G:Nat→World→Prop)
  (hS:∀ m w,G m w→S w) (hchk:chkL n iL iA ls ops=true) (hfull:∀ b,b<2 ^ n→okL n b=true→b=2 ^ n - 1) (hpc:pcL n (2 ^ n - 1)=n)
  (hL:∀ k,k<n→∀ m,m≤k→∀ X w K,G m w→(∀ v w',LI k w' v→G m w'→(∀ j u,LI j w u→LI j w' u)→(∀ j u,AI j w u→AI j w' u)→K (F (upL X k v)) w')→wpOp P ops Q (iL k) K (F X) w)
  (hA:∀ k,k<n→∀ X w K,LI k w (X k)→G k w→(∀ v w',AI k w' v→G (k+1) w'→(∀ j u,LI j w u→k<j→LI j w' u)→(∀ j u,AI j w u→AI j w' u)→K (F (upL X (n+k) v)) w')→wpOp P ops Q (iA k) K (F X) w)
  (hend:∀ X w,G n w→(∀ k,k<n→AI k w (X (n+k)))→wpAnyH P .any ops Q S fe (ls n (2 ^ n - 1)) (F X) w) :
  ∀ r m b,m≤n→b<2 ^ n→okL m b=true→m+pcL n b+r=2*n→∀ X w,InvL n LI AI G m b X w→wpAnyH P .any ops Q S (r+fe) (ls m b) (F X) w:=by
 have fin:∀ r m b,m=n→b<2 ^ n→okL m b=true→m+pcL n b+r=2*n→∀ X w,InvL n LI AI G m b X w→wpAnyH P .any ops Q S (r+fe) (ls m b) (F X) w:=by
  intro r m b hm hb hok hr X w hI
  subst hm
  obtain rfl:=hfull b hb hok
  obtain rfl:r=0:=by omega
  rw[Nat.zero_add]
  exact hend X w hI.g hI.app
 intro r
 induction r with
 | zero =>
  intro m b hm hb hok hr X w hI
  rcases Nat.lt_or_ge m n with h | h
  ·exfalso
   have:=pcL_le n b
   omega
  ·exact fin 0 m b (by omega) hb hok hr X w hI
 | succ r ih =>
  intro m b hm hb hok hr X w hI
  rcases Nat.lt_or_ge m n with hmn | h
  ·have hrd:(Region.ready .any ops (ls m b)).isEmpty=false∧∀ i ∈ Region.ready .any ops (ls m b),(nxL n iL ls m b i || nxA n iA ls m b i)=true:=by
    simp only[chkL,List.all_eq_true,List.mem_range] at hchk
    have h:=hchk m hmn b hb
    rw[hok] at h
    simpa using h
   rw[show r+1+fe=r+fe+1 by omega]
   refine wpAnyH_ready (rs:=Region.ready .any ops (ls m b)) rfl (fun h=>by rw[h] at hrd;simp at hrd) ?_
   intro i hi
   rcases Bool.or_eq_true_iff.1 (hrd.2 i hi) with h | h
   ·simp only[nxL,List.any_eq_true,List.mem_range,Bool.and_eq_true,decide_eq_true_eq] at h
    obtain⟨k,hk,⟨⟨⟨⟨⟨⟨e1,e2⟩,e3⟩,e4⟩,e5⟩,e6⟩,e7⟩⟩:=h
    subst e1
    rw[e3]
    refine hL k hk m e2 X w _ hI.g fun v w' h1 h2 h3 h4=>⟨hS m w' h2,ih m (b+2 ^ k) hm e4 e5 (by omega) _ _ ⟨h2,fun j hj hmj hbj=>?_,fun j hj=>?_⟩⟩
    ·by_cases hjk:j=k
     ·subst hjk
      rw[upL_same]
      exact h1
     ·rw[upL_ne X v hjk]
      refine h3 j _ (hI.lit j hj hmj ?_)
      have:=List.all_eq_true.1 e7 j (List.mem_range.2 hj)
      rw[hbj] at this
      simpa [hjk] using this
    ·rw[upL_ne X v (by omega)]
     exact h4 j _ (hI.app j hj)
   ·simp only[nxA,Bool.and_eq_true,decide_eq_true_eq] at h
    obtain⟨⟨⟨e1,e2⟩,e3⟩,e4⟩:=h
    subst e1
    rw[e3]
    refine hA m hmn X w _ (hI.lit m hmn (Nat.le_refl _) e2) hI.g fun v w' h1 h2 h3 h4=>⟨hS _ w' h2,ih (m+1) b hmn hb e4 (by omega) _ _ ⟨h2,fun j hj hmj hbj=>?_,fun j hj=>?_⟩⟩
    ·rw[upL_ne X v (by omega)]
     exact h3 j _ (hI.lit j hj (by omega) hbj) (by omega)
    ·by_cases hjm:j=m
     ·subst hjm
      rw[upL_same]
      exact h1
     ·rw[upL_ne X v (by omega)]
      exact h4 j _ (hI.app j (by omega))
  ·exact fin (r+1) m b (by omega) hb hok hr X w hI
theorem any_lits0 {P:Program} {ops:Array Oper} {Q:Exit→Act→World→Prop} {S:World→Prop} (n fe:Nat) (iL iA:Nat→Nat) (ls:Nat→Nat→Array Bool) (F:(Nat→Value)→Act) (LI AI:Nat→World→Value→Prop) (G:Nat→World→Prop)
  (hS:∀ m w,G m w→S w) (hchk:chkL n iL iA ls ops=true) (hfull:∀ b,b<2 ^ n→okL n b=true→b=2 ^ n - 1) (hpc:pcL n (2 ^ n - 1)=n) (hp0:pcL n 0=0)
  (hL:∀ k,k<n→∀ m,m≤k→∀ X w K,G m w→(∀ v w',LI k w' v→G m w'→(∀ j u,LI j w u→LI j w' u)→(∀ j u,AI j w u→AI j w' u)→K (F (upL X k v)) w')→wpOp P ops Q (iL k) K (F X) w)
  (hA:∀ k,k<n→∀ X w K,LI k w (X k)→G k w→(∀ v w',AI k w' v→G (k+1) w'→(∀ j u,LI j w u→k<j→LI j w' u)→(∀ j u,AI j w u→AI j w' u)→K (F (upL X (n+k) v)) w')→wpOp P ops Q (iA k) K (F X) w)
  (hend:∀ X w,G n w→(∀ k,k<n→AI k w (X (n+k)))→wpAnyH P .any ops Q S fe (ls n (2 ^ n - 1)) (F X) w)
  (fuel:Nat) (li:Array Bool) (hfu:fuel=2*n+fe) (hli:li=ls 0 0) (X:Nat→Value) (w:World) (hG:G 0 w):wpAnyH P .any ops Q S fuel li (F X) w:=by
 subst hfu hli
 exact any_lits n fe iL iA ls F LI AI G hS hchk hfull hpc hL hA hend (2*n) 0 0 (Nat.zero_le _) (Nat.two_pow_pos n) (by simp[okL]) (by omega) X w ⟨hG,fun k _ _ h=>by simp at h,fun k h=>by omega⟩
theorem oper_append {P:Program} {o:Oper} {a:Act} {w:World} {K:Act→World→Prop} {Q:Exit→Act→World→Prop} (s x:Operand) (t:TypeId)
  (ho:o.op=.call { callee:=.builtin .append,args:=#[s,x],argTypes:=#[t,t] }) (v u v':Value) (w':World) (hs:a.eval s=v) (hx:a.eval x=u)
  (hrun:(Builtin.append_ #[t,t] o.type #[v,u]).run P w=.ok v' w') (h:K (a.put o.dst v') w'):Oper.wp P o a w K Q:=by
 unfold Oper.wp execOp
 simp only[ho,resolve,invoke,builtin,Sem.run_bind,Sem.run_pure,Result.andThen_ok,List.map_toArray,List.map_cons,List.map_nil,hs,hx,hrun]
 exact h
end Go.Proofs.YtnjlkhhcfiedbaaGreatDoor
namespace Go.Proofs.YtnjlkhhcfiedbaaGreatDoor
open Go.RowKit Go.Shelf
def LitV (B:Nat) (w:World) (v:Value):Prop:=w.ownsRow B 3 1 v 0 []∧∃ g,v=.slice (some ⟨g,0,none⟩) 0 0
theorem LitV.below {B:Nat} {w w':World} {v:Value} (h:LitV B w v) (hb:Below w.heap.size w w'):LitV B w' v:=⟨own_below h.1 hb (Nat.le_refl _),h.2⟩
theorem LitV.new {B:Nat} {w:World} (hB:B≤w.heap.size):LitV B (w.alloc (.cells #[] 3)) (.slice (some ⟨w.heap.size,0,none⟩) 0 0) :=
 ⟨own_mono (World.ownsRow_made w #[] 0 (Nat.le_refl _) (by simp[maxLen]) (by simp)) hB,_,rfl⟩
theorem lit_ap {B:Nat} {W:World} {v s:Value} {xs:List Int} (h:LitV B W v) (hs:RI W s xs) (hl:xs.length≤1000000) (hB:B≤W.heap.size) :
  ∃ v' W',(Builtin.append_ #[22,22] 22 #[v,s]).run Tryz.prog W=.ok v' W'∧OI B W' v' xs∧Below W.heap.size W W':=by
 obtain⟨i0,hi,hz0,hz1,hz2⟩:=info_parts infoI
 obtain⟨P,c,rfl,hn,h1,h2,h3⟩:=hs
 obtain⟨ho,g,rfl⟩:=h
 rcases Nat.eq_zero_or_pos xs.length with hz | hz
 ·have he:xs=[]:=List.length_eq_zero_iff.1 hz
  subst he
  refine⟨_,W,?_,⟨by simpa [ints] using ho,fun x h=>by cases h⟩,Below.refl _ _⟩
  cases P with
  | none =>
   obtain rfl:=h3 rfl
   exact run_append_nothing W 22 22 22 3 i0 Tryz.underlying22 hi (some ⟨g,0,none⟩) 0 0 (Nat.le_refl _) (.slice none 0 0) (Src.ofNil W Tryz.underlying22 0)
  | some ad=>exact run_append_nothing W 22 22 22 3 i0 Tryz.underlying22 hi (some ⟨g,0,none⟩) 0 0 (Nat.le_refl _) (.slice (some ad) 0 c) (Src.ofSlice _ Tryz.underlying22 ad 0 c [] (by simp) (fun j u h=>by simp at h) (fun u h=>by cases h))
 ·obtain⟨ad,rfl,_⟩:=hn.2.2 hz
  obtain⟨v',W',hrun,ho',hgr⟩:=run_append_arg_grows (P:=Tryz.prog) W 22 22 3 i0 _ 1 8 Tryz.underlying22 hi hz0 hz1 hz2 rfl (by omega) ⟨g,0,none⟩ 0 0 [] (by simp) (fun j u h=>by simp at h) ad xs.length c (ints xs) (by simp[ints_len]) (hn.cells_i rfl) (by omega) (by simp only[maxLen];omega) (by omega)
  rw[Nat.zero_add,List.nil_append] at ho'
  exact⟨v',W',hrun,⟨own_mono ho' hB,hn.2.1⟩,(Below.refl _ W).grown hgr (Nat.le_refl _) (fun k e=>by cases e)⟩
def tbL (b k:Nat):Bool:=b.testBit k
def cpL (k:Nat):Nat:=match k with | 0=>0 | 1=>6 | 2=>10 | _=>14
def cpA (k:Nat):Nat:=match k with | 0=>3 | 1=>9 | 2=>13 | _=>17
def cpS (m b:Nat):Array Bool:=#[tbL b 0,true,true,decide (1≤m),true,true,tbL b 1,true,true,decide (2≤m),tbL b 2,true,true,decide (3≤m),tbL b 3,true,true,decide (4≤m),false,false]
set_option maxRecDepth 100000 in
set_option maxHeartbeats 4000000 in
theorem rCopy_any (k s n m:Value) (x:Cel) (w:World) (hx:CR w k s n m x) (h1:x.key.length≤1000000) (h2:x.sum.length≤1000000) (h3:x.mn.length≤1000000) (h4:x.mx.length≤1000000) :
  Calls Tryz.prog 48 #[.agg #[k,.int .i64 x.cnt,s,n,m]] w fun e w'=>∃ k' s' n' m',e=.returned (.agg #[k',.int .i64 x.cnt,s',n',m'])∧CO w.heap.size w' k' s' n' m' x∧Below w.heap.size w w':=by
 obtain⟨⟨Pk,ck,rfl,hk⟩,⟨Ps,cs,rfl,hs⟩,⟨Pn,cn,rfl,hn⟩,⟨Pm,cm,rfl,hm⟩⟩:=hx
 have Rk:Hid (RI w (.slice Pk x.key.length ck) x.key):=Lib.hid ⟨_,_,rfl,hk⟩
 have Rs:Hid (RI w (.slice Ps x.sum.length cs) x.sum):=Lib.hid ⟨_,_,rfl,hs⟩
 have Rn:Hid (RI w (.slice Pn x.mn.length cn) x.mn):=Lib.hid ⟨_,_,rfl,hn⟩
 have Rm:Hid (RI w (.slice Pm x.mx.length cm) x.mx):=Lib.hid ⟨_,_,rfl,hm⟩
 clear hk hs hn hm
 have L1:=Lib.hid h1
 have L2:=Lib.hid h2
 have L3:=Lib.hid h3
 have L4:=Lib.hid h4
 clear h1 h2 h3 h4
 generalize hlk:x.key.length=lk at Rk ⊢
 generalize hls:x.sum.length=ls at Rs ⊢
 generalize hln:x.mn.length=ln at Rn ⊢
 generalize hlm:x.mx.length=lm at Rm ⊢
 generalize hcnt:x.cnt=cnt at *
 clear hlk hls hln hlm hcnt
 have o1:Own 46 ((w.alloc (.cells #[.slice Pk lk ck,.int .i64 cnt,.slice Ps ls cs,.slice Pn ln cn,.slice Pm lm cm] 46)).alloc (.cells #[.slice none 0 0,.int .i64 0,.slice none 0 0,.slice none 0 0,.slice none 0 0] 46)) w.heap.size [.slice Pk lk ck,.int .i64 cnt,.slice Ps ls cs,.slice Pn ln cn,.slice Pm lm cm]:=(show Own 46 (w.alloc (.cells #[.slice Pk lk ck,.int .i64 cnt,.slice Ps ls cs,.slice Pn ln cn,.slice Pm lm cm] 46)) w.heap.size [.slice Pk lk ck,.int .i64 cnt,.slice Ps ls cs,.slice Pn ln cn,.slice Pm lm cm] from heap_alloc_new w _).alloc _
 have o2:Own 46 ((w.alloc (.cells #[.slice Pk lk ck,.int .i64 cnt,.slice Ps ls cs,.slice Pn ln cn,.slice Pm lm cm] 46)).alloc (.cells #[.slice none 0 0,.int .i64 0,.slice none 0 0,.slice none 0 0,.slice none 0 0] 46)) (w.heap.size+1) [.slice none 0 0,.int .i64 0,.slice none 0 0,.slice none 0 0,.slice none 0 0]:=by
  have:=heap_alloc_new (w.alloc (.cells #[.slice Pk lk ck,.int .i64 cnt,.slice Ps ls cs,.slice Pn ln cn,.slice Pm lm cm] 46)) (.cells #[.slice none 0 0,.int .i64 0,.slice none 0 0,.slice none 0 0,.slice none 0 0] 46)
  rw[show (w.alloc (.cells #[.slice Pk lk ck,.int .i64 cnt,.slice Ps ls cs,.slice Pn ln cn,.slice Pm lm cm] 46)).heap.size=w.heap.size+1 from by simp] at this
  exact this
 have hb:Below w.heap.size w ((w.alloc (.cells #[.slice Pk lk ck,.int .i64 cnt,.slice Ps ls cs,.slice Pn ln cn,.slice Pm lm cm] 46)).alloc (.cells #[.slice none 0 0,.int .i64 0,.slice none 0 0,.slice none 0 0,.slice none 0 0] 46)):=((Below.refl _ w).alloc (Nat.le_refl _) _).alloc (by simp) _
 have hz:((w.alloc (.cells #[.slice Pk lk ck,.int .i64 cnt,.slice Ps ls cs,.slice Pn ln cn,.slice Pm lm cm] 46)).alloc (.cells #[.slice none 0 0,.int .i64 0,.slice none 0 0,.slice none 0 0,.slice none 0 0] 46)).heap.size=w.heap.size+1+1:=by simp
 have O1:=Lib.hid o1
 have O2:=Lib.hid o2
 have Hb:=Lib.hid hb
 have Hz:=Lib.hid hz
 clear o1 o2 hb hz
 go_enter Tryz.func48,Tryz.ntmps48
 go_upto_region 1 with (fail)
 generalize (w.alloc (.cells #[.slice Pk lk ck,.int .i64 cnt,.slice Ps ls cs,.slice Pn ln cn,.slice Pm lm cm] 46)).alloc (.cells #[.slice none 0 0,.int .i64 0,.slice none 0 0,.slice none 0 0,.slice none 0 0] 46)=W1 at O1 O2 Hb Hz ⊢
 obtain⟨b,eb⟩:∃ b,b=w.heap.size:=⟨_,rfl⟩
 rw[← eb] at O1 O2 ⊢
 have Eb:=Lib.hid eb
 clear eb
 have bx0:=O1.out.bx
 refine wp_region_held_drew (S:=fun W=>Bx W b (.slice Pk lk ck) (.int .i64 cnt) (.slice Ps ls cs) (.slice Pn ln cn) (.slice Pm lm cm)) (by kernel_rfl) (show Bx W1.drew b _ _ _ _ _ from bx0) (fun hHeld=>?_)
 refine WTH (i:=1) (v:=?va1) ?ya1 hHeld ?ra1
 case ya1=>(intro W hW;obtain⟨h0,h1,h2,h3,h4⟩:=hW;go_simp;first | done | with_reducible rfl)
 try simp only[SL,Act.put]
 refine WTH (i:=2) (v:=?va2) ?ya2 hHeld ?ra2
 case ya2=>(intro W hW;obtain⟨h0,h1,h2,h3,h4⟩:=hW;go_simp;first | done | with_reducible rfl)
 try simp only[SL,Act.put]
 refine WTH (i:=4) (v:=?va4) ?ya4 hHeld ?ra4
 case ya4=>(intro W hW;obtain⟨h0,h1,h2,h3,h4⟩:=hW;go_simp;first | done | with_reducible rfl)
 try simp only[SL,Act.put]
 refine WTH (i:=5) (v:=?va5) ?ya5 hHeld ?ra5
 case ya5=>(intro W hW;obtain⟨h0,h1,h2,h3,h4⟩:=hW;go_simp;first | done | with_reducible rfl)
 try simp only[SL,Act.put]
 refine WTH (i:=7) (v:=?va7) ?ya7 hHeld ?ra7
 case ya7=>(intro W hW;obtain⟨h0,h1,h2,h3,h4⟩:=hW;go_simp;first | done | with_reducible rfl)
 try simp only[SL,Act.put]
 refine WTH (i:=8) (v:=?va8) ?ya8 hHeld ?ra8
 case ya8=>(intro W hW;obtain⟨h0,h1,h2,h3,h4⟩:=hW;go_simp;first | done | with_reducible rfl)
 try simp only[SL,Act.put]
 refine WTH (i:=11) (v:=?va11) ?ya11 hHeld ?ra11
 case ya11=>(intro W hW;obtain⟨h0,h1,h2,h3,h4⟩:=hW;go_simp;first | done | with_reducible rfl)
 try simp only[SL,Act.put]
 refine WTH (i:=12) (v:=?va12) ?ya12 hHeld ?ra12
 case ya12=>(intro W hW;obtain⟨h0,h1,h2,h3,h4⟩:=hW;go_simp;first | done | with_reducible rfl)
 try simp only[SL,Act.put]
 refine WTH (i:=15) (v:=?va15) ?ya15 hHeld ?ra15
 case ya15=>(intro W hW;obtain⟨h0,h1,h2,h3,h4⟩:=hW;go_simp;first | done | with_reducible rfl)
 try simp only[SL,Act.put]
 refine WTH (i:=16) (v:=?va16) ?ya16 hHeld ?ra16
 case ya16=>(intro W hW;obtain⟨h0,h1,h2,h3,h4⟩:=hW;go_simp;first | done | with_reducible rfl)
 try simp only[SL,Act.put]
 clear hHeld
 refine any_lits0 4 2 cpL cpA cpS (fun X=>{ tmps:=#[.agg #[.slice Pk lk ck,.int .i64 cnt,.slice Ps ls cs,.slice Pn ln cn,.slice Pm lm cm],.pointer (some ⟨b,0,none⟩),.pointer (some ⟨b+1,0,none⟩),X 0,.pointer (some ⟨b,0,none⟩),.slice Pk lk ck,X 4,.pointer (some ⟨b,1,none⟩),.int .i64 cnt,X 1,.pointer (some ⟨b,2,none⟩),.slice Ps ls cs,X 5,X 2,.pointer (some ⟨b,3,none⟩),.slice Pn ln cn,X 6,X 3,.pointer (some ⟨b,4,none⟩),.slice Pm lm cm,X 7,undef],defers:=[] }) (fun _ W v=>LitV w.heap.size W v) (fun k W v=>OI w.heap.size W v (match k with | 0=>x.key | 1=>x.sum | 2=>x.mn | _=>x.mx)) (fun _ W=>Below W1.heap.size W1 W) ?hS ?hchk (by decide) (by decide) (by decide) ?hL ?hA ?hend _ _ ?hfu ?hli (fun _=>undef) _ ?hG
 case hfu=>rfl
 case hli=>kernel_rfl
 case hchk=>kernel_rfl
 case hG=>exact below_drewN (Below.refl _ W1) 1
 case hS=>exact fun _ W h=>bx0.keep (Keeps.of_below h)
 case hL =>
  intro k hk m _ X W K hG hK
  have hB:w.heap.size≤W.heap.size:=Nat.le_trans Hb.out.size hG.size
  have hb2:Below W.heap.size W (W.alloc (.cells #[] 3)):=(Below.refl _ _).alloc (Nat.le_refl _) _
  have h:=hK (.slice (some ⟨W.heap.size,0,none⟩) 0 0) (W.alloc (.cells #[] 3)) (LitV.new hB) (hG.alloc hG.size _) (fun j u h=>h.below hb2) (fun j u h=>h.below hb2)
  clear hK
  rcases (by omega:k=0∨k=1∨k=2∨k=3) with rfl | rfl | rfl | rfl
  ·change wpOp _ _ _ 0 K _ W
   refine wpOp_step rfl (fun K' hK'=>?_)
   have H:=Lib.hid (hK' _ _ h)
   clear h hK'
   go_simp
   exact H.out
  ·change wpOp _ _ _ 6 K _ W
   refine wpOp_step rfl (fun K' hK'=>?_)
   have H:=Lib.hid (hK' _ _ h)
   clear h hK'
   go_simp
   exact H.out
  ·change wpOp _ _ _ 10 K _ W
   refine wpOp_step rfl (fun K' hK'=>?_)
   have H:=Lib.hid (hK' _ _ h)
   clear h hK'
   go_simp
   exact H.out
  ·change wpOp _ _ _ 14 K _ W
   refine wpOp_step rfl (fun K' hK'=>?_)
   have H:=Lib.hid (hK' _ _ h)
   clear h hK'
   go_simp
   exact H.out
 case hA =>
  intro k hk X W K hl hG hK
  have hB:w.heap.size≤W.heap.size:=Nat.le_trans Hb.out.size hG.size
  have hkw:Keeps w W:=Keeps.of_below (Hb.out.trans (hG.mono Hb.out.size))
  rcases (by omega:k=0∨k=1∨k=2∨k=3) with rfl | rfl | rfl | rfl
  ·obtain⟨v',W',hrun,hoi,hbw⟩:=lit_ap hl (Rk.out.keep hkw) L1.out hB
   have h:=hK v' W' hoi (hG.trans (hbw.mono hG.size)) (fun j u h _=>h.below hbw) (fun j u h=>h.below hbw)
   clear hK
   change wpOp _ _ _ 3 K _ W
   refine wpOp_step rfl (fun K' hK'=>?_)
   have H:=Lib.hid (hK' _ _ h)
   clear h hK'
   rw[if_pos (by rfl)]
   exact oper_append (.tmp 3) (.tmp 5) 22 rfl _ _ _ _ rfl rfl hrun H.out
  ·obtain⟨v',W',hrun,hoi,hbw⟩:=lit_ap hl (Rs.out.keep hkw) L2.out hB
   have h:=hK v' W' hoi (hG.trans (hbw.mono hG.size)) (fun j u h _=>h.below hbw) (fun j u h=>h.below hbw)
   clear hK
   change wpOp _ _ _ 9 K _ W
   refine wpOp_step rfl (fun K' hK'=>?_)
   have H:=Lib.hid (hK' _ _ h)
   clear h hK'
   rw[if_pos (by rfl)]
   exact oper_append (.tmp 9) (.tmp 11) 22 rfl _ _ _ _ rfl rfl hrun H.out
  ·obtain⟨v',W',hrun,hoi,hbw⟩:=lit_ap hl (Rn.out.keep hkw) L3.out hB
   have h:=hK v' W' hoi (hG.trans (hbw.mono hG.size)) (fun j u h _=>h.below hbw) (fun j u h=>h.below hbw)
   clear hK
   change wpOp _ _ _ 13 K _ W
   refine wpOp_step rfl (fun K' hK'=>?_)
   have H:=Lib.hid (hK' _ _ h)
   clear h hK'
   rw[if_pos (by rfl)]
   exact oper_append (.tmp 13) (.tmp 15) 22 rfl _ _ _ _ rfl rfl hrun H.out
  ·obtain⟨v',W',hrun,hoi,hbw⟩:=lit_ap hl (Rm.out.keep hkw) L4.out hB
   have h:=hK v' W' hoi (hG.trans (hbw.mono hG.size)) (fun j u h _=>h.below hbw) (fun j u h=>h.below hbw)
   clear hK
   change wpOp _ _ _ 17 K _ W
   refine wpOp_step rfl (fun K' hK'=>?_)
   have H:=Lib.hid (hK' _ _ h)
   clear h hK'
   rw[if_pos (by rfl)]
   exact oper_append (.tmp 17) (.tmp 19) 22 rfl _ _ _ _ rfl rfl hrun H.out
 case hend =>
  intro X W hG hA
  have Q1:OI w.heap.size W (X 4) x.key:=hA 0 (by decide)
  have Q2:OI w.heap.size W (X 5) x.sum:=hA 1 (by decide)
  have Q3:OI w.heap.size W (X 6) x.mn:=hA 2 (by decide)
  have Q4:OI w.heap.size W (X 7) x.mx:=hA 3 (by decide)
  generalize X 4=y4 at Q1 ⊢
  generalize X 5=y5 at Q2 ⊢
  generalize X 6=y6 at Q3 ⊢
  generalize X 7=y7 at Q4 ⊢
  generalize X 0=y0
  generalize X 1=y1
  generalize X 2=y2
  generalize X 3=y3
  clear hA
  obtain⟨P1,c1,e1,-⟩:=Q1.form
  obtain⟨P2,c2,e2,-⟩:=Q2.form
  obtain⟨P3,c3,e3,-⟩:=Q3.form
  obtain⟨P4,c4,e4,-⟩:=Q4.form
  subst e1 e2 e3 e4
  have hHeld:Bx W b (.slice Pk lk ck) (.int .i64 cnt) (.slice Ps ls cs) (.slice Pn ln cn) (.slice Pm lm cm):=bx0.keep (Keeps.of_below hG)
  have o4:=O2.out.below hG (by have:=Hz.out;have:=Eb.out;omega)
  have z0:=o4.cell (i:=0) rfl
  have z1:=o4.cell (i:=1) rfl
  have z2:=o4.cell (i:=2) rfl
  have z3:=o4.cell (i:=3) rfl
  have z4:=o4.cell (i:=4) rfl
  have zf:=o4.frozen
  obtain⟨W5,hW5⟩:∃ W5,W5=put5 W (b+1) (.slice P1 x.key.length c1) (.int .i64 cnt) (.slice P2 x.sum.length c2) (.slice P3 x.mn.length c3) (.slice P4 x.mx.length c4):=⟨_,rfl⟩
  have o5:Own 46 W5 (b+1) [.slice P1 x.key.length c1,.int .i64 cnt,.slice P2 x.sum.length c2,.slice P3 x.mn.length c3,.slice P4 x.mx.length c4]:=hW5 ▸ put5_own o4
  have on5:Only (b+1) W W5:=hW5 ▸ put5_only
  have hfin:CO w.heap.size W5 (.slice P1 x.key.length c1) (.slice P2 x.sum.length c2) (.slice P3 x.mn.length c3) (.slice P4 x.mx.length c4) x:=(show CO w.heap.size W _ _ _ _ x from ⟨Q1,Q2,Q3,Q4⟩).only on5 o4 (by decide)
  have hB4:Below w.heap.size w W:=Hb.out.trans (hG.mono Hb.out.size)
  have hbf:Below w.heap.size w W5:=hB4.trans (on5.below (by have:=Eb.out;omega) hB4.size)
  have hbx5:Bx W5 b (.slice Pk lk ck) (.int .i64 cnt) (.slice Ps ls cs) (.slice Pn ln cn) (.slice Pm lm cm):=hHeld.only on5 (by omega) (by have:=hG.size;have:=Hz.out;have:=Eb.out;omega)
  have HW5:=Lib.hid hW5
  have Hfin:=Lib.hid hfin
  have Hbf:=Lib.hid hbf
  have Hbx5:=Lib.hid hbx5
  have r0:=o5.cell (i:=0) rfl
  have r1:=o5.cell (i:=1) rfl
  have r2:=o5.cell (i:=2) rfl
  have r3:=o5.cell (i:=3) rfl
  have r4:=o5.cell (i:=4) rfl
  clear hW5 o5 on5 hfin hbf hbx5 Q1 Q2 Q3 Q4 o4 hB4 hG
  refine WTH (i:=18) (v:=?vb18) ?yb18 hHeld ?rb18
  case yb18=>(intro W hW;go_simp;first | done | with_reducible rfl)
  try simp only[SL,Act.put]
  refine wpAnyH_ready (rs:=[19]) (by kernel_rfl) (by simp) ?_
  refine AllReadyH.cons rfl (fun K hK=>?_) (AllReadyH.nil)
  go_simp
  have e5:=HW5.out
  unfold put5 at e5
  rw[← e5]
  clear e5
  refine hK.out _ _ (Hbx5.out) (fun hHeld=>?_)
  clear hK K
  try simp only[SL,Act.put]
  refine wpAnyH_done (by kernel_rfl) ?_ _
  go_wp2
  exact bodyPost_ret (v:=.agg #[.slice P1 x.key.length c1,.int .i64 cnt,.slice P2 x.sum.length c2,.slice P3 x.mn.length c3,.slice P4 x.mx.length c4]) (by simp[results,Tryz.results48,go_sem,r0,r1,r2,r3,r4]) rfl ⟨_,_,_,_,rfl,Hfin.out,Hbf.out⟩
end Go.Proofs.YtnjlkhhcfiedbaaGreatDoor
namespace Go.Proofs.YtnjlkhhcfiedbaaGreatDoor
open Go.RowKit Go.Shelf
theorem app_own {B:Nat} {W:World} {u:Value} {xs:List Int} (x:Int) (hu:OI B W u xs) (hx:inK .i64 x) (hl:xs.length≤1000000) (hB:B≤W.heap.size) :
  ∃ A c W',(Builtin.append_ #[22,22] 22 #[u,.slice (some ⟨W.heap.size,0,none⟩) 1 1]).run Tryz.prog (W.alloc (.cells #[.int .i64 x] 3))=.ok (.slice A (xs.length+1) c) W'∧OI B W' (.slice A (xs.length+1) c) (xs ++ [x]) ∧
   (W.alloc (.cells #[.int .i64 x] 3)).grownBy W' u.ownBlock∧((Value.slice A (xs.length+1) c).ownBlock=u.ownBlock∨(Value.slice A (xs.length+1) c).ownBlock=some (W.heap.size+1)):=by
 obtain⟨i0,hi,hz0,hz1,hz2⟩:=info_parts infoI
 have hb:Below W.heap.size W (W.alloc (.cells #[.int .i64 x] 3)):=(Below.refl _ _).alloc (Nat.le_refl _) _
 have hu1:=hu.below hb
 obtain⟨v',W',hrun,ho,hgr,_,hbl⟩:=run_append_own_at (P:=Tryz.prog) (W.alloc (.cells #[.int .i64 x] 3)) B 22 22 3 i0 _ 1 8 Tryz.underlying22 hi hz0 hz1 hz2 rfl (by omega) u xs.length (ints xs) hu1.1 ⟨W.heap.size,0,none⟩ 1 1 (ints [x]) (by simp[ints_len])
  (fun j w hw=>by
   rw[add0,show (W.alloc (.cells #[.int .i64 x] 3)).cell? ⟨W.heap.size,j,none⟩=#[.int .i64 x][j]? from cell_of_row _ _ _ _ 3 (0,0) (heap_alloc_new W _)]
   simpa [ints] using hw) (ints_one [x]) (by simp only[maxLen];omega) (by omega) (by simp;omega)
 have h2:OI B W' v' (xs ++ [x]):=⟨by rw[List.length_append];simpa [ints] using ho,fun y hy=>by
  rcases List.mem_append.1 hy with h | h
  ·exact hu.2 y h
  ·simp only[List.mem_singleton] at h
   subst h
   exact hx⟩
 obtain⟨A,c,hv,-⟩:=h2.form
 rw[List.length_append] at hv
 replace hv:v'=.slice A (xs.length+1) c:=hv
 subst hv
 exact⟨A,c,W',hrun,h2,hgr,by simpa using hbl⟩
structure JS (w W:World) (g:Nat) (ra rb:List Value) (cnt:Int) (v:Nat→Value) (xs:Nat→List Int):Prop where
 a:Own 46 W w.heap.size ra
 b:Own 46 W (w.heap.size+1) rb
 r:Own 46 W (w.heap.size+1+1) [.slice none 0 0,.int .i64 0,.slice none 0 0,.slice none 0 0,.slice none 0 0]
 c:Own 46 W g [v 0,.int .i64 cnt,v 1,v 2,v 3]
 gb:w.heap.size+1+1<g
 bel:Below w.heap.size w W
 ok:∀ i,i<4→OI w.heap.size W (v i) (xs i)
 ap:∀ i j,i<4→j<4→i ≠ j→Ap (v i) (v j)
theorem JS.drew {w W:World} {g:Nat} {ra rb:List Value} {cnt:Int} {v:Nat→Value} {xs:Nat→List Int} (h:JS w W g ra rb cnt v xs):JS w W.drew g ra rb cnt v xs:=⟨h.a,h.b,h.r,h.c,h.gb,h.bel.drew,h.ok,h.ap⟩
theorem JS.step {w W:World} {g:Nat} {ra rb:List Value} {cnt:Int} {v:Nat→Value} {xs:Nat→List Int} (h:JS w W g ra rb cnt v xs) (j:Nat) (hj:1≤j) (hj3:j≤3) (x:Int) (hx:inK .i64 x) (hl:(xs j).length≤1000000) :
  ∃ A c X,(Builtin.append_ #[22,22] 22 #[v j,.slice (some ⟨W.heap.size,0,none⟩) 1 1]).run Tryz.prog (W.alloc (.cells #[.int .i64 x] 3))=.ok (.slice A ((xs j).length+1) c) X ∧
   Own 46 X g [v 0,.int .i64 cnt,v 1,v 2,v 3]∧(Own 46 X w.heap.size ra∧Own 46 X (w.heap.size+1) rb∧Below w.heap.size w X)∧JS w (X.setCell ⟨g,j+1,none⟩ (.slice A ((xs j).length+1) c)) g ra rb cnt (upL v j (.slice A ((xs j).length+1) c)) (fun i=>if i=j then xs j ++ [x] else xs i):=by
 have hB:w.heap.size≤W.heap.size:=h.bel.size
 obtain⟨A,c,X,hrun,ho,hgr,hbl⟩:=app_own x (h.ok j (by omega)) hx hl hB
 have hal:Below W.heap.size W (W.alloc (.cells #[.int .i64 x] 3)):=(Below.refl _ _).alloc (Nat.le_refl _) _
 have hj1:=(h.ok j (by omega)).below hal
 have own:∀ {n:Nat} {us:List Value},Own 46 W n us→Own 46 X n us:=fun o=>(o.alloc _).grownI hj1.1 (by decide) hgr
 have hbx:Below w.heap.size w X:=(h.bel.alloc hB _).grown hgr (by simp;omega) fun k e=>(hj1.1.lt k e).1
 have hc:=own h.c
 refine⟨A,c,X,hrun,hc,⟨own h.a,own h.b,hbx⟩,⟨(own h.a).only (only_setCell _ _ _ _) (by have:=h.gb;omega),(own h.b).only (only_setCell _ _ _ _) (by have:=h.gb;omega),(own h.r).only (only_setCell _ _ _ _) (by have:=h.gb;omega),?_,h.gb,hbx.setCell (by have:=h.gb;show w.heap.size≤g;omega) _,fun i hi=>?_,fun i k hi hk hik=>?_⟩⟩
 ·have:=hc.set_ (j+1) (.slice A ((xs j).length+1) c)
  rcases (by omega:j=1∨j=2∨j=3) with rfl | rfl | rfl <;> exact this
 ·by_cases e:i=j
  ·subst e
   rw[upL_same,if_pos rfl]
   exact ho.box hc (by decide)
  ·rw[upL_ne _ _ e,if_neg e]
   exact (((h.ok i hi).below hal).grownI (h.ap i j hi (by omega) e) hgr).box hc (by decide)
 ·have new:∀ q,q<4→q ≠ j→Ap (v q) (.slice A ((xs j).length+1) c):=fun q hq hqj b h1 h2=>by
   rcases hbl with e | e
   ·rw[e] at h2
    exact h.ap q j hq (by omega) hqj b h1 h2
   ·rw[e] at h2
    injection h2 with h2
    have:=((h.ok q hq).1.lt b h1).2
    omega
  by_cases e1:i=j
  ·subst e1
   rw[upL_same,upL_ne _ _ (Ne.symm hik)]
   exact (new k hk (Ne.symm hik)).symm
  ·rw[upL_ne _ _ e1]
   by_cases e2:k=j
   ·subst e2
    rw[upL_same]
    exact new i hi e1
   ·rw[upL_ne _ _ e2]
    exact h.ap i k hi hk hik
theorem Nums.cell_ {kd:IntKind} {w:World} {ad:Addr} {n k:Nat} {xs:List Int} {x:Int} (h:Nums kd w (some ad) n xs) (hk:k<n) (hx:xs[k]? = some x):w.cell? (ad.add k)=some (.int kd x):=by
 obtain⟨ad',e,hc⟩:=h.2.2 (by omega)
 injection e with e
 subst e
 exact hc k x hx
theorem wrap64_in (x:Int):inK .i64 (wrap64 x):=by unfold wrap64;exact⟨by omega,by omega⟩
theorem zip_at {f:Int→Int→Int} {a b:List Int} {i:Nat} {x y:Int} (hx:a[i]? = some x) (hy:b[i]? = some y):(List.zipWith f a b).take (i+1)=(List.zipWith f a b).take i ++ [f x y]:=by
 rw[List.take_add_one,List.getElem?_zipWith,hx,hy]
 rfl
end Go.Proofs.YtnjlkhhcfiedbaaGreatDoor

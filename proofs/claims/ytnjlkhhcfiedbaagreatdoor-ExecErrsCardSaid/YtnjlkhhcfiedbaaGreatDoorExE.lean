import Derived.Laws.EntriesVeiled
import Derived.IntWalk
import Derived.Test.YtnjlkhhcfiedbaaGreatDoorExD
namespace Go.Proofs.YtnjlkhhcfiedbaaGreatDoor
open Go.RowKit Go.Shelf
attribute [local go_sem] Oper.semAt_some
theorem Fit.sub {d a:Nat} {l p:List Cel} (h:Fit d a l) (hs:∀ x ∈ p,x ∈ l):Fit d a p :=
 ⟨fun c hc=>h.len c (hs c hc),fun c hc=>h.val c (hs c hc),fun c hc c' hc'=>h.same c (hs c hc) c' (hs c' hc')⟩
theorem drop_while_eq (p:Cel→Bool):∀ t:List Cel,t.dropWhile p=t.drop (t.takeWhile p).length
 | []=>rfl
 | y :: t=>by cases h:p y <;> simp[h,drop_while_eq p t]
theorem segK_each {a blk:Nat} {w:World}:∀ (f off c:Nat) (l:List Cel),l.length≤c→CellsR w ⟨blk,off,none⟩ l→∀ x ∈ segK a f off c l,
  x.2.1=x.2.2.2.length∧x.2.1≤x.2.2.1∧CellsR w ⟨blk,x.1,none⟩ x.2.2.2∧x.2.2.2.Sublist l∧∀ y ∈ x.2.2.2,∀ z ∈ x.2.2.2,valK y a=valK z a
 | 0,_,_,_,_,_,x,hx=>by simp[segK] at hx
 | _+1,_,_,[],_,_,x,hx=>by simp[segK] at hx
 | f+1,off,c,y :: t,hl,hc,x,hx=>by
  simp only[segK,List.mem_cons] at hx
  have hlen:=(List.takeWhile_sublist (fun z=>valK z a == valK y a) (l:=t)).length_le
  have e0:y :: t.takeWhile (fun z=>valK z a == valK y a)=(y :: t).take ((t.takeWhile fun z=>valK z a == valK y a).length+1):=by
   rw[List.take_succ_cons]
   congr 1
   exact List.prefix_iff_eq_take.1 (List.takeWhile_prefix _)
  rcases hx with rfl | hx
  ·refine⟨by simp,?_,?_,?_,?_⟩
   ·simp only[List.length_cons] at hl
    dsimp only
    omega
   ·dsimp only
    rw[e0]
    exact hc.take _
   ·dsimp only
    rw[e0]
    exact List.take_sublist _ _
   ·have hv:∀ z ∈ y :: t.takeWhile (fun z=>valK z a == valK y a),valK z a=valK y a:=fun z hz=>by
     rcases List.mem_cons.1 hz with rfl | hz
     ·rfl
     ·have h:=List.all_takeWhile (p:=fun z=>valK z a == valK y a) (l:=t)
      rw[List.all_eq_true] at h
      simpa using h z hz
    intro z hz z' hz'
    rw[hv z hz,hv z' hz']
  ·have e1:t.dropWhile (fun z=>valK z a == valK y a)=(y :: t).drop ((t.takeWhile fun z=>valK z a == valK y a).length+1):=by
    rw[List.drop_succ_cons]
    exact drop_while_eq _ t
   rw[e1] at hx
   have hc2:=hc.drop ((t.takeWhile fun z=>valK z a == valK y a).length+1)
   rw[show (⟨blk,off,none⟩:Addr).add (((t.takeWhile fun z=>valK z a == valK y a).length+1)*5)=⟨blk,off+((t.takeWhile fun z=>valK z a == valK y a).length+1)*5,none⟩ from by rw[Addr.add,if_neg (by omega)]] at hc2
   obtain⟨q1,q2,q3,q4,q5⟩:=segK_each f _ _ _ (by rw[List.length_drop];omega) hc2 x hx
   exact⟨q1,q2,q3,q4.trans (List.drop_sublist _ _),q5⟩
set_option maxHeartbeats 1000000 in
theorem xapart_fn (P:Option Addr) (N c a:Nat) (w:World):Calls Tryz.prog 106 #[.agg #[.slice P N c,.func (.func 73) #[] #[],.int .i64 (a:Nat)]] w fun e w'=>e=.returned (.func (.func 133) #[] #[.pointer (some ⟨w.heap.size,0,none⟩)])∧w'=w.alloc (.cells #[.slice P N c,.func (.func 73) #[] #[],.int .i64 (a:Nat)] 76):=by
 go_enter Tryz.func106,Tryz.ntmps106
 go_wp2
 go_ret
 exact⟨rfl,rfl⟩
structure TelI (w0 W:World) (z:Nat) (P:Option Addr) (N c a s l:Nat) (J:List Tri→World→Prop) (tc:Nat→Prop) (ps:List SegX) (f:Nat) (xs0 xs:List Tri) (X:World):Prop where
 o3:Own 76 X W.heap.size (partV P N c a)
 o4:Own 3 X (W.heap.size+1) [.int .i64 (s:Nat)]
 o5:Own 89 X (W.heap.size+1+1) [.func (.yield l) #[] #[]]
 o6:Own 4 X (W.heap.size+1+1+1) [.bool false]
 o7:Own 76 X (W.heap.size+1+1+1+1) (partV P N c a)
 zX:z≤X.heap.size
 ln:xs.map (·.2.1)=lensJ ((ps.map (·.2.2.2)).flatMap (tellP s f (a+1)))
 j:J (xs0 ++ xs) X
 t:Tch tc W X
theorem TelI.stay {w0 W X Y:World} {z B0:Nat} {P:Option Addr} {N c a s l:Nat} {J:List Tri→World→Prop} {tc:Nat→Prop} {ps:List SegX} {f:Nat} {xs0 xs:List Tri} {M:Nat→Prop} (h:TelI w0 W z P N c a s l J tc ps f xs0 xs X) (hst:∀ pre A B M,J pre A→Tch M A B→(∀ k,M k→B0≤k)→J pre B) (hz:z=W.heap.size+5) (hB:B0≤W.heap.size) (ht:Tch M X Y) (hM:∀ k,M k→z≤k):TelI w0 W z P N c a s l J tc ps f xs0 xs Y:=by
 have no:∀ b,b<z→¬ M b:=fun b hb hm=>by have:=hM b hm;omega
 exact⟨(ht.block _ h.o3.lt (no _ (by omega))).trans h.o3,(ht.block _ h.o4.lt (no _ (by omega))).trans h.o4,(ht.block _ h.o5.lt (no _ (by omega))).trans h.o5,(ht.block _ h.o6.lt (no _ (by omega))).trans h.o6,(ht.block _ h.o7.lt (no _ (by omega))).trans h.o7,Nat.le_trans h.zX ht.size,h.ln,hst _ _ _ _ h.j ht (fun k hk=>by have:=hM k hk;omega),h.t.trans ht fun k hk hm=>by have:=hM k hm;omega⟩
theorem TelI.more {w0 W X Y:World} {z:Nat} {P:Option Addr} {N c a s l:Nat} {J:List Tri→World→Prop} {tc:Nat→Prop} {ps:List SegX} {f:Nat} {xs0 xs ys:List Tri} {x:SegX} (h:TelI w0 W z P N c a s l J tc ps f xs0 xs X) (h1:ys.map (·.2.1)=lensJ (tellP s f (a+1) x.2.2.2)) (h2:J (xs0 ++ xs ++ ys) Y) (ht:Tch tc X Y) (hM:∀ k,tc k→k<W.heap.size):TelI w0 W z P N c a s l J tc (ps ++ [x]) f xs0 (xs ++ ys) Y:=by
 have no:∀ b,W.heap.size≤b→¬ tc b:=fun b hb hm=>by have:=hM b hm;omega
 refine⟨(ht.block _ h.o3.lt (no _ (by omega))).trans h.o3,(ht.block _ h.o4.lt (no _ (by omega))).trans h.o4,(ht.block _ h.o5.lt (no _ (by omega))).trans h.o5,(ht.block _ h.o6.lt (no _ (by omega))).trans h.o6,(ht.block _ h.o7.lt (no _ (by omega))).trans h.o7,Nat.le_trans h.zX ht.size,?_,by rw[← List.append_assoc];exact h2,h.t.same ht⟩
 rw[List.map_append,h.ln,h1]
 simp[lensJ]
def TellS (f:Nat):Prop:=∀ (l a d s blk off:Nat) (P:Option Addr) (c N:Nat) (G:List Cel) (w0 W:World) (tc:Nat→Prop) (B0:Nat) (J:List Tri→World→Prop) (xs0:List Tri),
 N=G.length→(0<N→P=some ⟨blk,off,none⟩)→CellsR w0 ⟨blk,off,none⟩ G→N≤c→N≤1000→Fit d a G→RiseC G→a+f=d→d≤1000→1≤s→B0≤W.heap.size→(∀ k,tc k→k<B0) →
 (∀ pre X,J pre X→Below w0.heap.size w0 X)→(∀ pre A B M,J pre A→Tch M A B→(∀ k,M k→B0≤k)→J pre B) →
 (∀ pre x W1,J pre W1→YieldAt Fence.wide 0 Tryz.prog l #[trV x] W1 fun e W'=>e=.returned (.bool true)∧J (pre ++ [x]) W'∧Tch tc W1 W') →
 J xs0 W →
 Calls Tryz.prog 75 #[.agg #[.slice P N c,.func (.func 73) #[] #[],.int .i64 (a:Nat)],.int .i64 (s:Nat),.func (.yield l) #[] #[]] W fun e W'=>e=.returned (.bool true)∧∃ xs:List Tri,xs.map (·.2.1)=lensJ (tellP s f a G)∧J (xs0 ++ xs) W'∧Tch tc W W'
set_option maxRecDepth 100000 in
set_option maxHeartbeats 8000000 in
theorem xtell_step (f:Nat) (IH:∀ f',f=f'+1→TellS f'):TellS f:=by
 intro l a d s blk off P c N G w0 W tc B0 J xs0 hN hP hG hNc hN1 hF hR haf hd hs hB0 htc hJr hst hY hJ
 refine callsIn_wide (n:=12).1 ?_
 obtain⟨W4,hW4⟩:∃ W4,W4=(((W.alloc (.cells #[.slice P N c,.func (.func 73) #[] #[],.int .i64 (a:Nat)] 76)).alloc (.cells #[.int .i64 (s:Nat)] 3)).alloc (.cells #[.func (.yield l) #[] #[]] 89)).alloc (.cells #[.bool false] 4):=⟨_,rfl⟩
 have hb4:Below W.heap.size W W4:=by rw[hW4];exact ((((Below.refl _ W).alloc (Nat.le_refl _) _).alloc (by simp) _).alloc (by simp;omega) _).alloc (by simp;omega) _
 have hz4:W4.heap.size=W.heap.size+4:=by rw[hW4];simp
 obtain⟨o3,o4,o5,o6⟩:Own 76 W4 W.heap.size (partV P N c a)∧Own 3 W4 (W.heap.size+1) [.int .i64 (s:Nat)]∧Own 89 W4 (W.heap.size+1+1) [.func (.yield l) #[] #[]]∧Own 4 W4 (W.heap.size+1+1+1) [.bool false]:=by
  obtain⟨Wa,ha⟩:∃ X,X=W.alloc (.cells #[.slice P N c,.func (.func 73) #[] #[],.int .i64 (a:Nat)] 76):=⟨_,rfl⟩
  obtain⟨Wb,hb⟩:∃ X,X=Wa.alloc (.cells #[.int .i64 (s:Nat)] 3):=⟨_,rfl⟩
  obtain⟨Wc,hc⟩:∃ X,X=Wb.alloc (.cells #[.func (.yield l) #[] #[]] 89):=⟨_,rfl⟩
  rw[← ha,← hb,← hc] at hW4
  have sa:Wa.heap.size=W.heap.size+1:=by rw[ha];simp
  have sb:Wb.heap.size=W.heap.size+2:=by rw[hb];simp[sa]
  have sc:Wc.heap.size=W.heap.size+3:=by rw[hc];simp[sb]
  have n1:Own 76 Wa W.heap.size (partV P N c a):=by rw[ha];exact heap_alloc_new W _
  have n2:Own 3 Wb (W.heap.size+1) [.int .i64 (s:Nat)]:=by rw[← sa,hb];exact heap_alloc_new Wa _
  have n3:Own 89 Wc (W.heap.size+1+1) [.func (.yield l) #[] #[]]:=by rw[← sb,hc];exact heap_alloc_new Wb _
  have n4:Own 4 W4 (W.heap.size+1+1+1) [.bool false]:=by rw[← sc,hW4];exact heap_alloc_new Wc _
  have q1:Below Wa.heap.size Wa Wb:=by rw[hb];exact (Below.refl _ _).alloc (Nat.le_refl _) _
  have q2:Below Wb.heap.size Wb Wc:=by rw[hc];exact (Below.refl _ _).alloc (Nat.le_refl _) _
  have q3:Below Wc.heap.size Wc W4:=by rw[hW4];exact (Below.refl _ _).alloc (Nat.le_refl _) _
  exact⟨(q3.block _ (by omega)).trans ((q2.block _ (by omega)).trans ((q1.block _ (by omega)).trans n1)),(q3.block _ (by omega)).trans ((q2.block _ (by omega)).trans n2),(q3.block _ (by omega)).trans n3,n4⟩
 have c0:=o3.cell (i:=0) rfl
 have c1:=o3.cell (i:=1) rfl
 have c2:=o3.cell (i:=2) rfl
 have c4:=o4.cell (i:=0) rfl
 have c5:=o5.cell (i:=0) rfl
 have c6:=o6.cell (i:=0) rfl
 have f6:=o6.frozen 0
 try dsimp only [partV] at c0 c1 c2 c4 c5 c6 f6
 have HW4:=Lib.hid hW4
 have HB4:=Lib.hid hb4
 have HZ4:=Lib.hid hz4
 have HO:=Lib.hid (And.intro o3 (And.intro o4 (And.intro o5 o6)))
 have hJ4:J xs0 W4:=hst _ _ _ (fun _=>False) hJ (Tch.of_below _ hb4) fun _ hk=>hk.elim
 have HJ4:=Lib.hid hJ4
 have HY:=Lib.hid hY
 have HST:=Lib.hid hst
 have HJR:=Lib.hid hJr
 have HG:=Lib.hid hG
 have HN:=Lib.hid hN
 have HF:=Lib.hid hF
 have HR:=Lib.hid hR
 have HTC:=Lib.hid htc
 have HIH:=Lib.hid IH
 have HP:=Lib.hid hP
 have HC:=Lib.hid (And.intro hNc (And.intro hN1 (And.intro haf (And.intro hd (And.intro hs hB0)))))
 clear hW4 hb4 hz4 o3 o4 o5 o6 hJ4 hY hst hJr hG hN hF hR htc IH hP hNc hN1 haf hd hs hB0 hJ
 refine callsIn_of_wp_marks Tryz.func75 rfl trivial ?_ rfl
 simp only[Tryz.ntmps75,List.size_toArray,List.length_cons,List.length_nil,Nat.reduceAdd,Nat.reduceSub,Array.replicate_succ,Array.replicate_zero,List.push_toArray,List.append_toArray,List.nil_append,List.cons_append]
 by_cases hns:N≤s
 ·have d1:decide ((N:Int)≤(s:Int))=true:=decide_eq_true (by omega)
  have d1n:decide (N≤s)=true:=decide_eq_true hns
  obtain⟨fn,tmps,assign,body,hy,hR⟩:=YieldAt.any (m:=11) (HY.out xs0 (P,N,c) W4 HJ4.out) (fun _ _ h=>h)
  unfold trV at hy
  dsimp only at hy
  have HRR:=Lib.hid hR
  have hE:lensJ (tellP s f a G)=[N]:=by
   have hl:G.length≤s:=by rw[← HN.out];exact hns
   cases f with
   | zero=>simp[tellP,lensJ,HN.out]
   | succ f=>simp[tellP,lensJ,HN.out,hl]
  have HE:=Lib.hid hE
  clear hR hE hns
  gi_wp2_with fail
  rw[← HW4.out,hy]
  clear c0 c1 c2 c4 c5 c6 f6
  gi_wp2_with fail
  refine HRR.out.mono ?_
  rintro e w7 ⟨rfl,hJ7,hT7⟩
  have hz:=HZ4.out
  have hc:=HC.out
  have o6:Own 4 w7 (W.heap.size+1+1+1) [.bool false]:=(hT7.block _ HO.out.2.2.2.lt fun hk=>by have:=HTC.out _ hk;omega).trans HO.out.2.2.2
  have c6:=o6.cell (i:=0) rfl
  have f6:=o6.frozen 0
  try dsimp only at c6 f6
  have HO6:=Lib.hid o6
  have HJ7:=Lib.hid hJ7
  have HT7:=Lib.hid hT7
  clear hJ7 hT7 o6 hy hz hc
  gi_wp2_with fail
  have hc7:(w7.setCell ⟨W.heap.size+1+1+1,0,none⟩ (.bool true)).cell? ⟨W.heap.size+1+1+1,0,none⟩=some (.bool true):=Own.cell (i:=0) (vs:=[.bool true]) (T:=4) (HO6.out.set_ 0 _) rfl
  refine⟨.bool true,?_,rfl,?_⟩
  ·simp[results,go_sem,hc7]
  ·have hT:Tch (fun k=>k=W.heap.size+1+1+1) w7 (w7.setCell ⟨W.heap.size+1+1+1,0,none⟩ (.bool true)):=Tch.of_only (only_setCell (W.heap.size+1+1+1) w7 0 _) rfl
   have hT4:Tch tc W W4:=Tch.of_below _ HB4.out
   exact⟨[(P,N,c)],by rw[HE.out];rfl,HST.out _ _ _ _ HJ7.out hT (fun k hk=>by have:=HC.out.2.2.2.2.2;omega),(hT4.same HT7.out).trans hT (fun k hk e=>by omega)⟩
 ·have d1:decide ((N:Int)≤(s:Int))=false:=decide_eq_false (by omega)
  have d1n:decide (N≤s)=false:=decide_eq_false hns
  obtain⟨f',rfl⟩:∃ f',f=f'+1:=by
   cases f with
   | succ f=>exact⟨f,rfl⟩
   | zero =>
    exfalso
    have hc:=HC.out
    have had:a=d:=by omega
    subst had
    have h1:=fit_end HF.out
    rw[rise_self HR.out] at h1
    have:=HN.out
    omega
  have HAP:=Lib.hid (xapart_fn P N c a W4)
  have HIH2:=Lib.hid (HIH.out f' rfl)
  clear hns HIH
  gi_wp2_with fail
  rw[← HW4.out]
  refine⟨trivial,?_⟩
  refine (callsIn_wide.2 HAP.out).mono ?_
  rintro e w5 ⟨rfl,rfl⟩
  clear c0 c1 c2 c4 c5 c6 f6 HAP
  gi_wp2_with fail
  obtain⟨W5,hW5⟩:∃ W5,W5=W4.alloc (.cells #[.slice P N c,.func (.func 73) #[] #[],.int .i64 (a:Nat)] 76):=⟨_,rfl⟩
  rw[← hW5]
  have hb5:Below W4.heap.size W4 W5:=by rw[hW5];exact (Below.refl _ _).alloc (Nat.le_refl _) _
  have hz5:W5.heap.size=W.heap.size+5:=by rw[hW5];simp[HZ4.out]
  have o7:Own 76 W5 (W.heap.size+1+1+1+1) (partV P N c a):=by
   have h:=heap_alloc_new W4 (.cells #[.slice P N c,.func (.func 73) #[] #[],.int .i64 (a:Nat)] 76)
   rw[← hW5,HZ4.out] at h
   exact h
  have hw4:W4.heap.size=W.heap.size+1+1+1+1:=HZ4.out
  rw[hw4]
  have hTI:TelI w0 W W5.heap.size P N c a s l J tc [] f' xs0 [] W5:=⟨HO.out.1.below hb5 HO.out.1.lt,HO.out.2.1.below hb5 HO.out.2.1.lt,HO.out.2.2.1.below hb5 HO.out.2.2.1.lt,HO.out.2.2.2.below hb5 HO.out.2.2.2.lt,o7,Nat.le_refl _,rfl,by rw[List.append_nil];exact HST.out _ _ _ (fun _=>False) HJ4.out (Tch.of_below _ hb5) fun _ hk=>hk.elim,Tch.of_below _ (HB4.out.trans (hb5.mono (by omega)))⟩
  have HTI:=Lib.hid hTI
  have HZ5:=Lib.hid hz5
  obtain⟨S,hS⟩:∃ S,S=segK a N off c G:=⟨_,rfl⟩
  have HS:=Lib.hid hS
  clear hTI hz5 o7 hb5 hW5 hw4 hS
  refine range_st rfl (by omega) (gf:=133) (lb:=#[.pointer (some ⟨W.heap.size+1+1+1+1,0,none⟩)]) rfl trivial (enters_of Tryz.func133 (by kernel_rfl) rfl) (encs:=fun x:SegX=>#[segV blk (a+1) x]) (S:=fun ps (_:List Tri)=>ps=S) (fun _=>rfl)
   (fun ps xs X=>TelI w0 W W5.heap.size P N c a s l J tc ps f' xs0 xs X) (fun ps x _ _=>∃ post,ps ++ x :: post=S) (fun _ _=>tc) (fun _ k=>W5.heap.size+2≤k) []
   (fun x X=>{ tmps:=#[Value.agg #[Value.slice P N c,Value.func (Fn.func 73) #[] #[],Value.int IntKind.i64 (a:Nat)],Value.int IntKind.i64 (s:Nat),Value.func (Fn.yield l) #[] #[],Value.pointer (some ⟨W.heap.size,0,none⟩),Value.pointer (some ⟨W.heap.size+1,0,none⟩),Value.pointer (some ⟨W.heap.size+1+1,0,none⟩),Value.pointer (some ⟨W.heap.size+1+1+1,0,none⟩),Value.pointer (some ⟨X.heap.size,0,none⟩),Value.pointer (some ⟨W.heap.size,0,none⟩),Value.slice P N c,Value.int IntKind.i64 (N:Nat),Value.int IntKind.i64 (s:Nat),Value.bool false,undef,undef,undef,undef,Value.agg #[Value.slice P N c,Value.func (Fn.func 73) #[] #[],Value.int IntKind.i64 (a:Nat)],Value.func (Fn.func 133) #[] #[Value.pointer (some ⟨W.heap.size+1+1+1+1,0,none⟩)],segV blk (a+1) x,undef,undef,undef,undef,undef],defers:=[] })
   (fun x X=>X.alloc (.cells #[.slice (some ⟨blk,x.1,none⟩) x.2.1 x.2.2.1,.func (.func 73) #[] #[],.int .i64 ((a+1:Nat):Int)] 76))
   ?hit ?hI ?hok ?htc ?h0 ?hwa ?hassign ?hbody ?hdone
  case hit =>
   intro J' W2 hbW hsz hJI' hst' hYl h0'
   have hc:=HC.out
   have hlen:∀ x ∈ S,True:=fun _ _=>trivial
   refine (callsIn_wide.2 (xapart_in (W5.heap.size+1) (W.heap.size+1+1+1+1) a d blk off P c N G w0 W2 HN.out HP.out HG.out hc.1 (fun x hx=>HF.out.len x hx) (by omega) hc.2.2.2.1 hc.2.1 (fun ps X=>∃ xs,J' ps xs X) (fun ps X ⟨xs,h⟩=>⟨HJR.out _ _ (hJI' _ _ _ h).1.j,(hJI' _ _ _ h).1.o7⟩) (fun ps A B ⟨xs,h⟩ hb=>⟨xs,hst' _ _ _ _ (fun _=>False) h (Tch.of_below _ hb) fun _ hk=>hk.elim⟩) (fun ps x W1 ⟨xs,h⟩ hp=>?_) ⟨_,h0'⟩)).mono ?_
   ·rw[← HS.out] at hp
    exact YieldAt.any (hYl ps xs x W1 h hp) fun e W' ⟨he,s',hJ,_⟩=>⟨he,s',hJ⟩
   ·rintro e W' ⟨hv,xs,hJ⟩
    rw[← HS.out] at hJ
    exact⟨hv,S,xs,rfl,hJ⟩
  case hI =>
   intro ps xs A B M h1 ht hM
   exact h1.stay HST.out HZ5.out HC.out.2.2.2.2.2 ht fun k hk=>by
    rcases hM k hk with q | ⟨q,-⟩ <;> omega
  case hok=>exact fun _ _ h=>h
  case htc=>exact fun _ _ _ _ _ _ _ _ _ _ k hk=>by have:=HTC.out k hk;have:=HC.out.2.2.2.2.2;have:=HZ5.out;omega
  case h0=>exact HTI.out
  case hwa=>exact fun _ W=>(Below.refl _ _).alloc (Nat.le_refl _) _
  case hassign =>
   intro ps xs x X K hI hx hK
   have HKK:=Lib.hid hK
   clear hI hx hK
   unfold segV at HKK ⊢
   gi_wp2
   exact HKK.out
  case hbody =>
   rintro ps xs ⟨o',n',c',p⟩ X Xb hI ⟨post,hp⟩ hsz ⟨r,hr⟩ hT
   have hc:=HC.out
   obtain⟨X1,hX1⟩:∃ X1,X1=X.alloc (.cells #[.slice (some ⟨blk,o',none⟩) n' c',.func (.func 73) #[] #[],.int .i64 ((a+1:Nat):Int)] 76):=⟨_,rfl⟩
   dsimp only at hT ⊢
   rw[← hX1] at hT
   have hb1:Below X.heap.size X X1:=by rw[hX1];exact (Below.refl _ _).alloc (Nat.le_refl _) _
   have o81:Own 76 X1 X.heap.size (partV (some ⟨blk,o',none⟩) n' c' (a+1)):=by rw[hX1];exact heap_alloc_new X _
   have hI1:=hI.stay (M:=fun _=>False) HST.out HZ5.out hc.2.2.2.2.2 (Tch.of_below _ hb1) fun _ hk=>hk.elim
   have hIb:=hI1.stay HST.out HZ5.out hc.2.2.2.2.2 hT (fun k hk=>by rw[show k=W5.heap.size+1 from hk];omega)
   have o8b:Own 76 Xb X.heap.size (partV (some ⟨blk,o',none⟩) n' c' (a+1)):=(hT.block _ o81.lt (by omega)).trans o81
   obtain⟨q1,q2,q3,q4,q5⟩:=segK_each N off c G (by rw[← HN.out];exact hc.1) HG.out (o',n',c',p) (by rw[← HS.out,← hp];simp)
   dsimp only at q1 q2 q3 q4 q5
   have hFp:Fit d (a+1) p:=(HF.out.sub fun x hx=>q4.subset hx).next (by omega) q5
   have hRp:RiseC p:=List.Pairwise.sublist q4 HR.out
   have hpl:=q4.length_le
   rw[← HN.out] at hpl
   have hXb:=hT.size
   have hb1s:=hb1.size
   have HCL:=Lib.hid (HIH2.out l (a+1) d s blk o' (some ⟨blk,o',none⟩) c' n' p w0 Xb tc B0 J (xs0 ++ xs) q1 (fun _=>rfl) q3 q2 (by omega) hFp hRp (by omega) hc.2.2.2.1 hc.2.2.2.2.1 (by have:=HZ5.out;omega) HTC.out HJR.out HST.out HY.out hIb.j)
   have e4:=hIb.o4.cell (i:=0) rfl
   have e5:=hIb.o5.cell (i:=0) rfl
   have e0:=o8b.cell (i:=0) rfl
   have e1:=o8b.cell (i:=1) rfl
   have e2:=o8b.cell (i:=2) rfl
   try dsimp only [partV] at e4 e5 e0 e1 e2
   have HIb:=Lib.hid hIb
   clear hI hp hsz hr hT hb1 o81 hI1 hIb o8b q1 q2 q3 q4 q5 hFp hRp hpl hXb hb1s hc hX1
   gi_wp2_with fail
   refine⟨trivial,?_⟩
   refine (CallsIn.inRound _ (callsIn_wide.2 HCL.out)).mono ?_
   rintro e w9 ⟨rfl,ys,hy1,hy2,hy3⟩
   have HM:=Lib.hid (HIb.out.more (x:=(o',n',c',p)) hy1 hy2 hy3 fun k hk=>by have:=HTC.out k hk;have:=HC.out.2.2.2.2.2;omega)
   have HT9:=Lib.hid hy3
   clear hy1 hy2 hy3 HCL
   gi_wp2
   exact⟨xs ++ ys,HM.out,HT9.out,fun k _ h2 _=>h2⟩
  case hdone =>
   intro ps xs X hS hI hD0
   have e6:=hI.o6.cell (i:=0) rfl
   have f6:=hI.o6.frozen 0
   try dsimp only at e6 f6
   have HI:=Lib.hid hI
   have HDN:=Lib.hid hD0
   have HPS:=Lib.hid hS
   clear hS hI hD0
   gi_wp2
   have hz5:=HZ5.out
   have hB:=HC.out.2.2.2.2.2
   have hT:Tch (fun k=>k=W.heap.size+1+1+1) X (X.setCell ⟨W.heap.size+1+1+1,0,none⟩ (.bool true)):=Tch.of_only (only_setCell (W.heap.size+1+1+1) X 0 _) rfl
   have hD2:(X.setCell ⟨W.heap.size+1+1+1,0,none⟩ (.bool true)).heap[W5.heap.size]? = some (.deferred (some [])):=(Below.heap_setCell _ _ _ _ (by show W5.heap.size ≠ W.heap.size+1+1+1;omega)).trans HDN.out
   have hT2:=tch_put (M:=fun k=>k=W5.heap.size) (W:=X.setCell ⟨W.heap.size+1+1+1,0,none⟩ (.bool true)) (.deferred none) rfl
   have hc6:((X.setCell ⟨W.heap.size+1+1+1,0,none⟩ (.bool true)).putObj W5.heap.size (.deferred none)).cell? ⟨W.heap.size+1+1+1,0,none⟩=some (.bool true) :=
    Own.cell (i:=0) (vs:=[.bool true]) (T:=4) ((World.putObj_heap_other (by omega)).trans (HI.out.o6.set_ 0 _)) rfl
   refine⟨by simp,.inl ⟨_,_,rfl,run_takeDeferred hD2,?_⟩⟩
   refine⟨.bool true,?_,rfl,?_⟩
   ·simp[results,go_sem,hc6]
   ·have hG:¬ G.length≤s:=by rw[← HN.out];exact of_decide_eq_false d1n
    refine⟨xs,?_,HST.out _ _ _ _ (HST.out _ _ _ _ HI.out.j hT fun k hk=>by omega) hT2 fun k hk=>by omega,(HI.out.t.trans hT fun k hk e=>by omega).trans hT2 fun k hk e=>by omega⟩
    rw[HI.out.ln,HPS.out,HS.out,segK_runs]
    unfold tellP
    rw[if_neg hG,HN.out]
theorem xtell_any:∀ f,TellS f
 | 0=>xtell_step 0 fun f' h=>by cases h
 | f+1=>xtell_step (f+1) fun f' h=>by cases h;exact xtell_any f
end Go.Proofs.YtnjlkhhcfiedbaaGreatDoor

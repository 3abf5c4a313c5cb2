import Derived.IntWalk
import Derived.Test.YtnjlkhhcfiedbaaGreatDoorSl
import Derived.Test.YtnjlkhhcfiedbaaGreatDoorHpJ
import Derived.Test.YtnjlkhhcfiedbaaGreatDoorRegP
namespace Go.Proofs.YtnjlkhhcfiedbaaGreatDoor
open Go.RowKit Go.Shelf Go.Sort
theorem keeps_blocks {w Y:World} (h:∀ k,k<w.heap.size→Y.heap[k]? = w.heap[k]?):Keeps w Y:=fun p v hp=>by
 rw[World.cell?_of_block (w:=w) (h p.block (block_lt hp))]
 exact hp
def Rz (w0 X:World) (Z:Nat→Prop) (u:V5) (x:Cel):Prop:=∀ Y:World,(∀ k,k<X.heap.size→(k<w0.heap.size∨Z k)→Y.heap[k]? = X.heap[k]?)→Reads Y u x
theorem Rz.stay {w0 X Y:World} {Z Z':Nat→Prop} {u:V5} {x:Cel} (h:Rz w0 X Z u x) (hs:X.heap.size≤Y.heap.size) (he:∀ k,k<X.heap.size→(k<w0.heap.size∨Z k)→Y.heap[k]? = X.heap[k]?) (hZ:∀ k,Z k→Z' k):Rz w0 Y Z' u x:=fun V hV=>h V fun k hk hz=>(hV k (by omega) (hz.imp id (hZ k))).trans (he k hk hz)
theorem JV.rz {w0 X:World} {B:Nat} {Z:Nat→Prop} {u:V5} {x:Cel} (h:JV w0 B X u x) (hb:Below w0.heap.size w0 X) (hZ:∀ k,B≤k→k<X.heap.size→Z k):Rz w0 X Z u x:=fun Y hY=>by
 rcases h with h | h
 ·exact h.keep (keeps_blocks fun k hk=>(hY k (Nat.lt_of_lt_of_le hk hb.size) (.inl hk)).trans (hb.block k hk))
 ·refine OwnC.reads (B:=B) (OwnC.stay h fun {w xs} o=>⟨own_stay o.1 fun k hk=>?_,o.2⟩)
  have:=o.1.lt k hk
  exact hY k this.2 (.inr (hZ k this.1 this.2))
section
variable {w0 we X Y:World} {z b2 b5 b6 b7:Nat} {Ls:Value}
def TcO (b5:Nat) (lv:Value) (k:Nat):Prop:=k=b5∨lv.ownBlock=some k
abbrev SO:=(Nat→Prop) × Value × List V5
def OkO (z:Nat) (s:SO) (k:Nat):Prop:=z+2≤k∧¬ s.1 k∧s.2.1.ownBlock ≠ some k
def kdV:List Value:=[.func (.func 97) #[] #[],.func (.func 62) #[] #[]]
structure OneI (w0 we:World) (z b2 b5 b6 b7:Nat) (Ls:Value) (pre:List GX) (s:SO) (X:World):Prop where
 bw:Below w0.heap.size w0 X
 be:Below we.heap.size we X
 ss:w0.heap.size≤we.heap.size
 zX:z≤X.heap.size
 o5:Own 31 X b5 [s.2.1]
 o2:Own 98 X b2 kdV
 o6:Own 98 X b6 kdV
 o7:Own 64 X b7 [Ls]
 row:X.ownsRow we.heap.size 46 5 s.2.1 s.2.2.length (flatV s.2.2)
 len:s.2.2.length=pre.length
 rd:∀ (i:Nat) u g,s.2.2[i]? = some u→pre[i]? = some g→Rz w0 X s.1 u (joinAll g.2)
 zc:∀ k,s.1 k→z+2≤k∧k<X.heap.size∧s.2.1.ownBlock ≠ some k
 rz:∀ k,s.2.1.ownBlock=some k→z+2≤k
def WhO (we:World) (z b2 b5 b6 b7:Nat):Prop:=we.heap.size≤b2∧we.heap.size≤b5∧we.heap.size≤b6∧we.heap.size≤b7∧b2<z∧b5<z∧b6<z∧b7<z∧b2 ≠ b5∧b6 ≠ b5∧b7 ≠ b5
theorem OneI.stay {pre:List GX} {s:SO} {M:Nat→Prop} (h:OneI w0 we z b2 b5 b6 b7 Ls pre s X) (hw:WhO we z b2 b5 b6 b7) (ht:Tch M X Y) (hM:∀ k,M k→OkO z s k∨k=z∨k=z+1):OneI w0 we z b2 b5 b6 b7 Ls pre s Y:=by
 obtain⟨h1,h2,h3,h4,h5,h6,h7,h8,h9,h10,h11⟩:=hw
 have no:∀ b,b<z→¬ M b:=fun b hb hm=>by
  rcases hM b hm with q | q | q
  ·have:=q.1;omega
  ·omega
  ·omega
 have nr:∀ k,s.2.1.ownBlock=some k→¬ M k:=fun k hk hm=>by
  have:=h.rz k hk
  rcases hM k hm with q | q | q
  ·exact q.2.2 hk
  ·omega
  ·omega
 have nz:∀ k,s.1 k→¬ M k:=fun k hk hm=>by
  have:=(h.zc k hk).1
  rcases hM k hm with q | q | q
  ·exact q.2.1 hk
  ·omega
  ·omega
 have hlow:∀ k,M k→we.heap.size≤k:=fun k hm=>by
  rcases Nat.lt_or_ge k z with q | q
  ·exact absurd hm (no k q)
  ·omega
 exact⟨h.bw.trans (ht.below (fun k hk=>Nat.le_trans h.ss (hlow k hk)) h.bw.size),h.be.trans (ht.below hlow h.be.size),h.ss,Nat.le_trans h.zX ht.size,h.o5.tchM ht (no _ h6),h.o2.tchM ht (no _ h5),h.o6.tchM ht (no _ h7),h.o7.tchM ht (no _ h8),own_stay h.row fun k hk=>ht.block k (h.row.lt k hk).2 (nr k hk),h.len,
  fun i u g hu hg=>(h.rd i u g hu hg).stay ht.size (fun k hk hz=>ht.block k hk fun hm=>by
   rcases hz with q | q
   ·have:=hlow k hm;have:=h.ss;omega
   ·exact nz k q hm) fun _ q=>q,
  fun k hk=>⟨(h.zc k hk).1,Nat.lt_of_lt_of_le (h.zc k hk).2.1 ht.size,(h.zc k hk).2.2⟩,h.rz⟩
theorem OneI.more {pre:List GX} {s:SO} {g:GX} {u:V5} {v':Value} {w1 W3:World} (h:OneI w0 we z b2 b5 b6 b7 Ls pre s X) (hw:WhO we z b2 b5 b6 b7) (hz:z+2≤X.heap.size) (hb:Below X.heap.size X w1) (hj:JV w0 X.heap.size w1 u (joinAll g.2)) (hr:Y.ownsRow we.heap.size 46 5 v' (s.2.2 ++ [u]).length (flatV (s.2.2 ++ [u]))) (ht:Tch (fun k=>s.2.1.ownBlock=some k) w1 Y) (hbl:∀ k,v'.ownBlock=some k→s.2.1.ownBlock=some k∨w1.heap.size≤k) (hW3:W3=Y.setCell ⟨b5,0,none⟩ v') :
  OneI w0 we z b2 b5 b6 b7 Ls (pre ++ [g]) (fun k=>s.1 k∨(X.heap.size≤k∧k<w1.heap.size),v',s.2.2 ++ [u]) W3∧Tch (TcO b5 s.2.1) X W3∧∀ k,k<X.heap.size→OkO z s k→OkO z (fun k=>s.1 k∨(X.heap.size≤k∧k<w1.heap.size),v',s.2.2 ++ [u]) k:=by
 obtain⟨h1,h2,h3,h4,h5,h6,h7,h8,h9,h10,h11⟩:=hw
 have hT:Tch (TcO b5 s.2.1) w1 W3:=by
  rw[hW3]
  exact (ht.mono fun k _ hk=>.inr hk).same (Tch.setCell (M:=TcO b5 s.2.1) (g:=b5) (.inl rfl) _ _ _)
 have hTX:Tch (TcO b5 s.2.1) X W3:=(Tch.of_below _ hb).same hT
 have hsz:w1.heap.size≤W3.heap.size:=hT.size
 have no:∀ b,b<z→b ≠ b5→¬ TcO b5 s.2.1 b:=fun b hb' hne hm=>by
  rcases hm with q | q
  ·exact hne q
  ·have:=h.rz b q;omega
 have hlow:∀ k,TcO b5 s.2.1 k→we.heap.size≤k:=fun k hm=>by
  rcases hm with q | q
  ·rw[q];exact h2
  ·have:=h.rz k q;have:=h.zX;omega
 have nz:∀ k,s.1 k→¬ TcO b5 s.2.1 k:=fun k hk hm=>by
  rcases hm with q | q
  ·have:=(h.zc k hk).1;omega
  ·exact (h.zc k hk).2.2 q
 have hbw1:=h.bw.trans (hb.mono h.bw.size)
 have hsb:=hb.size
 have n5:∀ k,v'.ownBlock=some k→k ≠ b5:=fun k hk e=>by
  rcases hbl k hk with q | q
  ·have:=h.rz k q;omega
  ·have:=h.zX;omega
 have o5w:Own 31 Y b5 [s.2.1]:=(h.o5.below hb h.o5.lt).tchM ht fun hk=>by have:=h.rz b5 hk;omega
 have hJ3:∀ k,k<w1.heap.size→(X.heap.size≤k∨k<w0.heap.size)→W3.heap[k]? = w1.heap[k]?:=fun k hk hq=>hT.block k hk fun hm=>by
  have hss:=h.ss
  rcases hm with q | q
  ·have:=h.zX;omega
  ·have:=(h.row.lt k q).2
   have:=h.rz k q
   have:=h.bw.size
   omega
 refine⟨⟨h.bw.trans (hTX.below (fun k hk=>Nat.le_trans h.ss (hlow k hk)) h.bw.size),h.be.trans (hTX.below hlow h.be.size),h.ss,Nat.le_trans h.zX hTX.size,?_,h.o2.tchM hTX (no _ h5 h9),h.o6.tchM hTX (no _ h7 h10),h.o7.tchM hTX (no _ h8 h11),?_,by rw[List.length_append,List.length_append,h.len];rfl,fun i v gg hu hg=>?_,fun k hk=>?_,fun k hk=>?_⟩,hTX,fun k hk hok=>?_⟩
 ·rw[hW3]
  exact o5w.set_ 0 v'
 ·rw[hW3]
  exact own_stay hr fun k hk=>Below.heap_setCell _ _ _ _ (n5 k hk)
 ·rcases Nat.lt_or_ge i s.2.2.length with hi | hi
  ·rw[List.getElem?_append_left hi] at hu
   rw[List.getElem?_append_left (by rw[← h.len];exact hi)] at hg
   refine (h.rd i v gg hu hg).stay hTX.size (fun k hk hz=>hTX.block k hk fun hm=>?_) fun k q=>.inl q
   rcases hz with q | q
   ·have:=hlow k hm;have:=h.ss;omega
   ·exact nz k q hm
  ·rw[List.getElem?_append_right hi] at hu
   rw[List.getElem?_append_right (by rw[← h.len];exact hi),← h.len] at hg
   rcases hd:i - s.2.2.length with _ | q
   ·rw[hd] at hu hg
    simp only[List.getElem?_cons_zero,Option.some.injEq] at hu hg
    subst hu hg
    have hrz:Rz w0 w1 (fun k=>X.heap.size≤k∧k<w1.heap.size) u (joinAll g.2):=hj.rz hbw1 fun k q1 q2=>⟨q1,q2⟩
    refine hrz.stay hsz (fun k hk hz=>hJ3 k hk ?_) fun k q=>.inr q
    rcases hz with q | q
    ·exact .inr q
    ·exact .inl q.1
   ·rw[hd] at hu;simp at hu
 ·rcases hk with q | q
  ·have:=h.zc k q
   have h4':=hTX.size
   refine⟨this.1,by omega,fun e=>?_⟩
   rcases hbl k e with r | r
   ·exact this.2.2 r
   ·omega
  ·refine⟨by omega,by omega,fun e=>?_⟩
   rcases hbl k e with r | r
   ·have:=(h.row.lt k r).2;omega
   ·omega
 ·rcases hbl k hk with r | r
  ·exact h.rz k r
  ·omega
 ·refine⟨hok.1,fun q=>?_,fun e=>?_⟩
  ·rcases q with q | q
   ·exact hok.2.1 q
   ·omega
  ·rcases hbl k e with r | r
   ·exact hok.2.2 r
   ·omega
theorem OneI.list {pre:List GX} {s:SO} (h:OneI w0 we z b2 b5 b6 b7 Ls pre s X):∃ A c,s.2.1=.slice A (pre.map fun g=>joinAll g.2).length c∧(∀ Y:World,(∀ k,k<X.heap.size→(k<w0.heap.size∨z+2≤k)→Y.heap[k]? = X.heap[k]?)→RowC Y A (pre.map fun g=>joinAll g.2).length (pre.map fun g=>joinAll g.2))∧(pre.map fun g=>joinAll g.2).length≤c:=by
 obtain⟨A,c,e,hlc,-,hc⟩:=own_form h.row
 have hl:s.2.2.length=(pre.map fun g=>joinAll g.2).length:=by rw[List.length_map,h.len]
 rw[hl] at e hlc hc
 refine⟨A,c,e,fun Y hY hn=>?_,hlc⟩
 obtain⟨g,rfl,-,hc⟩:=hc hn
 have hgz:z+2≤g:=h.rz g (by rw[e];rfl)
 refine⟨_,rfl,cells_of_vals (vs:=s.2.2) ⟨hl,fun i v x hv hx=>?_⟩ fun j u hu=>?_⟩
 ·rw[List.getElem?_map] at hx
  obtain⟨gg,hg,rfl⟩:=Option.map_eq_some_iff.1 hx
  exact h.rd i v gg hv hg Y fun k hk hz=>hY k hk (hz.imp id fun q=>(h.zc k q).1)
 ·rw[add0]
  have h1:=hc j u hu
  have h2:=block_lt h1
  rw[World.cell?_of_block (w:=X) (hY g h2 (.inr hgz))]
  exact h1
end
end Go.Proofs.YtnjlkhhcfiedbaaGreatDoor
namespace Go.Proofs.YtnjlkhhcfiedbaaGreatDoor
open Go.RowKit Go.Shelf Go.Sort
attribute [local go_sem] Oper.semAt_some
set_option maxHeartbeats 1000000 in
theorem alike_fn (P:Option Addr) (N c:Nat) (w:World) :
  Calls Tryz.prog 95 #[.agg #[.func (.func 97) #[] #[],.func (.func 62) #[] #[]],.slice P N c] w fun e w'=>e=.returned (.func (.func 116) #[] #[.pointer (some ⟨w.heap.size+1,0,none⟩),.pointer (some ⟨w.heap.size,0,none⟩)])∧w'=(w.alloc (.cells #[.func (.func 97) #[] #[],.func (.func 62) #[] #[]] 98)).alloc (.cells #[.slice P N c] 64):=by
 go_enter Tryz.func95,Tryz.ntmps95
 go_wp2
 go_ret
 exact⟨rfl,rfl⟩
theorem four_al (w:World) (A B C D:Obj):((((w.alloc A).alloc B).alloc C).alloc D).heap[w.heap.size]? = some A∧((((w.alloc A).alloc B).alloc C).alloc D).heap[w.heap.size+1]? = some B∧((((w.alloc A).alloc B).alloc C).alloc D).heap[w.heap.size+1+1]? = some C∧((((w.alloc A).alloc B).alloc C).alloc D).heap[w.heap.size+1+1+1]? = some D∧Below w.heap.size w ((((w.alloc A).alloc B).alloc C).alloc D)∧((((w.alloc A).alloc B).alloc C).alloc D).heap.size=w.heap.size+1+1+1+1:=by
 have s1:(w.alloc A).heap.size=w.heap.size+1:=by simp
 have s2:((w.alloc A).alloc B).heap.size=w.heap.size+1+1:=by simp
 have s3:(((w.alloc A).alloc B).alloc C).heap.size=w.heap.size+1+1+1:=by simp
 have e1:=heap_alloc_new w A
 have e2:=heap_alloc_new (w.alloc A) B
 have e3:=heap_alloc_new ((w.alloc A).alloc B) C
 have e4:=heap_alloc_new (((w.alloc A).alloc B).alloc C) D
 rw[s1] at e2
 rw[s2] at e3
 rw[s3] at e4
 refine⟨(Below.heap_alloc _ _ _ (by omega)).trans ((Below.heap_alloc _ _ _ (by omega)).trans ((Below.heap_alloc _ _ _ (by omega)).trans e1)),(Below.heap_alloc _ _ _ (by omega)).trans ((Below.heap_alloc _ _ _ (by omega)).trans e2),(Below.heap_alloc _ _ _ (by omega)).trans e3,e4,((((Below.refl _ w).alloc (Nat.le_refl _) _).alloc (by omega) _).alloc (by omega) _).alloc (by omega) _,by simp⟩
theorem cell_not_loop {X Y:World} {b:Nat} {r:Loop} (hr:X.heap[b]? = some (.loop r)) (hT:Tch (fun k=>k=b) X Y) {p:Addr} {v:Value} (h:X.cell? p=some v):Y.cell? p=some v:=by
 have hne:p.block ≠ b:=fun e=>by
  unfold World.cell? at h
  rw[e,hr] at h
  cases h
 rw[World.cell?_of_block (w:=X) (hT.block p.block (block_lt h) hne)]
 exact h
theorem uponIn_append {F:Fence} {n:Nat} {P:Program} {o:Oper} {a:Act} {w:World} {K:Act→World→Prop} {Q:Exit→Act→World→Prop} (s x:Operand) (t:TypeId)
  (ho:o.op=.call { callee:=.builtin .append,args:=#[s,x],argTypes:=#[t,t] }) (v u v':Value) (w':World) (hs:a.eval s=v) (hx:a.eval x=u)
  (hrun:(Builtin.append_ #[t,t] o.type #[v,u]).run P w=.ok v' w') (h:K (a.put o.dst v') w'):o.uponIn F n P a K Q ((execOp a.eval o).run P w):=by
 unfold execOp
 simp only[ho,resolve,invoke,builtin,Sem.run_bind,Sem.run_pure,Result.andThen_ok,List.map_toArray,List.map_cons,List.map_nil,hs,hx,hrun]
 exact h
def OneR (w0 w:World) (G:List Cel) (e:Ending) (w':World):Prop:=(∃ A c,e=.returned (.slice A G.length c)∧(∀ Y:World,(∀ k,k<w'.heap.size→(k<w0.heap.size∨w.heap.size≤k)→Y.heap[k]? = w'.heap[k]?)→RowC Y A G.length G)∧G.length≤c)∧Below w.heap.size w w'
set_option maxRecDepth 100000 in
set_option maxHeartbeats 8000000 in
theorem hone_any (P:Option Addr) (c N me:Nat) (Js:List (List Cel)) (w0 w:World) (hb:Below w0.heap.size w0 w) (hN:N=Js.length) (hN1:N≤1000) (hR:RCc w0 P N Js) (hk:∀ J ∈ Js,∀ x ∈ J,x.key.length≤1000000) (hr:∀ J ∈ Js,RiseC J) (hev:∀ J ∈ Js,∀ x ∈ J,EvenC me x) (hme:me≤1000000) (htot:Js.flatten.length≤100000) :
  Calls Tryz.prog 122 #[.agg #[.func (.func 97) #[] #[],.func (.func 62) #[] #[]],.slice P N c] w (OneR w0 w (grpR Js.flatten)):=by
 have HR:=Lib.hid hR
 have HB0:=Lib.hid hb
 have HK:=Lib.hid hk
 have HRI:=Lib.hid hr
 have HEV:=Lib.hid hev
 have HTT:=Lib.hid htot
 have HNN:=Lib.hid (And.intro hN hN1)
 clear hR hk hr hev htot hN hN1 hb
 rw[← callsIn_wide (n:=12)]
 refine callsIn_of_wp_marks Tryz.func122 rfl trivial ?_ rfl
 simp only[Tryz.ntmps122,List.size_toArray,List.length_cons,List.length_nil,Nat.reduceAdd,Nat.reduceSub,Array.replicate_succ,Array.replicate_zero,List.push_toArray,List.append_toArray,List.nil_append,List.cons_append]
 gi_wp2_with fail
 refine⟨trivial,?_⟩
 refine (callsIn_wide.2 (alike_fn P N c _)).mono ?_
 rintro e w2 ⟨rfl,rfl⟩
 gi_wp2_with fail
 obtain⟨e2,e5,e6,e7,hb4,hz4⟩:=four_al w (.cells #[.func (.func 97) #[] #[],.func (.func 62) #[] #[]] 98) (.cells #[.slice none 0 0] 31) (.cells #[.func (.func 97) #[] #[],.func (.func 62) #[] #[]] 98) (.cells #[.slice P N c] 64)
 obtain⟨W4,hW4⟩:∃ W4,W4=((((w.alloc (.cells #[.func (.func 97) #[] #[],.func (.func 62) #[] #[]] 98)).alloc (.cells #[.slice none 0 0] 31)).alloc (.cells #[.func (.func 97) #[] #[],.func (.func 62) #[] #[]] 98)).alloc (.cells #[.slice P N c] 64)):=⟨_,rfl⟩
 rw[← hW4] at e2 e5 e6 e7 hb4 hz4 ⊢
 obtain⟨b7,hb7⟩:∃ b,b=w.heap.size+1+1+1:=⟨_,rfl⟩
 obtain⟨b6,hb6⟩:∃ b,b=w.heap.size+1+1:=⟨_,rfl⟩
 obtain⟨b5,hb5⟩:∃ b,b=w.heap.size+1:=⟨_,rfl⟩
 obtain⟨b2,hb2⟩:∃ b,b=w.heap.size:=⟨_,rfl⟩
 rw[← hb7] at e7
 rw[← hb6] at e6
 rw[← hb5] at e5
 rw[← hb2] at e2
 rw[← hb7,← hb6,← hb5,← hb2]
 have hw:WhO w W4.heap.size b2 b5 b6 b7:=⟨by omega,by omega,by omega,by omega,by omega,by omega,by omega,by omega,by omega,by omega,by omega⟩
 have hI0:OneI w0 w W4.heap.size b2 b5 b6 b7 (.slice P N c) [] (fun _=>False,.slice none 0 0,[]) W4:=⟨HB0.out.trans (hb4.mono HB0.out.size),hb4,HB0.out.size,Nat.le_refl _,e5,e2,e6,e7,World.ownsRow_nil _ _ _ _,rfl,fun i u g hu=>by simp at hu,fun k hk=>hk.elim,fun k hk=>by cases hk⟩
 have HW:=Lib.hid hw
 have HI0:=Lib.hid hI0
 obtain⟨All,hAll⟩:∃ All,All=Js.flatten:=⟨_,rfl⟩
 have HALL:=Lib.hid hAll
 clear e2 e5 e6 e7 hb4 hz4 hW4 hb7 hb6 hb5 hb2 hw hI0 hAll
 refine range_st rfl (by omega) (gf:=116) (lb:=#[.pointer (some ⟨b7,0,none⟩),.pointer (some ⟨b6,0,none⟩)]) rfl trivial (enters_of Tryz.func116 (by kernel_rfl) rfl) (encs:=fun x:GX=>#[x.1]) (S:=fun xs (_:SO)=>GrpG (xs.map (·.2))∧(xs.map (·.2)).flatten.Perm Js.flatten) (fun _=>rfl)
  (OneI w0 w W4.heap.size b2 b5 b6 b7 (.slice P N c)) (fun pre x _ W=>GpX w0 W Js.flatten x∧pre.length+x.2.length≤Js.flatten.length) (fun _ s k=>TcO b5 s.2.1 k) (OkO W4.heap.size) (fun _=>False,.slice none 0 0,[])
  (fun x _=>{ tmps:=#[.agg #[.func (.func 97) #[] #[],.func (.func 62) #[] #[]],.slice P N c,.pointer (some ⟨b2,0,none⟩),undef,.slice none 0 0,.pointer (some ⟨b5,0,none⟩),x.1,.agg #[.func (.func 97) #[] #[],.func (.func 62) #[] #[]],.slice P N c,.func (.func 116) #[] #[.pointer (some ⟨b7,0,none⟩),.pointer (some ⟨b6,0,none⟩)],x.1,undef,undef,undef,undef,undef,undef,undef],defers:=[] }) (fun _ W=>W)
  ?hit ?hI ?hok ?htc ?h0 ?hwa ?hassign ?hbody ?hdone
 case hit =>
  intro J' W2 hbW hsz hJI' hst' hYl h0'
  have hnt:∀ (x:GX) (s:SO) k,TcO b5 s.2.1 k→¬ OkO W4.heap.size s k:=fun x s k hk hok=>by
   rcases hk with q | q
   ·have:=hok.1;have:=HW.out.2.2.2.2.2.1;omega
   ·exact hok.2.2 q
  refine malike_in (12 - 1) (W4.heap.size+1) b7 b6 (by omega) P c N Js w0 W2 HNN.out.1 HNN.out.2 HR.out HK.out HRI.out HTT.out J' (OkO W4.heap.size) (fun _ s k=>TcO b5 s.2.1 k)
   ⟨fun pre s X h=>(hJI' pre s X h).1.bw,fun pre s X k h hk=>?_,hst'⟩ (fun pre s X h=>?_) hnt (fun pre s x W1 h hx hxl=>?_) _ h0'
  ·obtain⟨h1,h2⟩:=hJI' pre s X h
   exact⟨by omega,fun q=>by have:=(h1.zc k q).2.1;omega,fun q=>by have:=(h1.row.lt k q).2;omega⟩
  ·have h1:=(hJI' pre s X h).1
   exact⟨h1.o7.cell (i:=0) rfl,h1.o6.cell (i:=0) rfl⟩
  ·obtain⟨fn,tmps,assign,body,hy,hR⟩:=hYl pre s x W1 h ⟨hx,hxl⟩
   refine⟨fn,tmps,assign,body,hy,hR.mono ?_⟩
   rintro e W' ⟨he,s',hJ,hT,hk⟩
   exact⟨he,s',hJ,hT,fun k q1 q2=>hk k q1 q2 fun q3=>hnt x s k q3 q2⟩
 case hI =>
  intro pre s A B M h1 ht hM
  exact h1.stay HW.out ht fun k hk=>by
   rcases hM k hk with q | ⟨q,-⟩
   ·exact .inl q
   ·exact .inr q
 case hok=>exact fun s k h=>h.1
 case htc =>
  intro pre s x W r d hI hx hd hl k hk
  rcases hk with q | q
  ·have:=HW.out.2.2.2.2.2.1;omega
  ·have:=hI.rz k q;omega
 case h0=>exact HI0.out
 case hwa=>exact fun _ W=>Below.refl _ _
 case hassign =>
  intro pre s x W K hI hx hK
  have HKK:=Lib.hid hK
  clear hI hx hK
  gi_wp2
  exact HKK.out
 case hbody =>
  rintro pre ⟨Z,lv,us⟩ ⟨gv,gl⟩ X Xb hI hx hsz ⟨r,hr⟩ hT
  obtain⟨⟨⟨g,c',gus,hgv,hgc,hgr,hgl⟩,hgne,hgk,hgm⟩,hxl⟩:=hx
  dsimp only at hgv hgc hgr hgl hgne hgk hgm hT ⊢
  subst hgv
  have hIb:=hI.stay HW.out hT (fun k hk=>.inr (.inr hk))
  have hglb:∀ j u,(flatV gus)[j]? = some u→Xb.drew.cell? ⟨g,j,none⟩=some u:=fun j u hu=>cell_not_loop hr hT (hgl j u hu)
  have hId:=hIb.stay HW.out (M:=fun _=>False) (Tch.of_below _ (Below.refl Xb.heap.size Xb).drew) (fun k hk=>hk.elim)
  have hszb:W4.heap.size+2≤Xb.drew.heap.size:=Nat.le_trans hsz hT.size
  obtain⟨x0,l,rfl⟩:=List.exists_cons_of_ne_nil hgne
  have hlm:∀ y ∈ x0 :: l,∃ J ∈ Js,y ∈ J:=fun y hy=>by
   obtain⟨J,hJ,hy⟩:=List.mem_flatten.1 (hgm y hy)
   exact⟨J,hJ,hy⟩
  have hXX:X.heap.size≤Xb.drew.heap.size:=hT.size
  have hpl:us.length≤100000∧(x0 :: l).length≤100000:=by
   have h1:=HTT.out
   have h2:us.length=pre.length:=hId.len
   dsimp only at hxl
   omega
  obtain⟨m,hm⟩:∃ m,m=(x0 :: l).length:=⟨_,rfl⟩
  have hJN:=hjoined_any w0 Xb.drew g c' m me gus x0 l hId.bw hm (by rw[hm];exact hgc) (by rw[hm];exact hpl.2) hgr hglb (fun y hy=>hgk y (by simp[hy]) x0 (by simp)) (fun y hy=>by obtain⟨J,hJ,hy⟩:=hlm y hy;exact HEV.out J hJ y hy) (by obtain⟨J,hJ,hy⟩:=hlm x0 (by simp);exact HK.out J hJ x0 hy) hme
  rw[← hm]
  have HJN:=Lib.hid hJN
  have HID:=Lib.hid hId
  have HPL:=Lib.hid hpl
  have HSB:=Lib.hid (And.intro hszb hXX)
  have c5:=hIb.o5.cell (i:=0) rfl
  have c2:Xb.cell? ⟨b2,0,none⟩=some (.func (.func 97) #[] #[]):=hIb.o2.cell (i:=0) rfl
  have c21:Xb.cell? ⟨b2,1,none⟩=some (.func (.func 62) #[] #[]):=hIb.o2.cell (i:=1) rfl
  dsimp only at c5
  clear hIb hId hT hI hr hgl hglb hgr hgne hgk hgm hgc hlm hpl hJN hszb hsz hXX hm
  gi_wp2_with fail
  refine region_N (S:=fun W=>W.cell? ⟨b5,0,none⟩=some lv∧W.cell? ⟨b2,0,none⟩=some (.func (.func 97) #[] #[])∧W.cell? ⟨b2,1,none⟩=some (.func (.func 62) #[] #[])) (kill:=[5,6]) (by kernel_rfl) ⟨c5,c2,c21⟩ (fun hHeld=>?_)
  refine WTN (i:=0) (v:=?voa0) ?yoa0 hHeld ?roa0
  case yoa0=>(intro W hW;obtain⟨g5,g2,g21⟩:=hW;go_simp;first | done | with_reducible rfl)
  try simp only[SL,Act.put]
  refine WTN (i:=1) (v:=?voa1) ?yoa1 hHeld ?roa1
  case yoa1=>(intro W hW;obtain⟨g5,g2,g21⟩:=hW;go_simp;first | done | with_reducible rfl)
  try simp only[SL,Act.put]
  refine WTN (i:=2) (v:=?voa2) ?yoa2 hHeld ?roa2
  case yoa2=>(intro W hW;obtain⟨g5,g2,g21⟩:=hW;go_simp;first | done | with_reducible rfl)
  try simp only[SL,Act.put]
  clear c5 c2 c21
  refine anyN_ready (rs:=[3]) (by kernel_rfl) (by simp) ?_
  refine AllN.cons (by kernel_rfl) rfl (by rfl) (fun K hK=>?_) (AllN.nil)
  refine⟨fun _ _=>trivial,?_⟩
  go_simp
  refine (CallsIn.inRound _ (callsIn_wide.2 HJN.out)).mono ?_
  rintro e w1 ⟨⟨u,rfl,hj⟩,hb1⟩
  have kp:=Keeps.of_below hb1
  have hH1:=And.intro (kp _ _ hHeld.1) (And.intro (kp _ _ hHeld.2.1) (kp _ _ hHeld.2.2))
  refine hK.out _ _ (fun _=>hH1) ?_
  clear hK K
  try simp only[SL,Act.put]
  obtain⟨ua,ub,uc,ud,ue⟩:=u
  have hJ:=HJN
  obtain⟨hub,hucr,huck⟩:=hj.reads (HID.out.bw.trans (hb1.mono HID.out.bw.size))
  dsimp only at hub hucr
  have hrow1:=own_below HID.out.row hb1 (Nat.le_refl _)
  obtain⟨v',Y,hrun,hr2,ht2,hbl2⟩:=append_row5 hrow1 (u:=⟨ua,ub,uc,ud,ue⟩) (by
   obtain⟨⟨P1,q1,f1,-⟩,⟨P2,q2,f2,-⟩,⟨P3,q3,f3,-⟩,⟨P4,q4,f4,-⟩⟩:=id hucr
   intro w hw
   simp only[V5.l,List.mem_cons,List.not_mem_nil,or_false] at hw
   rcases hw with rfl | rfl | rfl | rfl | rfl
   ·rw[f1];rfl
   ·rw[hub];rfl
   ·rw[f2];rfl
   ·rw[f3];rfl
   ·rw[f4];rfl) (by show us.length+1≤1000000;have:=HPL.out;omega) (Nat.le_trans HID.out.be.size hb1.size)
  obtain⟨W3,hW3⟩:∃ W3,W3=Y.setCell ⟨b5,0,none⟩ v':=⟨_,rfl⟩
  have hfin:=OneI.more (g:=(.slice (some ⟨g,0,none⟩) m c',x0 :: l)) (u:=⟨ua,ub,uc,ud,ue⟩) HID.out HW.out HSB.out.1 hb1 hj hr2 ht2 hbl2 hW3
  have o5Y:Own 31 Y b5 [lv]:=(HID.out.o5.below hb1 HID.out.o5.lt).tchM ht2 fun hk=>by
   have h1:=HID.out.rz b5 hk
   have:=HW.out.2.2.2.2.2.1
   omega
  have y5:=o5Y.cell (i:=0) rfl
  have z5:=o5Y.frozen 0
  obtain⟨A6,c6,e6,-⟩:=own_form hr2
  dsimp only at hrun y5 z5
  obtain⟨A7,c7,e7,-⟩:=own_form HID.out.row
  dsimp only at e7
  subst e6 e7
  obtain⟨⟨P1,q1,f1,-⟩,⟨P2,q2,f2,-⟩,⟨P3,q3,f3,-⟩,⟨P4,q4,f4,-⟩⟩:=hucr
  subst hub f1 f2 f3 f4
  simp only[List.length_append,List.length_singleton] at hW3
  have HF:=Lib.hid hfin
  have Hrun:=Lib.hid hrun
  have HW3:=Lib.hid hW3
  clear hJ hj hb1 hrow1 hrun hr2 ht2 hbl2 hfin hW3 o5Y huck
  generalize (joinAll (x0 :: l)).cnt=zc at *
  generalize (joinAll (x0 :: l)).key.length=z5' at *
  generalize (joinAll (x0 :: l)).sum.length=z6 at *
  generalize (joinAll (x0 :: l)).mn.length=z7 at *
  generalize (joinAll (x0 :: l)).mx.length=z8 at *
  have ka:=Keeps.of_below ((Below.refl w1.heap.size w1).alloc (Nat.le_refl _) (.cells #[.slice P1 z5' q1,.int .i64 zc,.slice P2 z6 q2,.slice P3 z7 q3,.slice P4 z8 q4] 46))
  refine anyN_ready (rs:=[4]) (by kernel_rfl) (by simp) ?_
  refine AllN.cons (by kernel_rfl) rfl (by rfl) (fun K hK=>?_) (AllN.nil)
  refine⟨fun _ _=>trivial,?_⟩
  go_simp
  refine hK.out _ _ (fun _=>⟨ka _ _ hH1.1,ka _ _ hH1.2.1,ka _ _ hH1.2.2⟩) ?_
  clear hK K
  try simp only[SL,Act.put]
  clear ka hH1 kp hHeld
  refine anyN_ready (rs:=[5]) (by kernel_rfl) (by simp) ?_
  refine AllN.cons (by kernel_rfl) rfl (by rfl) (fun K hK=>?_) (AllN.nil)
  refine⟨fun _ _=>trivial,?_⟩
  refine uponIn_append (.tmp 11) (.tmp 15) 31 rfl _ _ _ _ rfl rfl Hrun.out ?_
  refine hK.out _ _ (fun h=>absurd (by decide) h) ?_
  clear hK K
  try simp only[SL,Act.put]
  refine anyN_ready (rs:=[6]) (by kernel_rfl) (by simp) ?_
  refine AllN.cons (by kernel_rfl) rfl (by rfl) (fun K hK=>?_) (AllN.nil)
  refine⟨fun _ _=>trivial,?_⟩
  go_simp
  refine hK.out _ _ (fun h=>absurd (by decide) h) ?_
  clear hK K
  try simp only[SL,Act.put]
  refine anyN_done (by kernel_rfl) ?_ _
  rw[← HW3.out]
  gi_wp2
  obtain⟨g1,g2,g3⟩:=HF.out
  exact⟨_,g1,(Tch.of_below _ (Below.refl Xb.heap.size Xb).drew).same g2,fun k h1 h2 h3=>g3 k (Nat.lt_of_lt_of_le h1 HSB.out.2) h2⟩
 case hdone =>
  intro xs s W hS hI hD0
  obtain⟨A,c1,e1,hrow,hlc⟩:=hI.list
  have hG:(xs.map fun g=>joinAll g.2)=grpR Js.flatten:=by
   rw[← groups_grp hS.1 hS.2,List.map_map]
   rfl
  rw[hG] at e1 hrow hlc
  have c5:=hI.o5.cell (i:=0) rfl
  rw[e1] at c5
  have HF:=Lib.hid (And.intro hrow hlc)
  have HI:=Lib.hid hI
  have HD0:=Lib.hid hD0
  obtain⟨G,hG2⟩:∃ G,G=grpR Js.flatten:=⟨_,rfl⟩
  rw[← hG2] at HF c5 ⊢
  obtain⟨gn,hgn⟩:∃ n,n=G.length:=⟨_,rfl⟩
  have HGN:=Lib.hid hgn
  have HG2:=Lib.hid hG2
  rw[← hgn] at c5
  clear hS hI hD0 e1 hrow hlc hG hG2 hgn
  gi_wp2_with fail
  refine⟨by simp,.inl ⟨_,_,rfl,run_takeDeferred HD0.out,?_⟩⟩
  have hbE:Below w.heap.size w (W.putObj W4.heap.size (.deferred none)):=HI.out.be.trans ((tch_put (M:=fun k=>k=W4.heap.size) (W:=W) (l:=W4.heap.size) (.deferred none) rfl).below (fun k hk=>by rw[show k=W4.heap.size from hk];exact HI0.out.be.size) HI.out.be.size)
  refine⟨.slice A gn c1,?_,⟨⟨A,c1,by rw[HGN.out,HG2.out],fun Y hY=>?_,?_⟩,hbE⟩⟩
  ·simp[results,go_sem]
  ·rw[← HG2.out]
   refine HF.out.1 Y fun k hk hz=>?_
   have hwz:=HI0.out.be.size
   have hss:=HB0.out.size
   have hne:k ≠ W4.heap.size:=by omega
   rw[hY k (by simpa using hk) (by omega)]
   exact World.putObj_heap_other hne
  ·rw[← HG2.out];exact HF.out.2
end Go.Proofs.YtnjlkhhcfiedbaaGreatDoor

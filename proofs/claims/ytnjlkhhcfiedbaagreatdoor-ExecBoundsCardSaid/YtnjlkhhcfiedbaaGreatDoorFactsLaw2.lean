import Derived.Deep.AppendLies
import Derived.Deep.Onto
import Derived.OpenShut
import Derived.Maps.AppendAt
import Derived.Laws.OwnMore
import Derived.IntWalk
import Derived.Deep.RegionLaw
import Derived.BigRegion
import Derived.Deep.CutRange
import Derived.Deep.DeepCutAuto
import Derived.Test.YtnjlkhhcfiedbaaGreatDoorGroupN
import Derived.Test.YtnjlkhhcfiedbaaGreatDoorIsRow
namespace Go.Proofs.YtnjlkhhcfiedbaaGreatDoor
open Go.RowKit
theorem infoRow:(Tryz.prog.info? 50).map (fun i=>(i.zero,i.size,i.bytes))=some (some (.agg #[.slice none 0 0,.slice none 0 0]),2,48):=by kernel_rfl
theorem heap_new (w:World) (o:Obj) (g:Nat) (hg:g=w.heap.size):(w.alloc o).heap[g]? = some o:=by rw[hg];exact heap_alloc_new w o
theorem own_only {w w':World} {b:Nat} {e:TypeId} {s n k:Nat} {v:Value} {xs:List Value} (h:w.ownsRow b e s v n xs) (hb:Only k w w') (hk:k<b):w'.ownsRow b e s v n xs:=by
 refine⟨h.1,?_⟩
 rcases h.2 with h0 | ⟨g,cap,cur,hv,hg,hh,hr⟩
 ·exact .inl h0
 ·have hlt:g<w.heap.size:=by
   rcases Nat.lt_or_ge g w.heap.size with h1 | h1
   ·exact h1
   ·rw[Array.getElem?_eq_none h1] at hh;cases hh
  exact .inr ⟨g,cap,cur,hv,hg,(hb.block g hlt (by omega)).trans hh,hr⟩
theorem own_nums {w:World} {b:Nat} {v:Value} {xs:List Int} (h:w.ownsRow b 3 1 v xs.length (ints xs)) (hk:∀ x ∈ xs,inK .i64 x) :
  ∃ A c,v=.slice A xs.length c∧xs.length≤c∧c≤maxLen∧Nums .i64 w A xs.length xs:=by
 obtain⟨A,c,hv,hc,hm,hg⟩:=own_form h
 refine⟨A,c,hv,hc,hm,rfl,hk,fun hn=>?_⟩
 obtain⟨g,rfl,_,hcell⟩:=hg hn
 exact⟨_,rfl,fun j x hx=>by rw[add0];exact hcell j _ (by simp[ints,hx])⟩

def RowV (w:World) (B:Nat) (p:Value × Value) (r:Fact):Prop :=
 w.ownsRow B 3 1 p.1 r.key.length (ints r.key)∧w.ownsRow B 3 1 p.2 r.m.length (ints r.m)
def cellsV (vs:List (Value × Value)):List Value:=vs.flatMap fun p=>[p.1,p.2]
theorem cellsV_snoc (vs:List (Value × Value)) (p:Value × Value):cellsV (vs ++ [p])=cellsV vs ++ [p.1,p.2]:=by simp[cellsV]
theorem cellsV_at:∀ {vs:List (Value × Value)} {i:Nat} {p:Value × Value},vs[i]? = some p→(cellsV vs)[i*2]? = some p.1∧(cellsV vs)[i*2+1]? = some p.2
 | p :: t,0,q,h=>by
  simp at h
  subst h
  simp[cellsV]
 | p :: t,i+1,q,h=>by
  have:=cellsV_at (vs:=t) (i:=i) (p:=q) (by simpa using h)
  have e:cellsV (p :: t)=p.1 :: p.2 :: cellsV t:=by simp[cellsV]
  rw[e,show (i+1)*2=i*2+1+1 from by omega]
  simpa using this
def RowsW (w:World) (Bl Br:Nat) (v:Value) (l:List Fact):Prop :=
 ∃ vs,vs.length=l.length∧w.ownsRow Bl 50 2 v l.length (cellsV vs)∧∀ (i:Nat) (p:Value × Value) (r:Fact),vs[i]? = some p→l[i]? = some r→RowV w Br p r
theorem RowsW.snoc {w w':World} {Bl Br:Nat} {v v':Value} {l:List Fact} {r:Fact} {p:Value × Value} {vs:List (Value × Value)} (h1:vs.length=l.length) (h2:w.ownsRow Bl 50 2 v l.length (cellsV vs))
  (h3:∀ (i:Nat) (p:Value × Value) (r:Fact),vs[i]? = some p→l[i]? = some r→RowV w Br p r) (hp:RowV w Br p r)
  (ho:w'.ownsRow Bl 50 2 v' (l.length+1) (cellsV vs ++ [p.1,p.2])) (hg:w.grownBy w' v.ownBlock):RowsW w' Bl Br v' (l ++ [r]):=by
 have keep:∀ {u:Value} {n:Nat} {xs:List Value},w.ownsRow Br 3 1 u n xs→w'.ownsRow Br 3 1 u n xs:=fun hu=>hu.kept hg (own_apart hu h2 (by decide))
 have keepV:∀ {p:Value × Value} {r:Fact},RowV w Br p r→RowV w' Br p r:=fun hr=>⟨keep hr.1,keep hr.2⟩
 refine⟨vs ++ [p],by simp[h1],by rw[cellsV_snoc,List.length_append];exact ho,fun i q r' hq hr=>?_⟩
 rcases Nat.lt_or_ge i vs.length with hi | hi
 ·rw[List.getElem?_append_left hi] at hq
  rw[List.getElem?_append_left (by rw[← h1];exact hi)] at hr
  exact keepV (h3 i q r' hq hr)
 ·rw[List.getElem?_append_right hi] at hq
  rw[List.getElem?_append_right (by rw[← h1];exact hi)] at hr
  have e:i - vs.length=0:=by
   rcases Nat.eq_zero_or_pos (i - vs.length) with h0 | h0
   ·exact h0
   ·rw[List.getElem?_eq_none (by simp;omega)] at hq;cases hq
  rw[e] at hq
  rw[← h1,e] at hr
  simp at hq hr
  subst hq hr
  exact keepV hp
theorem RowsW.facts {w:World} {Bl Br:Nat} {v:Value} {l:List Fact} (h:RowsW w Bl Br v l) (hk:∀ r ∈ l,(∀ x ∈ r.key,inK .i64 x)∧∀ x ∈ r.m,inK .i64 x) :
  ∃ A c,v=.slice A l.length c∧l.length≤c∧c≤maxLen∧Facts w A l.length l:=by
 obtain⟨vs,h1,h2,h3⟩:=h
 obtain⟨A,c,hv,hc,hm,hg⟩:=own_form h2
 refine⟨A,c,hv,hc,hm,rfl,fun hn=>?_⟩
 obtain⟨g,rfl,_,hcell⟩:=hg hn
 refine⟨_,rfl,fun j r hj=>?_⟩
 have hjl:j<l.length:=(List.getElem?_eq_some_iff.1 hj).1
 have hp:vs[j]? = some (vs[j]'(by rw[h1];exact hjl)):=List.getElem?_eq_getElem _
 obtain⟨a1,a2⟩:=h3 j _ r hp hj
 obtain⟨k1,k2⟩:=hk r (List.mem_of_getElem? hj)
 obtain⟨c1,c2⟩:=cellsV_at hp
 obtain⟨A1,m1,e1,_,_,n1⟩:=own_nums a1 k1
 obtain⟨A2,m2,e2,_,_,n2⟩:=own_nums a2 k2
 refine⟨A1,m1,A2,m2,?_,?_,n1,n2⟩
 ·rw[add0,hcell _ _ c1,e1]
 ·rw[add0]
  show w.cell? ⟨g,j*2+1,none⟩=_
  rw[hcell _ _ c2,e2]
end Go.Proofs.YtnjlkhhcfiedbaaGreatDoor
namespace Go.Proofs.YtnjlkhhcfiedbaaGreatDoor
open Go.RowKit
theorem below_grown {B:Nat} {w w':World} {v:Value} {e:TypeId} {s n:Nat} {xs:List Value} (hg:w.grownBy w' v.ownBlock) (ho:w.ownsRow B e s v n xs) (hB:B≤w.heap.size):Below B w w' :=
 (Below.refl B w).grown hg hB fun k hk=>(ho.lt k hk).1
theorem infoInt2:(Tryz.prog.info? 3).map (fun i=>(i.zero,i.size,i.bytes))=some (some (.int .i64 0),1,8):=by kernel_rfl
theorem append_int (wr:World) (B:Nat) (v:Value) (xs:List Int) (x:Int) (g:Nat) (hg:g=wr.heap.size) (h:wr.ownsRow B 3 1 v xs.length (ints xs)) (hn:xs.length≤1000000) (hB:B≤wr.heap.size) :
  ∃ v' w',(Builtin.append_ #[22,22] 22 #[v,.slice (some ⟨g,0,none⟩) 1 1]).run Tryz.prog (wr.alloc (.cells #[.int .i64 x] 3))=.ok v' w'∧w'.ownsRow B 3 1 v' (xs ++ [x]).length (ints (xs ++ [x]))∧(wr.alloc (.cells #[.int .i64 x] 3)).grownBy w' v.ownBlock:=by
 obtain⟨i0,hi,hz0,hz1,hz2⟩:=info_parts infoInt2
 obtain⟨v',w',hrun,ho,hgr,_,_⟩:=run_append_own_at (P:=Tryz.prog) (wr.alloc (.cells #[.int .i64 x] 3)) B 22 22 3 i0 _ 1 8 Tryz.underlying22 hi hz0 hz1 hz2 rfl (by omega) v xs.length (ints xs) (h.alloc _)
  ⟨g,0,none⟩ 1 1 [.int .i64 x] rfl (fun j u hu=>by
   rw[add0,hg,show (wr.alloc (.cells #[.int .i64 x] 3)).cell? ⟨wr.heap.size,j,none⟩=#[.int .i64 x][j]? from cell_of_row _ _ _ _ 3 (0,0) (heap_alloc_new wr _)]
   simpa using hu)
  (by intro u hu;simp at hu;subst hu;rfl) (by simp[maxLen];omega) (by omega) (by simp;omega)
 exact⟨v',w',hrun,by rw[List.length_append];simpa [ints] using ho,hgr⟩
theorem own_box {w:World} {b:Nat} {e T:TypeId} {s n g:Nat} {v x y:Value} {xs:List Value} (h:w.ownsRow b e s v n xs) (hb:Box2 T w g x y) (hne:e ≠ T) (i:Nat) (u:Value):(w.setCell ⟨g,i,none⟩ u).ownsRow b e s v n xs:=by
 refine h.kept (row:=some g) ⟨rfl,rfl,rfl,by simp[World.setCell],fun k _ hk=>Below.heap_setCell _ _ _ _ (fun e=>hk (by simp[e]))⟩ ?_
 rcases h.2 with ⟨rfl,_⟩ | ⟨g',cap,cur,rfl,_,hh,_⟩
 ·exact .inl rfl
 ·refine .inr fun e0=>?_
  simp only[Value.ownBlock,Option.some.injEq] at e0
  subst e0
  unfold Box2 at hb
  rw[hh] at hb
  injection hb with hb
  injection hb with _ h2
  exact hne h2

end Go.Proofs.YtnjlkhhcfiedbaaGreatDoor
namespace Go.Proofs.YtnjlkhhcfiedbaaGreatDoor
open Go.RowKit
def blk (v:Value):List Nat:=v.ownBlock.toList
def blks (vs:List (Value × Value)):List Nat:=vs.flatMap fun p=>blk p.1 ++ blk p.2
def RowsX (w:World) (B:Nat) (v:Value) (l:List Fact):Prop :=
 ∃ vs,vs.length=l.length∧w.ownsRow B 50 2 v l.length (cellsV vs)∧(∀ (i:Nat) (p:Value × Value) (r:Fact),vs[i]? = some p→l[i]? = some r→RowV w B p r)∧(blks vs).Nodup
theorem RowsX.rows {w:World} {B:Nat} {v:Value} {l:List Fact} (h:RowsX w B v l):RowsW w B B v l:=by
 obtain⟨vs,h1,h2,h3,_⟩:=h
 exact⟨vs,h1,h2,h3⟩
theorem RowsX.nil (w:World) (B:Nat):RowsX w B (.slice none 0 0) []:=⟨[],rfl,World.ownsRow_nil _ _ _ _,(fun i p r h=>by simp at h),List.nodup_nil⟩
theorem RowsX.below {w w':World} {B k:Nat} {v:Value} {l:List Fact} (h:RowsX w B v l) (hb:Below k w w') (hk:w.heap.size≤k):RowsX w' B v l:=by
 obtain⟨vs,h1,h2,h3,h4⟩:=h
 exact⟨vs,h1,own_below h2 hb hk,(fun i p r hp hr=>⟨own_below (h3 i p r hp hr).1 hb hk,own_below (h3 i p r hp hr).2 hb hk⟩),h4⟩
theorem RowsX.only {w w':World} {B k:Nat} {v:Value} {l:List Fact} (h:RowsX w B v l) (hb:Only k w w') (hk:k<B):RowsX w' B v l:=by
 obtain⟨vs,h1,h2,h3,h4⟩:=h
 exact⟨vs,h1,own_only h2 hb hk,(fun i p r hp hr=>⟨own_only (h3 i p r hp hr).1 hb hk,own_only (h3 i p r hp hr).2 hb hk⟩),h4⟩
theorem own_blk {w:World} {b:Nat} {e:TypeId} {s n:Nat} {v:Value} {xs:List Value} (h:w.ownsRow b e s v n xs):∀ g ∈ blk v,b≤g∧g<w.heap.size:=by
 intro g hg
 exact h.lt g (by simpa [blk] using hg)
theorem blk_one (v:Value):(blk v).Nodup:=by unfold blk;cases v.ownBlock <;> simp
theorem blks_snoc (vs:List (Value × Value)) (p:Value × Value):blks (vs ++ [p])=blks vs ++ (blk p.1 ++ blk p.2):=by simp[blks]
theorem mem_blks {vs:List (Value × Value)} {g:Nat} (h:g ∈ blks vs):∃ (i:Nat) (p:Value × Value),vs[i]? = some p∧(g ∈ blk p.1∨g ∈ blk p.2):=by
 simp only[blks,List.mem_flatMap,List.mem_append] at h
 obtain⟨p,hp,hg⟩:=h
 obtain⟨i,hi⟩:=List.getElem?_of_mem hp
 exact⟨i,p,hi,hg⟩
theorem append_rowX (w0 wr:World) (B:Nat) (v:Value) (l:List Fact) (r:Fact) (kv mv:Value) (g K:Nat) (hg:g=wr.heap.size) (hR:RowsX w0 B v l) (hb0:Below w0.heap.size w0 wr)
  (hk:wr.ownsRow w0.heap.size 3 1 kv r.key.length (ints r.key)) (hm:wr.ownsRow K 3 1 mv r.m.length (ints r.m)) (hK:w0.heap.size≤K) (hkK:∀ g ∈ blk kv,g<K)
  (h1:kv.oneCell'=true) (h2:mv.oneCell'=true) (hn:l.length≤1000000) (hB:B≤w0.heap.size) :
  ∃ v' w',(Builtin.append_ #[26,26] 26 #[v,.slice (some ⟨g,0,none⟩) 1 1]).run Tryz.prog (wr.alloc (.cells #[kv,mv] 50))=.ok v' w'∧RowsX w' B v' (l ++ [r])∧Below B wr w':=by
 obtain⟨i0,hi,hz0,hz1,hz2⟩:=info_parts infoRow
 have hba:Below w0.heap.size w0 (wr.alloc (.cells #[kv,mv] 50)):=hb0.alloc hb0.size _
 have hsz:=hb0.size
 have hX:=hR.below hba (Nat.le_refl _)
 obtain⟨vs,h3,h4,h5,h6⟩:=hR
 have h4':=own_below h4 hba (Nat.le_refl _)
 have h5':∀ (i:Nat) (p:Value × Value) (r:Fact),vs[i]? = some p→l[i]? = some r→RowV (wr.alloc (.cells #[kv,mv] 50)) B p r:=fun i p r hp hr =>
  ⟨own_below (h5 i p r hp hr).1 hba (Nat.le_refl _),own_below (h5 i p r hp hr).2 hba (Nat.le_refl _)⟩
 obtain⟨v',w',hrun,ho,hgr,_,_⟩:=run_append_own_at (P:=Tryz.prog) (wr.alloc (.cells #[kv,mv] 50)) B 26 26 50 i0 _ 2 48 Tryz.underlying26 hi hz0 hz1 hz2 rfl (by omega) v l.length (cellsV vs) h4'
  ⟨g,0,none⟩ 1 1 [kv,mv] rfl (fun j u hu=>by
   rw[add0,hg,show (wr.alloc (.cells #[kv,mv] 50)).cell? ⟨wr.heap.size,j,none⟩=#[kv,mv][j]? from cell_of_row _ _ _ _ 50 (0,0) (heap_alloc_new wr _)]
   simpa using hu)
  (by intro u hu;simp at hu;rcases hu with rfl | rfl <;> assumption) (by simp[maxLen];omega) (by omega) (by simp;omega)
 have hb:=(Below.refl wr.heap.size wr).alloc (Nat.le_refl _) (.cells #[kv,mv] 50)
 have hw:=RowsW.snoc (Bl:=B) (Br:=B) (p:=(kv,mv)) h3 h4' h5' ⟨(own_below hk hb (Nat.le_refl _)).mono hB,(own_below hm hb (Nat.le_refl _)).mono (by omega)⟩ ho hgr
 refine⟨v',w',hrun,?_,(hb.mono (by omega)).trans (below_grown hgr h4' (by simp;omega))⟩
 have keep:∀ {b n:Nat} {u:Value} {xs:List Value},(wr.alloc (.cells #[kv,mv] 50)).ownsRow b 3 1 u n xs→w'.ownsRow b 3 1 u n xs:=fun hu=>hu.kept hgr (own_apart hu h4' (by decide))
 refine⟨vs ++ [(kv,mv)],by simp[h3],by rw[cellsV_snoc,List.length_append];exact ho,fun i q r' hq hr=>?_,?_⟩
 ·rcases Nat.lt_or_ge i vs.length with hi | hi
  ·rw[List.getElem?_append_left hi] at hq
   rw[List.getElem?_append_left (by rw[← h3];exact hi)] at hr
   exact⟨keep (h5' i q r' hq hr).1,keep (h5' i q r' hq hr).2⟩
  ·rw[List.getElem?_append_right hi] at hq
   rw[List.getElem?_append_right (by rw[← h3];exact hi)] at hr
   have e:i - vs.length=0:=by
    rcases Nat.eq_zero_or_pos (i - vs.length) with h0 | h0
    ·exact h0
    ·rw[List.getElem?_eq_none (by simp;omega)] at hq;cases hq
   rw[e] at hq
   rw[← h3,e] at hr
   simp at hq hr
   subst hq hr
   exact⟨(keep (own_below hk hb (Nat.le_refl _))).mono hB,(keep (own_below hm hb (Nat.le_refl _))).mono (by omega)⟩
 ·rw[blks_snoc,List.nodup_append]
  refine⟨h6,?_,?_⟩
  ·rw[List.nodup_append]
   refine⟨blk_one _,blk_one _,fun a ha b hb=>?_⟩
   have:=hkK a ha
   have:=(own_blk hm b hb).1
   omega
  ·intro a ha b hb
   obtain⟨i,p,hp,hg2⟩:=mem_blks ha
   have hil:i<l.length:=by rw[← h3];exact (List.getElem?_eq_some_iff.1 hp).1
   obtain⟨a1,a2⟩:=h5 i p _ hp (List.getElem?_eq_getElem hil)
   have la:a<w0.heap.size:=by
    rcases hg2 with h | h
    ·exact (own_blk a1 a h).2
    ·exact (own_blk a2 a h).2
   rcases List.mem_append.1 hb with h | h
   ·have:=(own_blk hk b h).1;omega
   ·have:=(own_blk hm b h).1;omega
theorem own_slice {w:World} {b:Nat} {e:TypeId} {s n:Nat} {v:Value} {xs:List Value} (h:w.ownsRow b e s v n xs):v.oneCell'=true:=by
 obtain⟨_,_,q,_⟩:=own_form h
 rw[q];rfl
theorem step_append_eq {P:Program} {ops:Array Oper} {o:Oper} {a:Act} {w:World} {K:Act→World→Prop} {Q:Exit→Act→World→Prop} {E:Prop} (hgd:o.guard=none) (s x:Operand) (t:TypeId)
  (ho:o.op=.call { callee:=.builtin .append,args:=#[s,x],argTypes:=#[t,t] }) (v y v':Value) (w':World) (hs:a.eval s=v) (hx:a.eval x=y)
  (hrun:(Builtin.append_ #[t,t] o.type #[v,y]).run P w=.ok v' w') (h:K (a.put o.dst v') w'):if Region.wanted o (yielded ops a.tmps)=true then Oper.wp P o a w K Q else E:=by
 have hw:Region.wanted o (yielded ops a.tmps)=true:=by simp[Region.wanted,hgd]
 rw[if_pos hw]
 unfold Oper.wp execOp
 simp only[ho,resolve,invoke,builtin,Sem.run_bind,Sem.run_pure,Result.andThen_ok,List.map_toArray,List.map_cons,List.map_nil,hs,hx,hrun]
 exact h
theorem own_two {w:World} {K n:Nat} {e:TypeId} {s:Nat} {kv mv:Value} {xs:List Value} (hk:∀ b ∈ blk kv,b<K) (hm:w.ownsRow K e s mv n xs):kv.ownBlock=none∨kv.ownBlock ≠ mv.ownBlock:=by
 cases h:kv.ownBlock with
 | none=>exact .inl rfl
 | some b =>
  refine .inr fun h2=>?_
  have h3:=hk b (by simp[blk,h])
  have h4:=(hm.lt b h2.symm).1
  omega
theorem Box2.grown {T e:TypeId} {w w':World} {g B s n:Nat} {a b v:Value} {xs:List Value} (h:Box2 T w g a b) (hg:w.grownBy w' v.ownBlock) (hv:w.ownsRow B e s v n xs) (hne:e ≠ T):Box2 T w' g a b:=by
 refine (hg.block g h.lt fun e0=>?_).trans h
 rcases hv.2 with ⟨rfl,_⟩ | ⟨g',cap,cur,rfl,_,hh,_⟩
 ·simp[Value.ownBlock] at e0
 ·simp only[Value.ownBlock,Option.some.injEq] at e0
  subst e0
  unfold Box2 at h
  rw[hh] at h
  injection h with h
  injection h with _ h2
  exact hne h2
end Go.Proofs.YtnjlkhhcfiedbaaGreatDoor
namespace Go.Proofs.YtnjlkhhcfiedbaaGreatDoor
open Go.RowKit
def fCard (cards:List Int) (i:Nat):Int:=1+(cards[i]?.getD ((i:Int)+2)) % 5
def fBase (cards:List Int) (k:Nat):List Int:=(List.range k).map (fCard cards)
def fDims (dims:Int):Nat:=(dims % 4).toNat+1
def fCards (dims:Int) (cards:List Int):List Int:=if dims % 7=0 then (fBase cards (fDims dims)).set 0 16 else fBase cards (fDims dims)
def fMeas (measures:Int):Nat:=(measures % 3).toNat
def fRest (cs:List Int) (k:Int):Int:=cs.foldl (fun k _=>k.tdiv 5) k
def fKey:List Int→Int→List Int
 | [],_=>[]
 | c :: cs,k=>k % c :: fKey cs (k.tdiv 5)
def fM (me:Nat) (k:Int):List Int:=(List.range me).map fun (m:Nat)=>(k+7*(m:Int)) % 201 - 100
def fRow (cs:List Int) (me:Nat) (k:Int):Fact:=⟨fKey cs k,fM me (fRest cs k)⟩
def fRows (cs:List Int) (me:Nat) (ns:List Int):List Fact:=(ns.take 40).map (fRow cs me)
theorem fBase_snoc (cards:List Int) (k:Nat):fBase cards (k+1)=fBase cards k ++ [fCard cards k]:=by simp[fBase,List.range_succ]
theorem fBase_len (cards:List Int) (k:Nat):(fBase cards k).length=k:=by simp[fBase]
theorem fCard_bd (cards:List Int) (i:Nat):1≤fCard cards i∧fCard cards i≤5:=by unfold fCard;omega
theorem fBase_bd {cards:List Int} {k:Nat}:∀ x ∈ fBase cards k,1≤x∧x≤5:=by
 intro x hx
 simp only[fBase,List.mem_map] at hx
 obtain⟨i,_,rfl⟩:=hx
 exact fCard_bd cards i
theorem fDims_bd (dims:Int):1≤fDims dims∧fDims dims≤4:=by unfold fDims;omega
theorem fMeas_bd (m:Int):fMeas m≤2:=by unfold fMeas;omega
theorem fCards_len (dims:Int) (cards:List Int):(fCards dims cards).length=fDims dims:=by
 unfold fCards
 split <;> simp[fBase_len]
theorem fCards_bd {dims:Int} {cards:List Int}:∀ x ∈ fCards dims cards,1≤x∧x≤16:=by
 intro x hx
 unfold fCards at hx
 split at hx
 ·rcases List.mem_or_eq_of_mem_set hx with h | h
  ·have:=fBase_bd x h;omega
  ·omega
 ·have:=fBase_bd x hx;omega
theorem fCards_check (dims:Int) (cards:List Int) (measures:Int):checkB (fCards dims cards) (fMeas measures:Int)=true:=by
 have h1:=fDims_bd dims
 have h2:=fMeas_bd measures
 exact checkB_yes (by rw[fCards_len];omega) (by rw[fCards_len];omega) (by omega) (by omega) (fun x hx=>fCards_bd x hx)
theorem fKey_len:∀ (cs:List Int) (k:Int),(fKey cs k).length=cs.length
 | [],_=>rfl
 | _ :: cs,k=>by simp[fKey,fKey_len cs]
theorem fKey_snoc:∀ (cs:List Int) (c k:Int),fKey (cs ++ [c]) k=fKey cs k ++ [fRest cs k % c]
 | [],c,k=>rfl
 | d :: cs,c,k=>by simp[fKey,fKey_snoc cs,fRest]
theorem fRest_snoc (cs:List Int) (c k:Int):fRest (cs ++ [c]) k=(fRest cs k).tdiv 5:=by simp[fRest]
theorem tdiv5_bd {k:Int} (h:-9223372036854775808≤k∧k≤9223372036854775807):-1844674407370955162≤k.tdiv 5∧k.tdiv 5≤1844674407370955161:=by
 rw[Int.tdiv_eq_ediv,show Int.sign 5=1 from rfl]
 split <;> omega
theorem fRest_bd0:∀ (cs:List Int) (k:Int),-9223372036854775808≤k∧k≤9223372036854775807→-9223372036854775808≤fRest cs k∧fRest cs k≤9223372036854775807
 | [],k,h=>h
 | _ :: cs,k,h=>by
  have:=tdiv5_bd h
  exact fRest_bd0 cs (k.tdiv 5) (by omega)
theorem fRest_bd:∀ (cs:List Int) (k:Int),1≤cs.length→-9223372036854775808≤k∧k≤9223372036854775807→-1844674407370955162≤fRest cs k∧fRest cs k≤1844674407370955161:=by
 intro cs k h hk
 rcases List.eq_nil_or_concat cs with rfl | ⟨l,c,rfl⟩
 ·simp at h
 ·rw[List.concat_eq_append,fRest_snoc]
  exact tdiv5_bd (fRest_bd0 l k hk)
theorem fKey_at:∀ {cs:List Int} {k:Int} {i:Nat} {c v:Int},(∀ x ∈ cs,1≤x)→cs[i]? = some c→(fKey cs k)[i]? = some v→0≤v∧v<c
 | [],_,_,_,_,_,h,_=>by simp at h
 | d :: cs,k,0,c,v,hp,h,hv=>by
  simp only[List.getElem?_cons_zero,Option.some.injEq,fKey] at h hv
  subst h hv
  have:=hp d (by simp)
  exact⟨Int.emod_nonneg _ (by omega),Int.emod_lt_of_pos _ (by omega)⟩
 | d :: cs,k,i+1,c,v,hp,h,hv=>by
  simp only[List.getElem?_cons_succ,fKey] at h hv
  exact fKey_at (fun x hx=>hp x (by simp[hx])) h hv
theorem fM_len (me:Nat) (k:Int):(fM me k).length=me:=by simp[fM]
theorem fM_snoc (me:Nat) (k:Int):fM (me+1) k=fM me k ++ [(k+7*(me:Int)) % 201 - 100]:=by simp[fM,List.range_succ]
theorem fM_bd (me:Nat) (k:Int):∀ x ∈ fM me k,-100≤x∧x≤100:=by
 intro x hx
 simp only[fM,List.mem_map] at hx
 obtain⟨i,_,rfl⟩:=hx
 omega
theorem fRow_right {cs:List Int} (me:Nat) (k:Int) (h:∀ x ∈ cs,1≤x):rightB cs (me:Int) (fRow cs me k)=true :=
 rightB_yes (by simp[fRow,fKey_len]) (by simp[fRow,fM_len]) (fun i c v _ hc hv=>fKey_at h hc hv)
theorem fRows_snoc {cs:List Int} {me:Nat} {ns:List Int} {k:Nat} {x:Int} (h:ns[k]? = some x):((ns.take (k+1)).map (fRow cs me))=(ns.take k).map (fRow cs me) ++ [fRow cs me x]:=by
 rw[take_snoc h,List.map_append];rfl
theorem fRows_len (cs:List Int) (me:Nat) (ns:List Int):(fRows cs me ns).length≤40:=by simp[fRows];omega
theorem fRows_right {dims:Int} {cards:List Int} (measures:Int) (ns:List Int):allRightB (fCards dims cards) (fMeas measures:Int) (fRows (fCards dims cards) (fMeas measures) ns)=true :=
 allRightB_yes (fCards_check dims cards measures) fun r hr=>by
  simp only[fRows,List.mem_map] at hr
  obtain⟨k,_,rfl⟩:=hr
  exact fRow_right _ _ fun x hx=>(fCards_bd x hx).1
theorem fRow_small {cs:List Int} (me:Nat) (k:Int) (h:∀ x ∈ cs,1≤x∧x≤16):(∀ x ∈ (fRow cs me k).key,0≤x∧x≤15)∧∀ x ∈ (fRow cs me k).m,-100≤x∧x≤100 :=
 ⟨keysB_small (rightB_key (fRow_right me k fun x hx=>(h x hx).1)) h,fM_bd _ _⟩
theorem fRows_small {dims:Int} {cards:List Int} (measures:Int) (ns:List Int):∀ r ∈ fRows (fCards dims cards) (fMeas measures) ns,(∀ x ∈ r.key,inK .i64 x)∧∀ x ∈ r.m,inK .i64 x:=by
 intro r hr
 simp only[fRows,List.mem_map] at hr
 obtain⟨k,_,rfl⟩:=hr
 obtain⟨h1,h2⟩:=fRow_small (cs:=fCards dims cards) (fMeas measures) k (fun x hx=>fCards_bd x hx)
 refine⟨fun x hx=>?_,fun x hx=>?_⟩
 ·have:=h1 x hx;simp only[inK];omega
 ·have:=h2 x hx;simp only[inK];omega
theorem fRow_lens {cs:List Int} (me:Nat) (k:Int):(fRow cs me k).key.length=cs.length∧(fRow cs me k).m.length=me:=⟨fKey_len _ _,fM_len _ _⟩
theorem fCards_i64 (dims:Int) (cards:List Int):∀ x ∈ fCards dims cards,inK .i64 x:=fun x hx=>by
 have:=fCards_bd x hx
 simp only[inK]
 omega
end Go.Proofs.YtnjlkhhcfiedbaaGreatDoor
namespace Go.Proofs.YtnjlkhhcfiedbaaGreatDoor
open Go.RowKit
set_option maxHeartbeats 400000 in
theorem lwithin (a n:Int) (w:World) (ha:inK .i64 a) (hn:1≤n) (hn2:n≤4611686018427387904) :
  Calls Tryz.prog 22 #[.int .i64 a,.int .i64 n] w fun e w'=>e=.returned (.int .i64 (a % n))∧w=w':=by
 obtain⟨ha1,ha2⟩:=ha
 by_cases h:0≤a
 ·have h1:=Int.emod_nonneg a (show n ≠ 0 by omega)
  go_enter Tryz.func22,Tryz.ntmps22
  go_wp2
  go_ret
  exact⟨rfl,rfl⟩
 ·have h1:=Int.emod_nonneg a (show n ≠ 0 by omega)
  have h2:=Int.emod_lt_of_pos a (show 0<n by omega)
  have h3:=Int.tmod_eq_emod (a:=a) (b:=n)
  have h4:a.tmod n=a % n∨a.tmod n=a % n - n:=by
   rw[h3]
   split
   ·simp
   ·right;omega
  by_cases h5:a.tmod n<0
  ·have e:a.tmod n+n=a % n:=by omega
   have h6:-n≤a.tmod n:=by omega
   have E:=Lib.hid e
   clear e h3 h4 h1 h2
   go_enter Tryz.func22,Tryz.ntmps22
   go_wp2
   go_ret
   exact⟨ret_int E.out,rfl⟩
  ·have e:a.tmod n=a % n:=by omega
   have E:=Lib.hid e
   clear e h3 h4 h1 h2
   go_enter Tryz.func22,Tryz.ntmps22
   go_wp2
   go_ret
   exact⟨ret_int E.out,rfl⟩

end Go.Proofs.YtnjlkhhcfiedbaaGreatDoor
namespace Go.Proofs.YtnjlkhhcfiedbaaGreatDoor
open Go.RowKit
def FactsPost (dims:Int) (cards:List Int) (me:Int) (ns:List Int) (w:World) (e:Ending) (w':World):Prop :=
 ∃ cv rv C,e=.returned (.tuple #[.agg #[cv,.int .i64 (fMeas me)],rv])∧w'.ownsRow w.heap.size 3 1 cv (fDims dims) (ints (fCards dims cards))∧(∀ g ∈ blk cv,g<C)∧w.heap.size≤C ∧
  RowsX w' C rv (fRows (fCards dims cards) (fMeas me) ns)∧Below w.heap.size w w'
set_option maxRecDepth 100000 in
set_option maxHeartbeats 8000000 in
theorem Facts_any (dims me:Int) (A D:Option Addr) (n c m d:Nat) (cards ns:List Int) (w:World) (hA:Nums .i64 w A n cards) (hD:Nums .i64 w D m ns) (hn:n≤9223372036854775807) (hm:m≤9223372036854775807) (hd:inK .i64 dims) (hme:inK .i64 me) :
  Calls Tryz.prog 13 #[.int .i64 dims,.slice A n c,.int .i64 me,.slice D m d] w (FactsPost dims cards me ns w):=by
 obtain⟨q,hq⟩:∃ q:Nat,dims % 4=q:=Int.eq_ofNat_of_zero_le (Int.emod_nonneg dims (show (4:Int) ≠ 0 by omega))
 have hq3:q≤3:=by omega
 have w4:=fun W=>lwithin dims 4 W hd (by omega) (by omega)
 rw[hq] at w4
 have W4:=Lib.hid w4
 have hfm:me % 3=(fMeas me:Int):=by unfold fMeas;omega
 have w3:=fun W=>lwithin me 3 W hme (by omega) (by omega)
 rw[hfm] at w3
 have W3:=Lib.hid w3
 have W7:=Lib.hid (fun W=>lwithin dims 7 W hd (by omega) (by omega))
 have hfd:fDims dims=q+1:=by unfold fDims;omega
 have Hfd:=Lib.hid hfd
 have hml:=fMeas_bd me
 obtain⟨mm,hmm⟩:∃ mm,mm=fMeas me:=⟨_,rfl⟩
 rw[← hmm] at W3 hml
 have Hmm:=Lib.hid hmm
 have HA:=Lib.hid hA
 have HD:=Lib.hid hD
 clear hq w4 hfm w3 hfd hmm hA hD
 go_enter Tryz.func13,Tryz.ntmps13
 go_wp2_with (go_at_call 22;refine (W3.out _).mono ?_;rintro e w2 ⟨rfl,rfl⟩)
 obtain⟨S,hS⟩:∃ S,S=w.heap.size+1:=⟨_,rfl⟩
 have hs1:Box2 25 ((w.alloc (.cells #[.slice none 0 0,.int .i64 0] 25)).alloc (.cells #[.slice none 0 0,.int .i64 mm] 25)) S (.slice none 0 0) (.int .i64 mm):=heap_new _ _ S (by simp[hS])
 have hs0:Box2 25 ((w.alloc (.cells #[.slice none 0 0,.int .i64 0] 25)).alloc (.cells #[.slice none 0 0,.int .i64 mm] 25)) w.heap.size (.slice none 0 0) (.int .i64 0):=(Box2.new w 25 _ _).alloc _
 have hsb:Below w.heap.size w ((w.alloc (.cells #[.slice none 0 0,.int .i64 0] 25)).alloc (.cells #[.slice none 0 0,.int .i64 mm] 25)):=((Below.refl _ _).alloc (Nat.le_refl _) _).alloc (by simp) _
 have hsz:((w.alloc (.cells #[.slice none 0 0,.int .i64 0] 25)).alloc (.cells #[.slice none 0 0,.int .i64 mm] 25)).heap.size=S+1:=by simp[hS]
 rw[← hS]
 have w5:=fun (x:Int) (hx:inK .i64 x) (W:World)=>lwithin x 5 W hx (by omega) (by omega)
 have W5:=Lib.hid w5
 generalize (w.alloc _).alloc _=w2 at hs1 hs0 hsb hsz ⊢
 have Hsb:=Lib.hid hsb
 have Hsz:=Lib.hid hsz
 have hS1:w.heap.size<S:=by omega
 have HS:=Lib.hid hS
 clear hsb hsz hS w5
 go_loopw [11] (fun i wr=>∃ k:Nat,k≤q+1∧i=.int .i64 k∧∃ cv,Box2 25 wr S cv (.int .i64 mm)∧wr.ownsRow (S+1) 3 1 cv (fBase cards k).length (ints (fBase cards k))∧Box2 25 wr w.heap.size (.slice none 0 0) (.int .i64 0)∧Below w.heap.size w wr∧S<wr.heap.size) (fun i _=>q+1 - (intOf i).toNat)
 case atStart=>exact⟨0,by omega,rfl,_,hs1,World.ownsRow_nil _ _ _ _,hs0,Hsb.out,by rw[Hsz.out];omega⟩
 case round =>
  obtain⟨k,hk,rfl,cv,b1,o1,b0,hb,hz⟩:=hrel
  clear hs1 hs0
  have c0:=b1.cell0
  have B1:=Lib.hid b1
  have B0:=Lib.hid b0
  have O1:=Lib.hid o1
  have Hb:=Lib.hid hb
  clear b1 b0 hb
  by_cases hlt:k≤q
  ·obtain⟨x,hx⟩:∃ x,x=cards[k]?.getD ((k:Int)+2):=⟨_,rfl⟩
   have hx2:inK .i64 x:=by
    rw[hx]
    cases hc:cards[k]? with
    | none=>simp only[Option.getD_none,inK];omega
    | some y=>exact HA.out.ok y (List.mem_of_getElem? hc)
   have hfc:fCard cards k=1+x % 5:=by rw[fCard,← hx]
   obtain⟨v',w',hrun,ho',hgr⟩:=append_int wr.drew (S+1) cv (fBase cards k) (1+x % 5) wr.heap.size rfl o1 (by rw[fBase_len];omega) (by exact hz)
   obtain⟨A',c',hv',-⟩:=own_form ho'
   obtain⟨n',hn'⟩:∃ n',n'=(fBase cards k ++ [1+x % 5]).length:=⟨_,rfl⟩
   rw[← hn'] at hv'
   subst hv'
   have Hn':=Lib.hid hn'
   have hg1:Box2 25 (wr.drew.alloc (.cells #[.int .i64 (1+x % 5)] 3)) S cv (.int .i64 mm):=B1.out.alloc _
   have hg0:Box2 25 (wr.drew.alloc (.cells #[.int .i64 (1+x % 5)] 3)) w.heap.size (.slice none 0 0) (.int .i64 0):=B0.out.alloc _
   have hgo:(wr.drew.alloc (.cells #[.int .i64 (1+x % 5)] 3)).ownsRow (S+1) 3 1 cv (fBase cards k).length (ints (fBase cards k)):=O1.out.alloc _
   have hgb:Below w.heap.size w (wr.drew.alloc (.cells #[.int .i64 (1+x % 5)] 3)):=(below_drewN Hb.out 1).alloc (Nat.le_of_lt (by exact Nat.lt_trans hS1 hz)) _
   have hgz:S<(wr.drew.alloc (.cells #[.int .i64 (1+x % 5)] 3)).heap.size:=by rw[show (wr.drew.alloc (.cells #[.int .i64 (1+x % 5)] 3)).heap.size=wr.heap.size+1 from by simp];omega
   have b1':=hg1.grown hgr hgo (by decide)
   have hend:Box2 25 (w'.setCell ⟨S,0,none⟩ (.slice A' n' c')) S (.slice A' n' c') (.int .i64 mm)∧(w'.setCell ⟨S,0,none⟩ (.slice A' n' c')).ownsRow (S+1) 3 1 (.slice A' n' c') (fBase cards (k+1)).length (ints (fBase cards (k+1))) ∧
     Box2 25 (w'.setCell ⟨S,0,none⟩ (.slice A' n' c')) w.heap.size (.slice none 0 0) (.int .i64 0)∧Below w.heap.size w (w'.setCell ⟨S,0,none⟩ (.slice A' n' c'))∧S<(w'.setCell ⟨S,0,none⟩ (.slice A' n' c')).heap.size:=by
    rw[fBase_snoc,hfc]
    refine⟨b1'.set0 _,own_box ho' b1' (by decide) _ _,(hg0.grown hgr hgo (by decide)).only ((Only.refl S _).setCell 0 _) (by omega),?_,?_⟩
    ·exact (hgb.grown hgr (by omega) fun j hj=>by have:=(hgo.lt j hj).1;omega).setCell (by exact Nat.le_of_lt hS1) _
    ·have:=hgr.size;simp[World.setCell];omega
   have E:=Lib.hid hend
   have c0':=b1'.cell0
   have f0':=b1'.frozen 0
   have Hrun:=Lib.hid hrun
   have Ho':=Lib.hid ho'
   have Hgr:=Lib.hid hgr
   have W5x:=Lib.hid (W5.out x hx2)
   have hx5:0≤x % 5∧x % 5≤4:=by omega
   obtain⟨hx50,hx51⟩:=hx5
   have Hx:=Lib.hid hx
   have Hfc:=Lib.hid hfc
   clear hrun ho' hgr hx hfc o1 hn' hg1 hg0 hgo hgb hgz b1' hend
   have hwr:IntKind.i64.wrap (1+x % 5)=1+x % 5:=IntWalk.i64_in _ (by omega)
   by_cases hkn:k<n
   ·obtain⟨ad,y,rfl,hy,hy2,hyc⟩:=(HA.out.keep (Keeps.of_below Hb.out)).at_ hkn
    have:y=x:=by rw[Hx.out,hy];rfl
    subst this
    have Hy:=Lib.hid hy
    have hxc:(0:Int)≤k:=by omega
    have hkn2:(k:Int)<n:=by omega
    clear hy
    go_wp2_with (go_at_call 22;refine (W4.out _).mono ?_;rintro e w2 ⟨rfl,rfl⟩)
    go_region_law (first | (go_simp;go_at_call 22;refine (W5x.out _).mono ?_;rintro e w2 ⟨rfl,rfl⟩) | (refine step_append_eq (by rfl) (.tmp 39) (.tmp 43) 22 (by rfl) cv (.slice (some ⟨wr.heap.size,0,none⟩) 1 1) (.slice A' n' c') w' (by rfl) (by rfl) Hrun.out ?_) | fail)
    all_goals
     go_wp2
     exact⟨⟨k+1,by omega,by go_num,_,E.out⟩,by simp[intOf];omega⟩
   ·have hkn2:¬ (k:Int)<n:=by omega
    have hx3:x=(k:Int)+2:=by rw[Hx.out,List.getElem?_eq_none (by rw[HA.out.len];omega)];rfl
    subst hx3
    go_wp2_with (go_at_call 22;refine (W4.out _).mono ?_;rintro e w2 ⟨rfl,rfl⟩)
    go_region_law (first | (go_simp;go_at_call 22;refine (W5x.out _).mono ?_;rintro e w2 ⟨rfl,rfl⟩) | (refine step_append_eq (by rfl) (.tmp 39) (.tmp 43) 22 (by rfl) cv (.slice (some ⟨wr.heap.size,0,none⟩) 1 1) (.slice A' n' c') w' (by rfl) (by rfl) Hrun.out ?_) | fail)
    all_goals
     go_wp2
     exact⟨⟨k+1,by omega,by go_num,_,E.out⟩,by simp[intOf];omega⟩
  ·obtain rfl:k=q+1:=by omega
   clear hk hlt o1
   have hcard:(fBase cards (q+1))=fBase cards (fDims dims):=by rw[Hfd.out]
   obtain⟨A1,c1,hcv,-,-,hg1⟩:=own_form O1.out
   rw[fBase_len] at hcv hg1
   obtain⟨g,rfl,hgS,hgc⟩:=hg1 (by omega)
   subst hcv
   have hfc1:=hgc 0 (.int .i64 (fCard cards 0)) (by simp[ints,fBase,List.range_succ_eq_map])
   have hff:=(World.ownsRow.frozenAt (by rw[fBase_len] at O1;exact O1.out) 0:wr.frozen? ⟨g,0,none⟩=false)
   have h7:0≤dims % 7∧dims % 7<7:=by omega
   obtain⟨h70,h71⟩:=h7
   go_wp2_with fail
   refine (W4.out _).mono ?_
   rintro e w2 ⟨rfl,rfl⟩
   go_wp2_with fail
   refine (W7.out _).mono ?_
   rintro e w2 ⟨rfl,rfl⟩
   go_upto_if 48 with (fail)
   go_cut [] from 49 to 51 (fun wx=>∃ g c1,Box2 25 wx S (.slice (some ⟨g,0,none⟩) (fDims dims) c1) (.int .i64 mm)∧wx.ownsRow (S+1) 3 1 (.slice (some ⟨g,0,none⟩) (fDims dims) c1) (fDims dims) (ints (fCards dims cards))∧Box2 25 wx w.heap.size (.slice none 0 0) (.int .i64 0)∧Below w.heap.size w wx∧S<wx.heap.size)
   case first =>
    have o2:=O1.out
    rw[fBase_len] at o2
    by_cases h0:dims % 7=0
    ·have hc:fCards dims cards=(fBase cards (q+1)).set 0 16:=by rw[fCards,if_pos h0,Hfd.out]
     have hfix:Box2 25 (wr.setCell ⟨g,0,none⟩ (.int .i64 16)) S (.slice (some ⟨g,0,none⟩) (fDims dims) c1) (.int .i64 mm)∧(wr.setCell ⟨g,0,none⟩ (.int .i64 16)).ownsRow (S+1) 3 1 (.slice (some ⟨g,0,none⟩) (fDims dims) c1) (fDims dims) (ints (fCards dims cards))∧Box2 25 (wr.setCell ⟨g,0,none⟩ (.int .i64 16)) w.heap.size (.slice none 0 0) (.int .i64 0)∧Below w.heap.size w (wr.setCell ⟨g,0,none⟩ (.int .i64 16))∧S<(wr.setCell ⟨g,0,none⟩ (.int .i64 16)).heap.size:=by
      rw[Hfd.out,hc]
      refine⟨B1.out.only (only_setCell g wr 0 _) (by omega),?_,B0.out.only (only_setCell g wr 0 _) (by omega),Hb.out.setCell (by exact (by omega:w.heap.size≤g)) _,by simp[World.setCell];exact hz⟩
      have:=(o2.stored 0 (.int .i64 16)).1
      simpa [ints,List.map_set] using this
     have F:=Lib.hid hfix
     have h7b:(dims % 7 == 0)=true:=by simp[h0]
     clear o2 hc hfix O1
     go_wp2
     go_meet
     exact⟨g,c1,F.out⟩
    ·have hc:fCards dims cards=fBase cards (q+1):=by rw[fCards,if_neg h0,Hfd.out]
     have hfix:Box2 25 wr S (.slice (some ⟨g,0,none⟩) (fDims dims) c1) (.int .i64 mm)∧wr.ownsRow (S+1) 3 1 (.slice (some ⟨g,0,none⟩) (fDims dims) c1) (fDims dims) (ints (fCards dims cards))∧Box2 25 wr w.heap.size (.slice none 0 0) (.int .i64 0)∧Below w.heap.size w wr∧S<wr.heap.size:=by
      rw[Hfd.out,hc]
      exact⟨B1.out,o2,B0.out,Hb.out,hz⟩
     have F:=Lib.hid hfix
     have h7b:(dims % 7 == 0)=false:=by simp[h0]
     clear o2 hc hfix O1
     go_wp2
     go_meet
     exact⟨g,c1,F.out⟩
   case rest =>
    obtain⟨g,c1,b1,o1,b0,hb,hz⟩:=hcut
    obtain⟨cs,hcs⟩:∃ cs,cs=fCards dims cards:=⟨_,rfl⟩
    rw[← hcs] at o1
    have hcl:cs.length=fDims dims:=by rw[hcs,fCards_len]
    have hcb:∀ x ∈ cs,1≤x∧x≤16:=by rw[hcs];exact fun x hx=>fCards_bd x hx
    have hdd:=fDims_bd dims
    obtain⟨dd,hdd2⟩:∃ dd,dd=fDims dims:=⟨_,rfl⟩
    rw[← hdd2] at b1 o1 hcl hdd
    obtain⟨hdd3,hdd4⟩:=hdd
    have Hcl:=Lib.hid hcl
    have Hcb:=Lib.hid hcb
    have Hcs:=Lib.hid hcs
    have Hdd:=Lib.hid hdd2
    have O1:=Lib.hid o1
    have B1:=Lib.hid b1
    have B0:=Lib.hid b0
    have X:=Lib.hid hb
    clear Hb
    clear hcl hcb hcs hdd2 o1 b1 b0 hb W4 W7 Hfd
    clear h70 h71 hfc1 hff hgc hcard
    go_wp2_with fail
    go_loopw [13,14] (fun rv i wr=>∃ k:Nat,k≤m∧k≤40∧i=.int .i64 k∧RowsX wr wc.heap.size rv ((ns.take k).map (fRow cs mm))∧Below wc.heap.size wc wr) (fun _ i _=>40 - (intOf i).toNat)
    case atStart=>exact⟨0,by omega,by omega,rfl,by simpa using RowsX.nil _ _,Below.refl _ _⟩
    case round =>
     rename World=>w1
     obtain⟨k,hk,hk4,rfl,hR,hb2⟩:=hrel
     have HR:=Lib.hid hR
     have Hb2:=Lib.hid hb2
     have hz1:wc.heap.size≤w1.heap.size:=hb2.size
     clear hR hb2
     by_cases hlt:k<m∧k<40
     ·obtain⟨hlt,hl4⟩:=hlt
      obtain⟨ad,x,rfl,hx,hx2,hxc⟩:=(HD.out.keep (Keeps.of_below (X.out.trans (Hb2.out.mono X.out.size)))).at_ hlt
      obtain⟨hx3,hx4⟩:=hx2
      have Hx:=Lib.hid hx
      have hkb:decide ((k:Int)<40)=true:=by simp;omega
      clear hx
      go_wp2_with fail
      obtain⟨r0,hr0⟩:∃ r,r=w1.heap.size:=⟨_,rfl⟩
      rw[← hr0]
      have q1:Box2 50 (w1.alloc (.cells #[.slice none 0 0,.slice none 0 0] 50)) r0 (.slice none 0 0) (.slice none 0 0):=heap_new _ _ r0 hr0
      have q2:Below r0 w1 (w1.alloc (.cells #[.slice none 0 0,.slice none 0 0] 50)):=by rw[hr0];exact (Below.refl _ _).alloc (Nat.le_refl _) _
      have q3:r0<(w1.alloc (.cells #[.slice none 0 0,.slice none 0 0] 50)).heap.size:=by simp[hr0]
      generalize w1.alloc _=w2 at q1 q2 q3 ⊢
      have Hr0:=Lib.hid hr0
      clear hr0
      go_loopw [15,17] (fun y j wr=>∃ e:Nat,e≤dd∧j=.int .i64 e∧y=.int .i64 (fRest (cs.take e) x)∧∃ kv,Box2 50 wr r0 kv (.slice none 0 0)∧wr.ownsRow (r0+1) 3 1 kv (fKey (cs.take e) x).length (ints (fKey (cs.take e) x))∧Below r0 w1 wr∧r0<wr.heap.size) (fun _ j _=>dd - (intOf j).toNat)
      case atStart=>exact⟨0,by omega,rfl,rfl,_,q1,World.ownsRow_nil _ _ _ _,q2,q3⟩
      case round =>
       rename World=>w3
       obtain⟨e,he,rfl,rfl,kv,s1,s2,s3,s4⟩:=hrel
       clear q1 q2 q3
       have hrw:r0=w1.heap.size:=Hr0.out
       have sS:=(B1.out.below Hb2.out (by exact hz)).below s3 (by omega)
       have cS:=sS.cell0
       have dS:=sS.cell1
       have oS:=own_below (own_below O1.out Hb2.out (Nat.le_refl _)) s3 (by omega)
       have c3:=s1.cell0
       have S1:=Lib.hid s1
       have S2:=Lib.hid s2
       have S3:=Lib.hid s3
       clear s1 s2 s3 sS hrw
       by_cases hed:e<dd
       ·obtain⟨c,hc⟩:∃ c,cs[e]? = some c:=⟨_,List.getElem?_eq_getElem (by rw[Hcl.out];exact hed)⟩
        have hc1:=Hcb.out c (List.mem_of_getElem? hc)
        obtain⟨hc2,hc3⟩:=hc1
        have cg:w3.cell? ⟨g,e,none⟩=some (.int .i64 c):=by
         rw[World.ownsRow.cellAt oS e (by omega)];simp[ints,hc]
        obtain⟨y,hy⟩:∃ y,y=fRest (cs.take e) x:=⟨_,rfl⟩
        have hy2:inK .i64 y:=by rw[hy];exact fRest_bd0 _ _ ⟨hx3,hx4⟩
        rw[← hy]
        have Wy:=Lib.hid (fun W=>lwithin y c W hy2 (by omega) (by omega))
        obtain⟨v',w',hrun,ho',hgr⟩:=append_int w3.drew (r0+1) kv (fKey (cs.take e) x) (y % c) w3.heap.size rfl S2.out (by rw[fKey_len,List.length_take];omega) (by exact s4)
        obtain⟨A',c',hv',-⟩:=own_form ho'
        obtain⟨n',hn'⟩:∃ n',n'=(fKey (cs.take e) x ++ [y % c]).length:=⟨_,rfl⟩
        rw[← hn'] at hv'
        subst hv'
        have g1:Box2 50 (w3.drew.alloc (.cells #[.int .i64 (y % c)] 3)) r0 kv (.slice none 0 0):=S1.out.alloc _
        have g2:(w3.drew.alloc (.cells #[.int .i64 (y % c)] 3)).ownsRow (r0+1) 3 1 kv (fKey (cs.take e) x).length (ints (fKey (cs.take e) x)):=S2.out.alloc _
        have g3:Below r0 w1 (w3.drew.alloc (.cells #[.int .i64 (y % c)] 3)):=(below_drewN S3.out 1).alloc (Nat.le_of_lt (by exact s4)) _
        have g4:r0<(w3.drew.alloc (.cells #[.int .i64 (y % c)] 3)).heap.size:=by rw[show (w3.drew.alloc (.cells #[.int .i64 (y % c)] 3)).heap.size=w3.heap.size+1 from by simp];omega
        have b1':=g1.grown hgr g2 (by decide)
        have ht:cs.take (e+1)=cs.take e ++ [c]:=take_snoc hc
        have hend:fRest (cs.take (e+1)) x=y.tdiv 5∧Box2 50 (w'.setCell ⟨r0,0,none⟩ (.slice A' n' c')) r0 (.slice A' n' c') (.slice none 0 0)∧(w'.setCell ⟨r0,0,none⟩ (.slice A' n' c')).ownsRow (r0+1) 3 1 (.slice A' n' c') (fKey (cs.take (e+1)) x).length (ints (fKey (cs.take (e+1)) x)) ∧
          Below r0 w1 (w'.setCell ⟨r0,0,none⟩ (.slice A' n' c'))∧r0<(w'.setCell ⟨r0,0,none⟩ (.slice A' n' c')).heap.size:=by
         rw[ht,fKey_snoc,fRest_snoc,← hy]
         refine⟨rfl,b1'.set0 _,own_box ho' b1' (by decide) _ _,?_,?_⟩
         ·exact (g3.grown hgr (by omega) fun j hj=>by have:=(g2.lt j hj).1;omega).setCell (Nat.le_refl _) _
         ·have:=hgr.size;simp[World.setCell];omega
        have E:=Lib.hid hend
        have c0':=b1'.cell0
        have f0':=b1'.frozen 0
        have Hrun:=Lib.hid hrun
        have Hy:=Lib.hid hy
        have Hc:=Lib.hid hc
        obtain⟨hy3,hy4⟩:=hy2
        have hy5:=tdiv5_bd ⟨hy3,hy4⟩
        obtain⟨hy6,hy7⟩:=hy5
        have he0:(0:Int)≤(e:Int):=by omega
        have hed2:(e:Int)<(dd:Int):=by omega
        clear hrun ho' hgr hy hc hn' g1 g2 g3 g4 b1' ht hend oS
        go_upto_region 20 with (fail)
        go_cut [] (fun wx=>wx=w'.setCell ⟨r0,0,none⟩ (.slice A' n' c'))
        case first =>
         go_region_law (first | (go_simp;go_at_call 22;refine (Wy.out _).mono ?_;rintro e w2 ⟨rfl,rfl⟩) | (refine step_append_eq (by rfl) (.tmp 74) (.tmp 82) 22 (by rfl) kv (.slice (some ⟨w3.heap.size,0,none⟩) 1 1) (.slice A' n' c') w' (by rfl) (by rfl) Hrun.out ?_) | fail)
         all_goals
          go_wp2_with fail
          go_meet
          exact rfl
        case rest =>
         obtain rfl:=hcut
         go_wp2
         exact⟨⟨e+1,by omega,by go_num,congrArg _ E.out.1.symm,_,E.out.2⟩,by simp[intOf];omega⟩
       ·obtain rfl:e=dd:=by omega
        have htk:cs.take e=cs:=List.take_of_length_le (by rw[Hcl.out];exact Nat.le_refl _)
        have s2:=S2.out
        rw[htk] at s2 ⊢
        obtain⟨y,hy⟩:∃ y,y=fRest cs x:=⟨_,rfl⟩
        have hy2:=fRest_bd cs x (by rw[Hcl.out];exact hdd3) ⟨hx3,hx4⟩
        rw[← hy] at hy2 ⊢
        obtain⟨hy3,hy4⟩:=hy2
        obtain⟨K,hK⟩:∃ K,K=w3.heap.size:=⟨_,rfl⟩
        have hkK:∀ b ∈ blk kv,b<K:=fun b hb=>by rw[hK];exact (own_blk s2 b hb).2
        have hKr:r0<K:=by rw[hK];exact s4
        have hKz:K≤w3.heap.size:=Nat.le_of_eq hK
        have Hy:=Lib.hid hy
        have HkK:=Lib.hid hkK
        have T2:=Lib.hid s2
        have W201:=Lib.hid (fun (z:Int) (hz:inK .i64 z) (W:World)=>lwithin z 201 W hz (by omega) (by omega))
        clear hed htk s2 hy hkK hK S2 oS he
        go_wp2_with fail
        go_loopw [18] (fun j wr=>∃ f:Nat,f≤mm∧j=.int .i64 f∧∃ mv,Box2 50 wr r0 kv mv∧wr.ownsRow (r0+1) 3 1 kv (fKey cs x).length (ints (fKey cs x))∧wr.ownsRow K 3 1 mv (fM f y).length (ints (fM f y))∧Below r0 w1 wr∧K≤wr.heap.size) (fun j _=>mm - (intOf j).toNat)
        case atStart=>exact⟨0,by omega,rfl,_,S1.out,T2.out,World.ownsRow_nil _ _ _ _,S3.out,hKz⟩
        case round =>
         rename World=>w4
         obtain⟨f,hf,rfl,mv,s1,s2,s2m,s3,s4'⟩:=hrel
         clear c3 cS dS s4 hKz
         have hrw:r0=w1.heap.size:=Hr0.out
         have sS:=(B1.out.below Hb2.out (by exact hz)).below s3 (by omega)
         have cS:=sS.cell0
         have dS:=sS.cell1
         have c3:=s1.cell0
         have d3:=s1.cell1
         have T1:=Lib.hid s1
         have T2:=Lib.hid s2
         have T2m:=Lib.hid s2m
         have T3:=Lib.hid s3
         have hr4:r0<w4.heap.size:=by omega
         clear s1 s2 s2m s3 sS hrw
         by_cases hfm:f<mm
         ·obtain⟨v',w',hrun,ho',hgr⟩:=append_int w4.drew K mv (fM f y) ((y+7*(f:Int)) % 201 - 100) w4.heap.size rfl T2m.out (by rw[fM_len];omega) (by exact s4')
          obtain⟨A',c',hv',-⟩:=own_form ho'
          obtain⟨n',hn'⟩:∃ n',n'=(fM f y ++ [(y+7*(f:Int)) % 201 - 100]).length:=⟨_,rfl⟩
          rw[← hn'] at hv'
          subst hv'
          obtain⟨z,hz2⟩:∃ z,z=y+7*(f:Int):=⟨_,rfl⟩
          rw[← hz2] at hrun ho' hgr hn'
          have g1:Box2 50 (w4.drew.alloc (.cells #[.int .i64 (z % 201 - 100)] 3)) r0 kv mv:=T1.out.alloc _
          have g2:(w4.drew.alloc (.cells #[.int .i64 (z % 201 - 100)] 3)).ownsRow (r0+1) 3 1 kv (fKey cs x).length (ints (fKey cs x)):=T2.out.alloc _
          have g2m:(w4.drew.alloc (.cells #[.int .i64 (z % 201 - 100)] 3)).ownsRow K 3 1 mv (fM f y).length (ints (fM f y)):=T2m.out.alloc _
          have g3:Below r0 w1 (w4.drew.alloc (.cells #[.int .i64 (z % 201 - 100)] 3)):=(below_drewN T3.out 1).alloc (Nat.le_trans (Nat.le_of_lt hKr) (by exact s4')) _
          have g4:K≤(w4.drew.alloc (.cells #[.int .i64 (z % 201 - 100)] 3)).heap.size:=by rw[show (w4.drew.alloc (.cells #[.int .i64 (z % 201 - 100)] 3)).heap.size=w4.heap.size+1 from by simp];omega
          have b1':=g1.grown hgr g2m (by decide)
          have hend:Box2 50 (w'.setCell ⟨r0,1,none⟩ (.slice A' n' c')) r0 kv (.slice A' n' c')∧(w'.setCell ⟨r0,1,none⟩ (.slice A' n' c')).ownsRow (r0+1) 3 1 kv (fKey cs x).length (ints (fKey cs x)) ∧
            (w'.setCell ⟨r0,1,none⟩ (.slice A' n' c')).ownsRow K 3 1 (.slice A' n' c') (fM (f+1) y).length (ints (fM (f+1) y)) ∧
            Below r0 w1 (w'.setCell ⟨r0,1,none⟩ (.slice A' n' c'))∧K≤(w'.setCell ⟨r0,1,none⟩ (.slice A' n' c')).heap.size:=by
           rw[fM_snoc,← hz2]
           refine⟨b1'.set1 _,own_box (g2.kept hgr (own_two HkK.out g2m)) b1' (by decide) _ _,own_box ho' b1' (by decide) _ _,?_,?_⟩
           ·exact (g3.grown hgr (by omega) fun j hj=>by have:=(g2m.lt j hj).1;omega).setCell (Nat.le_refl _) _
           ·have:=hgr.size;simp[World.setCell];omega
          have E:=Lib.hid hend
          have d3':=b1'.cell1
          have f3':=b1'.frozen 1
          have Hrun:=Lib.hid hrun
          have hz3:-9223372036854775808≤z∧z≤9223372036854775807:=by omega
          have Wz:=Lib.hid (W201.out z hz3)
          obtain⟨hz4,hz5⟩:=hz3
          have hz6:0≤z % 201∧z % 201≤200:=by omega
          obtain⟨hz7,hz8⟩:=hz6
          have k1:IntKind.i64.wrap (7*(f:Int))=7*(f:Int):=IntWalk.i64_in _ (by omega)
          have k2:IntKind.i64.wrap (y+7*(f:Int))=z:=by rw[hz2];exact IntWalk.i64_in _ (by omega)
          have k3:IntKind.i64.wrap (z % 201 - 100)=z % 201 - 100:=IntWalk.i64_in _ (by omega)
          have Hz:=Lib.hid hz2
          clear hrun ho' hgr hn' g1 g2 g2m g3 g4 b1' hend hz2
          go_upto_region 25 with (fail)
          go_region_law (first | (go_simp;go_at_call 22;refine (Wz.out _).mono ?_;rintro e w2 ⟨rfl,rfl⟩) | (refine step_append_eq (by rfl) (.tmp 94) (.tmp 101) 22 (by rfl) mv (.slice (some ⟨w4.heap.size,0,none⟩) 1 1) (.slice A' n' c') w' (by rfl) (by rfl) Hrun.out ?_) | fail)
          all_goals
           go_wp2
           exact⟨⟨f+1,by omega,by go_num,_,E.out⟩,by simp[intOf];omega⟩
         ·obtain rfl:f=mm:=by omega
          have hrw:r0=w1.heap.size:=Hr0.out
          have hme1:mv.oneCell'=true:=own_slice T2m.out
          obtain⟨A',c',hv',-⟩:=own_form T2m.out
          obtain⟨A2,c2,hv2,-⟩:=own_form T2.out
          obtain⟨v',w',hrun,hR',hb'⟩:=append_rowX w1 w4 wc.heap.size _ _ (fRow cs f x) kv mv w4.heap.size K rfl HR.out (by rw[← Hr0.out];exact T3.out) (by rw[← Hr0.out];exact T2.out.mono (by omega)) (by rw[fRow,← Hy.out];exact T2m.out) (by omega) HkK.out (own_slice T2.out) hme1 (by simp;omega) hz1
          rw[← fRows_snoc Hx.out] at hR'
          have Hrun:=Lib.hid hrun
          have HR':=Lib.hid hR'
          have Hb':=Lib.hid ((Hb2.out.trans (T3.out.mono (by omega))).trans hb')
          clear hrun hR' hb' hme1 hrw
          subst hv'
          subst hv2
          go_wp2_with (at_builtin;have _t:=Hrun;refine wpList_append_eq rfl (.tmp 104) (.tmp 106) 26 rfl _ _ _ _ rfl rfl Hrun.out ?_;clear _t Hrun)
          exact⟨⟨k+1,by omega,by omega,by go_num,HR'.out,Hb'.out⟩,by simp[intOf];omega⟩
     ·have hfin:(ns.take k).map (fRow cs mm)=fRows (fCards dims cards) (fMeas me) ns:=by
       rw[← Hcs.out,← Hmm.out,fRows]
       have hnl:ns.length=m:=HD.out.len
       by_cases hk40:k=40
       ·rw[hk40]
       ·obtain rfl:k=m:=by omega
        rw[List.take_of_length_le (Nat.le_of_eq hnl),List.take_of_length_le (by omega)]
      have hR:=HR.out
      rw[hfin] at hR
      obtain⟨hR1⟩:Nonempty (RowsX w1 wc.heap.size _ (fRows (fCards dims cards) (fMeas me) ns)):=⟨hR⟩
      have sS:=B1.out.below Hb2.out (by exact hz)
      have cS:=sS.cell0
      have dS:=sS.cell1
      have s0:=B0.out.below Hb2.out (by omega)
      have t0:=(s0.set0 (.slice (some ⟨g,0,none⟩) dd c1)).set1 (.int .i64 mm)
      have e0:=t0.cell0
      have e1:=t0.cell1
      have c0:=s0.cell0
      have d0:=s0.cell1
      have f0:=s0.frozen 0
      have f1:=s0.frozen 1
      have o2:=own_below O1.out Hb2.out (Nat.le_refl _)
      have hon:Only w.heap.size w1 ((w1.setCell ⟨w.heap.size,0,none⟩ (.slice (some ⟨g,0,none⟩) dd c1)).setCell ⟨w.heap.size,1,none⟩ (.int .i64 mm)):=((Only.refl _ _).setCell 0 _).setCell 1 _
      have hres:FactsPost dims cards me ns w (.returned (.tuple #[.agg #[.slice (some ⟨g,0,none⟩) dd c1,.int .i64 mm],u13])) ((w1.setCell ⟨w.heap.size,0,none⟩ (.slice (some ⟨g,0,none⟩) dd c1)).setCell ⟨w.heap.size,1,none⟩ (.int .i64 mm)):=by
       refine⟨_,_,wc.heap.size,by rw[← Hmm.out],?_,fun j hj=>(own_blk O1.out j hj).2,by omega,hR.only hon (by omega),(X.out.trans (Hb2.out.mono X.out.size)).trans (hon.below (Nat.le_refl _) (by omega))⟩
       rw[← Hdd.out,← Hcs.out]
       exact (own_only o2 hon (by omega)).mono (by omega)
      have R:=Lib.hid hres
      have E0:=Lib.hid e0
      have E1:=Lib.hid e1
      have hout:k<m∧40≤k∨¬ (k<m):=by omega
      clear hfin hR hR1 sS s0 o2 hlt t0 e0 e1 hon hres
      rcases hout with ⟨ho1,ho2⟩ | ho
      all_goals
       go_wp2
       have e0:=E0.out
       have e1:=E1.out
       exact bodyPost_ret (v:=.tuple #[.agg #[.slice (some ⟨g,0,none⟩) dd c1,.int .i64 mm],u13]) (by simp[results,Tryz.results13,go_sem,e0,e1]) rfl R.out
end Go.Proofs.YtnjlkhhcfiedbaaGreatDoor
namespace Go.Proofs.YtnjlkhhcfiedbaaGreatDoor
open Go.RowKit
structure FR (dims:Int) (cards:List Int) (me:Int) (ns:List Int) (w w':World) (A:Option Addr) (c:Nat) (D:Option Addr) (d C q mm m:Nat) (cs:List Int) (l:List Fact):Prop where
 ecs:cs=fCards dims cards
 emm:mm=fMeas me
 el:l=fRows cs mm ns
 eq:cs.length=q
 em:l.length=m
 q1:1≤q
 q4:q≤4
 m2:mm≤2
 m40:m≤40
 nums:Nums .i64 w' A q cs
 facts:Facts w' D m l
 own:w'.ownsRow w.heap.size 3 1 (.slice A q c) q (ints cs)
 cC:∀ g ∈ blk (.slice A q c),g<C
 wC:w.heap.size≤C
 rows:RowsX w' C (.slice D m d) l
 below:Below w.heap.size w w'
 right:allRightB cs (mm:Int) l=true
 small:∀ r ∈ l,(∀ x ∈ r.key,inK .i64 x)∧∀ x ∈ r.m,inK .i64 x
 lens:∀ r ∈ l,r.key.length=q∧r.m.length=mm
 c16:∀ x ∈ cs,1≤x∧x≤16
theorem Facts_res (dims me:Int) (A D:Option Addr) (n c m d:Nat) (cards ns:List Int) (w:World) (hA:Nums .i64 w A n cards) (hD:Nums .i64 w D m ns) (hn:n≤9223372036854775807) (hm:m≤9223372036854775807) (hd:inK .i64 dims) (hme:inK .i64 me) :
  Calls Tryz.prog 13 #[.int .i64 dims,.slice A n c,.int .i64 me,.slice D m d] w fun e w' =>
   ∃ (A:Option Addr) (c:Nat) (D:Option Addr) (d C q mm m:Nat) (cs:List Int) (l:List Fact),e=.returned (.tuple #[.agg #[.slice A q c,.int .i64 mm],.slice D m d])∧FR dims cards me ns w w' A c D d C q mm m cs l:=by
 refine (Facts_any dims me A D n c m d cards ns w hA hD hn hm hd hme).mono ?_
 rintro e w2 ⟨cv,rv,C,rfl,oc,hcC,hC,hR,hb2⟩
 obtain⟨A,c,hcv,-,-,hn⟩:=own_nums (by rw[fCards_len];exact oc) (fCards_i64 dims cards)
 obtain⟨D,d,hrv,-,-,hF⟩:=hR.rows.facts (fRows_small me ns)
 rw[fCards_len] at hcv hn
 subst hcv
 subst hrv
 exact⟨A,c,D,d,C,fDims dims,fMeas me,_,fCards dims cards,_,rfl,rfl,rfl,rfl,fCards_len _ _,rfl,(fDims_bd _).1,(fDims_bd _).2,fMeas_bd _,fRows_len _ _ _,hn,hF,oc,hcC,hC,hR,hb2,fRows_right _ _,fRows_small _ _,(fun r hr=>by
  simp only[fRows,List.mem_map] at hr
  obtain⟨k,_,rfl⟩:=hr
  rw[← fCards_len dims cards]
  exact fRow_lens _ _),fun x hx=>fCards_bd x hx⟩
end Go.Proofs.YtnjlkhhcfiedbaaGreatDoor

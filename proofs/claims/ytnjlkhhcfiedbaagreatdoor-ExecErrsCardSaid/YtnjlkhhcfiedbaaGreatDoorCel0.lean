import Derived.WalkKit
import Derived.WalkSpells
import Derived.WalkLawsBesides
import Derived.Deep.QuietTactic
import Derived.BigQuiet
import Derived.Lib.QuietBelow
import Derived.Lib.Hide
import Derived.Lib.LazyBuf
import Derived.Deep.AppendLies
import Derived.Deep.Onto
import Derived.Maps.AppendAt
import Derived.OpenShut
import Derived.StillTailTactics
import Derived.Test.YtnjlkhhcfiedbaaGreatDoorProg
namespace Go.Proofs.YtnjlkhhcfiedbaaGreatDoor
open Go.RowKit

def inK:IntKind→Int→Prop
 | .i64,x=>-9223372036854775808≤x∧x≤9223372036854775807
 | .u8,x=>0≤x∧x≤255
 | _,_=>True

def Nums (kd:IntKind) (w:World) (A:Option Addr) (n:Nat) (xs:List Int):Prop :=
 xs.length=n∧(∀ x ∈ xs,inK kd x)∧(0<n→∃ ad,A=some ad∧∀ j x,xs[j]? = some x→w.cell? (ad.add j)=some (.int kd x))

theorem Nums.len {kd:IntKind} {w:World} {A:Option Addr} {n:Nat} {xs:List Int} (h:Nums kd w A n xs):xs.length=n:=h.1
theorem Nums.ok {kd:IntKind} {w:World} {A:Option Addr} {n:Nat} {xs:List Int} (h:Nums kd w A n xs):∀ x ∈ xs,inK kd x:=h.2.1

theorem Nums.at_ {kd:IntKind} {w:World} {A:Option Addr} {n:Nat} {xs:List Int} (h:Nums kd w A n xs) {k:Nat} (hk:k<n) :
  ∃ ad x,A=some ad∧xs[k]? = some x∧inK kd x∧w.cell? (ad.add k)=some (.int kd x):=by
 obtain⟨hl,hi,hc⟩:=h
 obtain⟨ad,ha,hc⟩:=hc (by omega)
 have hx:xs[k]? = some xs[k]:=List.getElem?_eq_getElem (by omega)
 exact⟨ad,xs[k],ha,hx,hi _ (List.getElem_mem _),hc _ _ hx⟩

theorem block_of_add (a:Addr) (n:Nat):(a.add n).block=a.block:=by unfold Addr.add;split <;> rfl
theorem add_of_add (a:Addr) (i j:Nat):(a.add i).add j=a.add (i+j):=by
 unfold Addr.add
 by_cases hi:i=0 <;> by_cases hj:j=0 <;> simp[hi,hj,Nat.add_assoc]

def Keeps (w w':World):Prop:=∀ (p:Addr) (v:Value),w.cell? p=some v→w'.cell? p=some v

theorem Keeps.refl (w:World):Keeps w w:=fun _ _ h=>h
theorem Keeps.trans {a b c:World} (h:Keeps a b) (k:Keeps b c):Keeps a c:=fun p v hp=>k p v (h p v hp)
theorem block_lt {w:World} {p:Addr} {v:Value} (h:w.cell? p=some v):p.block<w.heap.size:=block_lt_of_cell h
theorem Keeps.of_below {w w':World} (h:Below w.heap.size w w'):Keeps w w':=fun p v hp=>by rw[h.cell (block_lt hp)];exact hp
theorem Keeps.drewN {a w:World} (h:Keeps a w) (n:Nat):Keeps a (w.drewN n):=h
theorem Keeps.alloc {a w:World} (h:Keeps a w) (o:Obj):Keeps a (w.alloc o):=fun p v hp=>by
 rw[World.cell?_alloc_lt w o p (block_lt (h p v hp))];exact h p v hp

theorem Nums.keep {kd:IntKind} {w w':World} {A:Option Addr} {n:Nat} {xs:List Int} (h:Nums kd w A n xs) (hk:Keeps w w'):Nums kd w' A n xs :=
 ⟨h.1,h.2.1,fun hn=>by obtain⟨ad,ha,hc⟩:=h.2.2 hn;exact⟨ad,ha,fun j x hx=>hk _ _ (hc j x hx)⟩⟩
theorem Nums.nil (kd:IntKind) (w:World) (A:Option Addr):Nums kd w A 0 []:=⟨rfl,by simp,fun h=>absurd h (by omega)⟩

theorem below_drewN {B:Nat} {a w:World} (h:Below B a w) (n:Nat):Below B a (w.drewN n):=⟨h.os,h.tape,h.output,h.size,h.block⟩

structure Fact where
 key:List Int
 m:List Int

def RowAt (w:World) (ad:Addr) (r:Fact):Prop :=
 ∃ A c B d,w.cell? ad=some (.slice A r.key.length c)∧w.cell? ⟨ad.block,ad.off+1,none⟩=some (.slice B r.m.length d)∧Nums .i64 w A r.key.length r.key∧Nums .i64 w B r.m.length r.m

def Facts (w:World) (A:Option Addr) (n:Nat) (l:List Fact):Prop :=
 l.length=n∧(0<n→∃ ad,A=some ad∧∀ (j:Nat) (r:Fact),l[j]? = some r→RowAt w (ad.add (j*2)) r)

structure Only (g:Nat) (w w':World):Prop where
 os:w'.os=w.os
 tape:w'.tape=w.tape
 output:w'.output=w.output
 size:w.heap.size≤w'.heap.size
 block:∀ k,k<w.heap.size→k ≠ g→w'.heap[k]? = w.heap[k]?
theorem Only.refl (g:Nat) (w:World):Only g w w:=⟨rfl,rfl,rfl,Nat.le_refl _,fun _ _ _=>rfl⟩
theorem Only.trans {g:Nat} {a b c:World} (h:Only g a b) (k:Only g b c):Only g a c :=
 ⟨k.os.trans h.os,k.tape.trans h.tape,k.output.trans h.output,Nat.le_trans h.size k.size,fun i hi hne=>(k.block i (Nat.lt_of_lt_of_le hi h.size) hne).trans (h.block i hi hne)⟩
theorem Only.setCell {g:Nat} {a w:World} (h:Only g a w) (i:Nat) (v:Value):Only g a (w.setCell ⟨g,i,none⟩ v) :=
 h.trans ⟨rfl,rfl,rfl,by simp[World.setCell],fun k _ hne=>Below.heap_setCell _ _ _ _ hne⟩
theorem Only.below {g B:Nat} {w w':World} (h:Only g w w') (hB:B≤g) (hs:B≤w.heap.size):Below B w w' :=
 ⟨h.os,h.tape,h.output,h.size,fun k hk=>h.block k (by omega) (by omega)⟩

theorem ret_int {k:IntKind} {a b:Int} (h:a=b):Ending.returned (.int k a)=.returned (.int k b):=by rw[h]

section
variable {kd:IntKind} {T:TypeId} {w w':World} {g:Nat} {xs:List Int}
end
def strOf (ns:List Int):ByteArray:=⟨(ns.map fun n=>UInt8.ofNat n.toNat).toArray⟩
theorem fold_push (ns:List Int):∀ (s:ByteArray),ns.foldl (fun r n=>r.push (UInt8.ofNat n.toNat)) s=⟨s.data ++ (ns.map fun n=>UInt8.ofNat n.toNat).toArray⟩:=by
 induction ns with
 | nil=>intro s;simp
 | cons n t ih =>
  intro s
  rw[List.foldl_cons,ih]
  congr 1
  simp[ByteArray.push]
theorem conv_str {P:Program} (src dst e:TypeId) (hs:P.underlying src=some (.slice e)) (he:P.underlying e=some (.int .u8)) (hd:P.underlying dst=some .string) (w:World) (A:Option Addr) (n c:Nat) (xs:List Int) (hx:Nums .u8 w A n xs) :
  (convert src dst (.slice A n c)).run P w=.ok (.string (strOf xs)) w:=by
 rw[run_convert_bytes_string w src dst e A n c hs he hd]
 cases A with
 | none =>
  have h0:n=0:=by
   rcases Nat.eq_zero_or_pos n with h | h
   ·exact h
   ·obtain⟨_,e,_⟩:=hx.2.2 h;cases e
  subst h0
  have e:xs=[]:=List.eq_nil_of_length_eq_zero hx.1
  subst e
  rfl
 | some ad =>
  have hl:(loadCells ad n).run P w=.ok (xs.map (Value.int .u8)).toArray w:=by
   have:=run_loadCells_list (P:=P) w ad (xs.map (Value.int .u8)) (fun j v hv=>by
    rw[List.getElem?_map,Option.map_eq_some_iff] at hv
    obtain⟨x,hx1,rfl⟩:=hv
    have hj:j<n:=by rw[← hx.1];exact (List.getElem?_eq_some_iff.1 hx1).1
    obtain⟨ad',e,hc⟩:=hx.2.2 (by omega)
    injection e with e
    subst e
    exact hc j x hx1)
   rwa [List.length_map,hx.1] at this
  rw[run_bytesToString w ad n c xs hl,fold_push]
  simp[strOf]

def Box2 (T:TypeId) (w:World) (g:Nat) (a b:Value):Prop:=w.heap[g]? = some (.cells #[a,b] T (0,0))
section
variable {T:TypeId} {w w':World} {g:Nat} {a b:Value}
theorem Box2.lt (h:Box2 T w g a b):g<w.heap.size:=by
 rcases Nat.lt_or_ge g w.heap.size with hlt | hge
 ·exact hlt
 ·unfold Box2 at h;rw[Array.getElem?_eq_none hge] at h;cases h
theorem Box2.cell0 (h:Box2 T w g a b):w.cell? ⟨g,0,none⟩=some a:=cell_of_row w g 0 _ _ (0,0) h
theorem Box2.cell1 (h:Box2 T w g a b):w.cell? ⟨g,1,none⟩=some b:=cell_of_row w g 1 _ _ (0,0) h
theorem Box2.frozen (h:Box2 T w g a b) (i:Nat):w.frozen? ⟨g,i,none⟩=false:=by
 unfold Box2 at h
 simp[World.frozen?,h]
theorem Box2.set0 (h:Box2 T w g a b) (v:Value):Box2 T (w.setCell ⟨g,0,none⟩ v) g v b:=by
 unfold Box2 at h ⊢
 simp[World.setCell,Array.getElem?_modify,h]
theorem Box2.set1 (h:Box2 T w g a b) (v:Value):Box2 T (w.setCell ⟨g,1,none⟩ v) g a v:=by
 unfold Box2 at h ⊢
 simp[World.setCell,Array.getElem?_modify,h]
theorem Box2.alloc (h:Box2 T w g a b) (o:Obj):Box2 T (w.alloc o) g a b:=(Below.heap_alloc _ _ _ h.lt).trans h
theorem Box2.below {B:Nat} (h:Box2 T w g a b) (hb:Below B w w') (hg:g<B):Box2 T w' g a b:=(hb.block g hg).trans h
theorem Box2.only {k:Nat} (h:Box2 T w g a b) (hb:Only k w w') (hg:g ≠ k):Box2 T w' g a b:=(hb.block g h.lt hg).trans h
theorem Box2.new (w:World) (T:TypeId) (a b:Value):Box2 T (w.alloc (.cells #[a,b] T)) w.heap.size a b:=heap_alloc_new w _
end

end Go.Proofs.YtnjlkhhcfiedbaaGreatDoor
namespace Go.Proofs.YtnjlkhhcfiedbaaGreatDoor
open Go.RowKit

theorem take_snoc {α:Type} {a:List α} {k:Nat} {x:α} (h:a[k]? = some x):a.take (k+1)=a.take k ++ [x]:=by
 rw[List.take_add_one,h];rfl
def cardsB (cs:List Int):Bool:=cs.all fun x=>decide (1≤x) && decide (x≤16)
def checkB (cs:List Int) (me:Int):Bool:=decide (1≤cs.length) && decide (cs.length≤4) && decide (0≤me) && decide (me≤2) && cardsB cs
theorem checkB_yes {cs:List Int} {me:Int} (h1:1≤cs.length) (h2:cs.length≤4) (h3:0≤me) (h4:me≤2) (h5:∀ x ∈ cs,1≤x∧x≤16):checkB cs me=true:=by
 simp only[checkB,cardsB,h1,h2,h3,h4,decide_true,Bool.true_and,List.all_eq_true,Bool.and_eq_true,decide_eq_true_eq]
 exact h5
def keysB:List Int→List Int→Bool
 | [],[]=>true
 | c :: cs,v :: vs=>decide (0≤v) && decide (v<c) && keysB cs vs
 | _,_=>false
def rightB (cs:List Int) (me:Int) (r:Fact):Bool:=keysB cs r.key && decide ((r.m.length:Int)=me)
theorem keysB_yes:∀ {cs vs:List Int},vs.length=cs.length→(∀ (k:Nat) (c v:Int),cs[k]? = some c→vs[k]? = some v→0≤v∧v<c)→keysB cs vs=true
 | [],[],_,_=>rfl
 | c :: cs,v :: vs,hl,h=>by
  have h0:=h 0 c v rfl rfl
  simp only[keysB,Bool.and_eq_true,decide_eq_true_eq]
  exact⟨h0,keysB_yes (by simpa using hl) fun k c v hc hv=>h (k+1) c v (by simpa using hc) (by simpa using hv)⟩
 | [],_ :: _,hl,_=>by simp at hl
 | _ :: _,[],hl,_=>by simp at hl
theorem rightB_yes {cs:List Int} {me:Int} {r:Fact} (h1:r.key.length=cs.length) (h2:(r.m.length:Int)=me) (h:∀ k c v,k<r.key.length→cs[k]? = some c→r.key[k]? = some v→0≤v∧v<c):rightB cs me r=true:=by
 simp only[rightB,Bool.and_eq_true,decide_eq_true_eq]
 exact⟨keysB_yes h1 fun k c v hc hv=>h k c v (List.getElem?_eq_some_iff.1 hv).1 hc hv,h2⟩

def allRightB (cs:List Int) (me:Int) (l:List Fact):Bool:=checkB cs me && l.all (rightB cs me)
theorem allRightB_yes {cs:List Int} {me:Int} {l:List Fact} (h:checkB cs me=true) (ha:∀ r ∈ l,rightB cs me r=true):allRightB cs me l=true:=by
 simp only[allRightB,h,Bool.true_and,List.all_eq_true]
 exact ha
theorem allRightB_spec {cs:List Int} {me:Int} {l:List Fact} (h:allRightB cs me l=true):checkB cs me=true∧∀ r ∈ l,rightB cs me r=true:=by
 simpa only [allRightB,Bool.and_eq_true,List.all_eq_true] using h
theorem rightB_key {cs:List Int} {me:Int} {r:Fact} (h:rightB cs me r=true):keysB cs r.key=true:=by
 simp only[rightB,Bool.and_eq_true] at h
 exact h.1

theorem keysB_small:∀ {cs vs:List Int},keysB cs vs=true→(∀ c ∈ cs,1≤c∧c≤16)→∀ x ∈ vs,0≤x∧x≤15
 | [],[],_,_,x,hx=>by simp at hx
 | c :: cs,v :: vs,h,hc,x,hx=>by
  simp only[keysB,Bool.and_eq_true,decide_eq_true_eq] at h
  have h0:=hc c List.mem_cons_self
  rcases List.mem_cons.1 hx with rfl | hx
  ·omega
  ·exact keysB_small h.2 (fun c h=>hc c (List.mem_cons_of_mem _ h)) x hx
 | [],_ :: _,h,_,_,_=>by simp[keysB] at h
 | _ :: _,[],h,_,_,_=>by simp[keysB] at h
end Go.Proofs.YtnjlkhhcfiedbaaGreatDoor
namespace Go.Proofs.YtnjlkhhcfiedbaaGreatDoor
open Go.RowKit
theorem only_setCell (g:Nat) (w:World) (i:Nat) (v:Value):Only g w (w.setCell ⟨g,i,none⟩ v):=(Only.refl g w).setCell i v
def Own (T:TypeId) (w:World) (g:Nat) (vs:List Value):Prop:=w.heap[g]? = some (.cells vs.toArray T (0,0))
section
variable {T:TypeId} {w w':World} {g:Nat} {vs:List Value}
theorem Own.lt (h:Own T w g vs):g<w.heap.size:=by
 rcases Nat.lt_or_ge g w.heap.size with hlt | hge
 ·exact hlt
 ·unfold Own at h;rw[Array.getElem?_eq_none hge] at h;cases h
theorem Own.cell (h:Own T w g vs) {i:Nat} {v:Value} (hx:vs[i]? = some v):w.cell? ⟨g,i,none⟩=some v:=by
 rw[cell_of_row w g i _ _ (0,0) h]
 simp[hx]
theorem Own.frozen (h:Own T w g vs) (i:Nat):w.frozen? ⟨g,i,none⟩=false:=by
 unfold Own at h
 simp[World.frozen?,h]
theorem Own.set_ (h:Own T w g vs) (i:Nat) (v:Value):Own T (w.setCell ⟨g,i,none⟩ v) g (vs.set i v):=by
 unfold Own at h ⊢
 simp[World.setCell,Array.getElem?_modify,h]
theorem Own.drewN (h:Own T w g vs) (n:Nat):Own T (w.drewN n) g vs:=h
theorem Own.alloc (h:Own T w g vs) (o:Obj):Own T (w.alloc o) g vs:=(Below.heap_alloc _ _ _ h.lt).trans h
theorem Own.below {B:Nat} (h:Own T w g vs) (hb:Below B w w') (hg:g<B):Own T w' g vs:=(hb.block g hg).trans h
theorem Own.only {k:Nat} (h:Own T w g vs) (hb:Only k w w') (hg:g ≠ k):Own T w' g vs:=(hb.block g h.lt hg).trans h
end
end Go.Proofs.YtnjlkhhcfiedbaaGreatDoor
namespace Go.Proofs.YtnjlkhhcfiedbaaGreatDoor
open Go.RowKit

theorem add0 (h k:Nat):(Addr.add ⟨h,0,none⟩ k)=⟨h,k,none⟩:=by
 unfold Addr.add
 split
 ·simp[*]
 ·simp
structure Tch (M:Nat→Prop) (w w':World):Prop where
 os:w'.os=w.os
 tape:w'.tape=w.tape
 output:w'.output=w.output
 size:w.heap.size≤w'.heap.size
 block:∀ k,k<w.heap.size→¬ M k→w'.heap[k]? = w.heap[k]?
section
variable {M N:Nat→Prop} {a b c w w':World}
theorem Tch.refl (M:Nat→Prop) (w:World):Tch M w w:=⟨rfl,rfl,rfl,Nat.le_refl _,fun _ _ _=>rfl⟩
theorem Tch.trans (h:Tch M a b) (k:Tch N b c) (hN:∀ k,k<a.heap.size→N k→M k):Tch M a c :=
 ⟨k.os.trans h.os,k.tape.trans h.tape,k.output.trans h.output,Nat.le_trans h.size k.size,fun i hi hne=>(k.block i (Nat.lt_of_lt_of_le hi h.size) (fun hn=>hne (hN i hi hn))).trans (h.block i hi hne)⟩
theorem Tch.mono (h:Tch M a b) (hM:∀ k,k<a.heap.size→M k→N k):Tch N a b:=⟨h.os,h.tape,h.output,h.size,fun k hk hn=>h.block k hk fun hm=>hn (hM k hk hm)⟩
theorem Tch.of_below (M:Nat→Prop) (h:Below w.heap.size w w'):Tch M w w':=⟨h.os,h.tape,h.output,h.size,fun k hk _=>h.block k hk⟩
theorem Tch.of_only {g:Nat} (h:Only g w w') (hg:M g):Tch M w w':=⟨h.os,h.tape,h.output,h.size,fun k hk hn=>h.block k hk (fun e=>hn (e ▸ hg))⟩
theorem Tch.of_grown {row:Option Nat} (h:w.grownBy w' row) (hM:∀ k,row=some k→M k):Tch M w w' :=
 ⟨h.os,h.tape,h.output,h.size,fun k hk hn=>h.block k hk fun e=>hn (hM k e.symm)⟩
theorem Tch.alloc (M:Nat→Prop) (w:World) (o:Obj):Tch M w (w.alloc o):=Tch.of_below M ((Below.refl _ _).alloc (Nat.le_refl _) o)
theorem Tch.setCell {g:Nat} (hg:M g) (w:World) (i:Nat) (v:Value):Tch M w (w.setCell ⟨g,i,none⟩ v):=Tch.of_only (only_setCell g w i v) hg
theorem Tch.below {B:Nat} (h:Tch M w w') (hM:∀ k,M k→B≤k) (hB:B≤w.heap.size):Below B w w' :=
 ⟨h.os,h.tape,h.output,h.size,fun k hk=>h.block k (by omega) fun hm=>by have:=hM k hm;omega⟩
theorem Tch.same (h:Tch M a b) (k:Tch M b c):Tch M a c:=h.trans k fun _ _ hm=>hm
end
theorem own_apart {w:World} {b b':Nat} {e e':TypeId} {s s' n n':Nat} {v v':Value} {xs xs':List Value} (h:w.ownsRow b e s v n xs) (h':w.ownsRow b' e' s' v' n' xs') (hne:e ≠ e'):v.ownBlock=none∨v.ownBlock ≠ v'.ownBlock:=by
 rcases h.2 with ⟨rfl,_⟩ | ⟨g,cap,cur,rfl,_,hh,_⟩
 ·exact .inl rfl
 ·refine .inr fun e0=>?_
  rcases h'.2 with ⟨rfl,_⟩ | ⟨g',cap',cur',rfl,_,hh',_⟩
  ·simp[Value.ownBlock] at e0
  ·simp only[Value.ownBlock,Option.some.injEq] at e0
   subst e0
   rw[hh] at hh'
   injection hh' with hh'
   injection hh' with _ h2
   exact hne h2
theorem own_below {w w':World} {b B:Nat} {e:TypeId} {s n:Nat} {v:Value} {xs:List Value} (h:w.ownsRow b e s v n xs) (hb:Below B w w') (hB:w.heap.size≤B):w'.ownsRow b e s v n xs:=by
 refine⟨h.1,?_⟩
 rcases h.2 with h0 | ⟨g,cap,cur,hv,hg,hh,hr⟩
 ·exact .inl h0
 ·have hlt:g<w.heap.size:=by
   rcases Nat.lt_or_ge g w.heap.size with h1 | h1
   ·exact h1
   ·rw[Array.getElem?_eq_none h1] at hh;cases hh
  exact .inr ⟨g,cap,cur,hv,hg,(hb.block g (by omega)).trans hh,hr⟩
theorem own_stay {w w':World} {b:Nat} {e:TypeId} {s n:Nat} {v:Value} {xs:List Value} (h:w.ownsRow b e s v n xs) (hb:∀ k,v.ownBlock=some k→w'.heap[k]? = w.heap[k]?):w'.ownsRow b e s v n xs:=by
 refine⟨h.1,?_⟩
 rcases h.2 with h0 | ⟨g,cap,cur,rfl,hg,hh,hr⟩
 ·exact .inl h0
 ·exact .inr ⟨g,cap,cur,rfl,hg,(hb g rfl).trans hh,hr⟩
theorem own_mono {w:World} {b b':Nat} {e:TypeId} {s n:Nat} {v:Value} {xs:List Value} (h:w.ownsRow b e s v n xs) (hb:b'≤b):w.ownsRow b' e s v n xs:=by
 refine⟨h.1,?_⟩
 rcases h.2 with h0 | ⟨g,cap,cur,hv,hg,hr⟩
 ·exact .inl h0
 ·exact .inr ⟨g,cap,cur,hv,Nat.le_trans hb hg,hr⟩
theorem own_form {w:World} {b:Nat} {e:TypeId} {s n:Nat} {v:Value} {xs:List Value} (h:w.ownsRow b e s v n xs) :
  ∃ A c,v=.slice A n c∧n≤c∧c≤maxLen∧(0<n→∃ g,A=some ⟨g,0,none⟩∧b≤g∧∀ j u,xs[j]? = some u→w.cell? ⟨g,j,none⟩=some u):=by
 rcases h.2 with ⟨rfl,rfl⟩ | ⟨g,cap,cur,rfl,hg,hh,hnc,hcm,hsz,hx⟩
 ·exact⟨none,0,rfl,Nat.le_refl _,Nat.zero_le _,fun h=>absurd h (by omega)⟩
 ·refine⟨_,cap,rfl,hnc,hcm,fun _=>⟨g,rfl,hg,fun j u hu=>?_⟩⟩
  rw[cell_of_row w g j cur e (0,0) hh]
  rw[← hx,List.getElem?_take] at hu
  split at hu
  ·simpa using hu
  ·cases hu
theorem own_form0 {w:World} {b:Nat} {e:TypeId} {s n:Nat} {v:Value} {xs:List Value} (h:w.ownsRow b e s v n xs) :
  (v=.slice none 0 0∧n=0)∨∃ g c,v=.slice (some ⟨g,0,none⟩) n c∧n≤c∧c≤maxLen∧g<w.heap.size:=by
 rcases h.2 with h0 | ⟨g,cap,cur,rfl,hg,hh,hnc,hcm,hsz,hx⟩
 ·exact .inl h0
 ·refine .inr ⟨g,cap,rfl,hnc,hcm,?_⟩
  rcases Nat.lt_or_ge g w.heap.size with h1 | h1
  ·exact h1
  ·rw[Array.getElem?_eq_none h1] at hh;cases hh
theorem own_free {w:World} {b:Nat} {e:TypeId} {s n c:Nat} {g:Nat} {xs:List Value} (h:w.ownsRow b e s (.slice (some ⟨g,0,none⟩) n c) n xs) (j:Nat):w.frozen? ⟨g,j,none⟩=false:=by
 rcases h.2 with ⟨h0,_⟩ | ⟨g',cap,cur,h0,hg,hh,hr⟩
 ·cases h0
 ·injection h0 with h1 h2 h3
  injection h1 with h1
  injection h1 with h1
  subst h1
  simp[World.frozen?,hh]
theorem wpList_append_eq {P:Program} {ops:Array Oper} {rest:List Oper} {o:Oper} {a:Act} {w:World} {Q:Exit→Act→World→Prop} (hgd:o.guard=none) (s x:Operand) (t:TypeId)
  (ho:o.op=.call { callee:=.builtin .append,args:=#[s,x],argTypes:=#[t,t] }) (v y v':Value) (w':World) (hs:a.eval s=v) (hx:a.eval x=y)
  (hrun:(Builtin.append_ #[t,t] o.type #[v,y]).run P w=.ok v' w') (h:wpList P ops Q rest (a.put o.dst v') w'):wpList P ops Q (o :: rest) a w :=
 wpList_plain hgd fun _ hK=>by
  unfold Oper.wp execOp
  simp only[ho,resolve,invoke,builtin,Sem.run_bind,Sem.run_pure,Result.andThen_ok,List.map_toArray,List.map_cons,List.map_nil,hs,hx,hrun]
  exact hK _ _ h

theorem infoByte:(Tryz.prog.info? 5).map (fun i=>(i.zero,i.size,i.bytes))=some (some (.int .u8 0),1,1):=by kernel_rfl
end Go.Proofs.YtnjlkhhcfiedbaaGreatDoor
namespace Go.Proofs.YtnjlkhhcfiedbaaGreatDoor
open Go.RowKit
def ints (xs:List Int):List Value:=xs.map (Value.int .i64)
theorem ints_len (xs:List Int):(ints xs).length=xs.length:=by simp[ints]
def IntsOk (xs:List Int):Prop:=∀ x ∈ xs,inK .i64 x
theorem infoI:(Tryz.prog.info? 3).map (fun i=>(i.zero,i.size,i.bytes))=some (some (.int .i64 0),1,8):=by kernel_rfl
theorem ints_one (xs:List Int):∀ u ∈ ints xs,u.oneCell'=true:=by
 intro u hu
 simp only[ints,List.mem_map] at hu
 obtain⟨x,_,rfl⟩:=hu
 rfl
theorem Nums.cells_i {w:World} {P:Option Addr} {n:Nat} {xs:List Int} (h:Nums .i64 w P n xs) {ad:Addr} (hP:P=some ad):∀ j u,(ints xs)[j]? = some u→w.cell? (ad.add j)=some u:=by
 intro j u hu
 subst hP
 simp only[ints,List.getElem?_map,Option.map_eq_some_iff] at hu
 obtain⟨x,hx,rfl⟩:=hu
 have hj:j<n:=by rw[← h.1];exact (List.getElem?_eq_some_iff.1 hx).1
 obtain⟨ad',e,hc⟩:=h.2.2 (by omega)
 injection e with e
 subst e
 exact hc j x hx
def OI (B:Nat) (w:World) (v:Value) (xs:List Int):Prop:=w.ownsRow B 3 1 v xs.length (ints xs)∧IntsOk xs
section
variable {B B':Nat} {w w':World} {v:Value} {xs:List Int}
theorem OI.mono (h:OI B w v xs) (hb:B'≤B):OI B' w v xs:=⟨own_mono h.1 hb,h.2⟩
theorem OI.below (h:OI B w v xs) (hb:Below w.heap.size w w'):OI B w' v xs:=⟨own_below h.1 hb (Nat.le_refl _),h.2⟩
theorem OI.nil (B:Nat) (w:World):OI B w (.slice none 0 0) []:=⟨World.ownsRow_nil _ _ _ _,fun x h=>by cases h⟩
theorem OI.form (h:OI B w v xs):∃ P c,v=.slice P xs.length c∧xs.length≤c∧c≤maxLen∧Nums .i64 w P xs.length xs∧(P=none→c=0):=by
 obtain⟨P,c,hv,h1,h2,h3⟩:=own_form h.1
 refine⟨P,c,hv,h1,h2,⟨rfl,h.2,fun hn=>?_⟩,fun e=>?_⟩
 ·obtain⟨g,rfl,_,hc⟩:=h3 hn
  exact⟨_,rfl,fun j x hx=>by rw[add0];exact hc j _ (by simp[ints,hx])⟩
 ·rcases own_form0 h.1 with ⟨e1,_⟩ | ⟨g,c',e1,_⟩
  ·rw[hv] at e1;injection e1
  ·rw[hv,e] at e1;injection e1 with e1 _ _;cases e1
end
end Go.Proofs.YtnjlkhhcfiedbaaGreatDoor
namespace Go.Proofs.YtnjlkhhcfiedbaaGreatDoor
open Go.RowKit
structure Cel where
 key:List Int
 cnt:Int
 sum:List Int
 mn:List Int
 mx:List Int
def cmpI (x y:Int):Int:=if x<y then -1 else if y<x then 1 else 0
def cmpL:List Int→List Int→Int
 | [],[]=>0
 | [],_ :: _=>-1
 | _ :: _,[]=>1
 | x :: s,y :: t=>if cmpI x y=0 then cmpL s t else cmpI x y
theorem cmpI_self (x:Int):cmpI x x=0:=by simp[cmpI]
theorem cmpI_zero {x y:Int}:cmpI x y=0 ↔ x=y:=by
 unfold cmpI
 split
 ·constructor <;> intro h <;> omega
 ·split
  ·constructor <;> intro h <;> omega
  ·constructor <;> intro h <;> omega
theorem cmpL_self:∀ (s:List Int),cmpL s s=0
 | []=>rfl
 | x :: s=>by unfold cmpL;rw[if_pos (cmpI_self x)];exact cmpL_self s
theorem cmpL_zero:∀ {s t:List Int},cmpL s t=0 ↔ s=t
 | [],[]=>by simp[cmpL]
 | [],_ :: _=>by simp[cmpL]
 | _ :: _,[]=>by simp[cmpL]
 | x :: s,y :: t=>by
  unfold cmpL
  split
  ·rename_i h
   rw[cmpL_zero (s:=s) (t:=t),cmpI_zero.1 h]
   simp
  ·rename_i h
   constructor
   ·intro h1;exact absurd h1 h
   ·intro h1;injection h1 with h1 _;exact absurd (cmpI_zero.2 h1) h
theorem cmpI_anti (x y:Int):cmpI y x=- cmpI x y:=by
 unfold cmpI
 split <;> split <;> (try split) <;> omega
theorem cmpL_anti:∀ (s t:List Int),cmpL t s=- cmpL s t
 | [],[]=>rfl
 | [],_ :: _=>rfl
 | _ :: _,[]=>rfl
 | x :: s,y :: t=>by
  have h:=cmpI_anti x y
  have ih:=cmpL_anti s t
  unfold cmpL
  by_cases h0:cmpI x y=0
  ·rw[if_pos h0,if_pos (by omega),ih]
  ·rw[if_neg h0,if_neg (by omega),h]
theorem cmpI_lt {x y:Int}:cmpI x y<0 ↔ x<y:=by
 unfold cmpI
 split
 ·constructor <;> intro h <;> omega
 ·split <;> (constructor <;> intro h <;> omega)
theorem cmpL_trans:∀ {s t u:List Int},cmpL s t≤0→cmpL t u≤0→cmpL s u≤0
 | [],_,[] ,_,_=>by simp[cmpL]
 | [],_,_ :: _,_,_=>by simp[cmpL]
 | _ :: _,[],_,h,_=>by simp[cmpL] at h
 | _ :: _,_ :: _,[],_,h=>by simp[cmpL] at h
 | x :: s,y :: t,z :: u,h1,h2=>by
  unfold cmpL at h1 h2 ⊢
  by_cases a:cmpI x y=0
  ·rw[if_pos a] at h1
   have ea:=cmpI_zero.1 a
   subst ea
   by_cases b:cmpI x z=0
   ·rw[if_pos b] at h2 ⊢
    exact cmpL_trans h1 h2
   ·rw[if_neg b] at h2 ⊢;exact h2
  ·rw[if_neg a] at h1
   have la:=cmpI_lt.1 (show cmpI x y<0 by omega)
   by_cases b:cmpI y z=0
   ·have eb:=cmpI_zero.1 b
    subst eb
    rw[if_neg a];exact h1
   ·rw[if_neg b] at h2
    have lb:=cmpI_lt.1 (show cmpI y z<0 by omega)
    have lc:cmpI x z<0:=cmpI_lt.2 (by omega)
    rw[if_neg (by omega)]
    omega
theorem cmpL_drop {s t:List Int} {k:Nat} {x y:Int} (hx:s[k]? = some x) (hy:t[k]? = some y):cmpL (s.drop k) (t.drop k)=if cmpI x y=0 then cmpL (s.drop (k+1)) (t.drop (k+1)) else cmpI x y:=by
 obtain⟨h1,rfl⟩:=List.getElem?_eq_some_iff.1 hx
 obtain⟨h2,rfl⟩:=List.getElem?_eq_some_iff.1 hy
 rw[List.drop_eq_getElem_cons h1,List.drop_eq_getElem_cons h2]
 rfl
def RI (w:World) (v:Value) (xs:List Int):Prop:=∃ P c,v=.slice P xs.length c∧Nums .i64 w P xs.length xs∧xs.length≤c∧c≤maxLen∧(P=none→c=0)
theorem OI.ri {B:Nat} {w:World} {v:Value} {xs:List Int} (h:OI B w v xs):RI w v xs:=by
 obtain⟨P,c,hv,h1,h2,h3,h4⟩:=h.form
 exact⟨P,c,hv,h3,h1,h2,h4⟩
theorem RI.keep {w w':World} {v:Value} {xs:List Int} (h:RI w v xs) (hk:Keeps w w'):RI w' v xs:=by
 obtain⟨P,c,hv,h1,h2⟩:=h
 exact⟨P,c,hv,h1.keep hk,h2⟩
structure CR (w:World) (k s n m:Value) (x:Cel):Prop where
 key:RI w k x.key
 sum:RI w s x.sum
 mn:RI w n x.mn
 mx:RI w m x.mx
structure CO (B:Nat) (w:World) (k s n m:Value) (x:Cel):Prop where
 key:OI B w k x.key
 sum:OI B w s x.sum
 mn:OI B w n x.mn
 mx:OI B w m x.mx
section
variable {B B':Nat} {w w':World} {k s n m:Value} {x:Cel}
theorem CO.cr (h:CO B w k s n m x):CR w k s n m x:=⟨h.key.ri,h.sum.ri,h.mn.ri,h.mx.ri⟩
theorem CR.keep (h:CR w k s n m x) (hk:Keeps w w'):CR w' k s n m x:=⟨h.key.keep hk,h.sum.keep hk,h.mn.keep hk,h.mx.keep hk⟩
theorem CO.below (h:CO B w k s n m x) (hb:Below w.heap.size w w'):CO B w' k s n m x:=⟨h.key.below hb,h.sum.below hb,h.mn.below hb,h.mx.below hb⟩
theorem CO.mono (h:CO B w k s n m x) (hb:B'≤B):CO B' w k s n m x:=⟨h.key.mono hb,h.sum.mono hb,h.mn.mono hb,h.mx.mono hb⟩
end
def Ap (v u:Value):Prop:=∀ b,v.ownBlock=some b→u.ownBlock ≠ some b
theorem Ap.symm {v u:Value} (h:Ap v u):Ap u v:=fun b h1 h2=>h b h2 h1
structure Ap4 (k s n m:Value):Prop where
 ks:Ap k s
 kn:Ap k n
 km:Ap k m
 sn:Ap s n
 sm:Ap s m
 nm:Ap n m
theorem OI.ap {B B':Nat} {w w':World} {v u:Value} {xs ys:List Int} (h:OI B w v xs) (h':OI B' w' u ys) (hb:w.heap.size≤B'):Ap v u:=fun b h1 h2=>by
 have a:=(h.1.lt b h1).2
 have c:=(h'.1.lt b h2).1
 omega
theorem OI.put {B g n c i:Nat} {w:World} {xs:List Int} (h:OI B w (.slice (some ⟨g,0,none⟩) n c) xs) (y:Int) (hy:inK .i64 y):OI B (w.setCell ⟨g,i,none⟩ (.int .i64 y)) (.slice (some ⟨g,0,none⟩) n c) (xs.set i y):=by
 obtain⟨h1,h2⟩:=h
 have hn:n=xs.length:=by
  obtain⟨P,c',e,_⟩:=own_form h1
  injection e
 subst hn
 refine⟨?_,fun x hx=>?_⟩
 ·have e:ints (xs.set i y)=(ints xs).set i (.int .i64 y):=by simp[ints,List.map_set]
  rw[e,List.length_set]
  refine⟨by rw[List.length_set];exact h1.1,?_⟩
  rcases h1.2 with ⟨e0,_⟩ | ⟨g',cap',cur,e0,hg,hh,a1,a2,a3,a4⟩
  ·cases e0
  ·injection e0 with e1 e2 e3
   injection e1 with e1
   injection e1 with e1
   subst e1 e3
   refine .inr ⟨g,c,cur.setIfInBounds i (.int .i64 y),rfl,hg,?_,a1,a2,by simpa using a3,?_⟩
   ·simp[World.setCell,Array.getElem?_modify,hh]
   ·rw[Array.toList_setIfInBounds,List.take_set,a4]
 ·rcases List.mem_or_eq_of_mem_set hx with h0 | h0
  ·exact h2 x h0
  ·subst h0;exact hy
theorem OI.other {B g i:Nat} {w:World} {v:Value} {xs:List Int} (h:OI B w v xs) (u:Value) (hne:v.ownBlock ≠ some g):OI B (w.setCell ⟨g,i,none⟩ u) v xs :=
 ⟨own_stay h.1 fun k hk=>Below.heap_setCell _ _ _ _ fun e=>hne (by rw[hk,e]),h.2⟩
def CellAt (w:World) (a:Addr) (x:Cel):Prop :=
 ∃ k s n m,w.cell? a=some k∧w.cell? ⟨a.block,a.off+1,none⟩=some (.int .i64 x.cnt)∧w.cell? ⟨a.block,a.off+2,none⟩=some s∧w.cell? ⟨a.block,a.off+3,none⟩=some n∧w.cell? ⟨a.block,a.off+4,none⟩=some m∧CR w k s n m x∧inK .i64 x.cnt
theorem CellAt.keep {w w':World} {a:Addr} {x:Cel} (h:CellAt w a x) (hk:Keeps w w'):CellAt w' a x:=by
 obtain⟨k,s,n,m,h1,h2,h3,h4,h5,h6,h7⟩:=h
 exact⟨k,s,n,m,hk _ _ h1,hk _ _ h2,hk _ _ h3,hk _ _ h4,hk _ _ h5,h6.keep hk,h7⟩
def CellsR (w:World) (ad:Addr) (l:List Cel):Prop:=∀ j x,l[j]? = some x→CellAt w (ad.add (j*5)) x
theorem CellsR.keep {w w':World} {ad:Addr} {l:List Cel} (h:CellsR w ad l) (hk:Keeps w w'):CellsR w' ad l:=fun j x hj=>(h j x hj).keep hk
theorem CellsR.drop {w:World} {ad:Addr} {l:List Cel} (h:CellsR w ad l) (i:Nat):CellsR w (ad.add (i*5)) (l.drop i):=fun j x hj=>by
 rw[List.getElem?_drop] at hj
 rw[add_of_add,show i*5+j*5=(i+j)*5 by omega]
 exact h _ _ hj
theorem CellsR.take {w:World} {ad:Addr} {l:List Cel} (h:CellsR w ad l) (i:Nat):CellsR w ad (l.take i):=fun j x hj=>by
 rw[List.getElem?_take] at hj
 split at hj
 ·exact h _ _ hj
 ·cases hj
theorem CellsR.first {w:World} {ad:Addr} {x:Cel} {l:List Cel} (h:CellsR w ad (x :: l)):CellAt w ad x:=by
 have:=h 0 x rfl
 rwa [show ad.add (0*5)=ad from by simp[Addr.add]] at this
def EvenC (me:Nat) (x:Cel):Prop:=x.sum.length=me∧x.mn.length=me∧x.mx.length=me
def addL (a b:List Int):List Int:=List.zipWith (fun x y=>wrap64 (x+y)) a b
def minL (a b:List Int):List Int:=List.zipWith min a b
def maxL (a b:List Int):List Int:=List.zipWith max a b
def join2 (a b:Cel):Cel:=⟨a.key,wrap64 (a.cnt+b.cnt),addL a.sum b.sum,minL a.mn b.mn,maxL a.mx b.mx⟩
def joinAll:List Cel→Cel
 | []=>⟨[],0,[],[],[]⟩
 | x :: t=>t.foldl join2 x
end Go.Proofs.YtnjlkhhcfiedbaaGreatDoor

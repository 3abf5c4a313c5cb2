import Derived.IntWalk
import Derived.Test.YtnjlkhhcfiedbaaGreatDoorHsh1
import Derived.Test.YtnjlkhhcfiedbaaGreatDoorExA
import Derived.Test.YtnjlkhhcfiedbaaGreatDoorGroupN
import Derived.Test.YtnjlkhhcfiedbaaGreatDoorRrow5
import Derived.Test.YtnjlkhhcfiedbaaGreatDoorGood5
import Derived.Test.YtnjlkhhcfiedbaaGreatDoorMake
namespace Go.Proofs.YtnjlkhhcfiedbaaGreatDoor
open Go.RowKit
def slotL:Option V5→List Value
 | none=>[.slice none 0 0,.int .i64 0,.slice none 0 0,.slice none 0 0,.slice none 0 0,.bool false]
 | some v=>[v.a,v.b,v.c,v.d,v.e,.bool true]
def flatS (vs:List (Option V5)):List Value:=vs.flatMap slotL
theorem slotL_len:∀ v:Option V5,(slotL v).length=6
 | none=>rfl
 | some _=>rfl
theorem flatS_len:∀ vs:List (Option V5),(flatS vs).length=vs.length*6
 | []=>rfl
 | v :: vs=>by rw[flatS,List.flatMap_cons,List.length_append,slotL_len];have:=flatS_len vs;rw[flatS] at this;rw[this,List.length_cons];omega
theorem flatS_at:∀ {vs:List (Option V5)} {i:Nat} {v:Option V5},vs[i]? = some v→∀ j,j<6→(flatS vs)[i*6+j]? = (slotL v)[j]?
 | [],i,v,h,_,_=>by simp at h
 | u :: vs,0,v,h,j,hj=>by
  simp only[List.getElem?_cons_zero,Option.some.injEq] at h
  subst h
  rw[flatS,List.flatMap_cons,List.getElem?_append_left (by rw[slotL_len];omega)]
  simp
 | u :: vs,i+1,v,h,j,hj=>by
  rw[List.getElem?_cons_succ] at h
  have:=flatS_at h j hj
  rw[flatS,List.flatMap_cons,List.getElem?_append_right (by rw[slotL_len];omega),slotL_len,show (i+1)*6+j - 6=i*6+j by omega]
  exact this
theorem flatS_cut {vs:List (Option V5)} {i:Nat} (h:i<vs.length) (u:Option V5):flatS (vs.set i u)=flatS (vs.take i) ++ slotL u ++ flatS (vs.drop (i+1)):=by
 rw[List.set_eq_take_append_cons_drop,if_pos h]
 simp[flatS]
theorem set6 (a b:List Value) (u0 u1 u2 u3 u4 u5 v0 v1 v2 v3 v4 v5:Value) (k:Nat) (hk:a.length=k):((((((a ++ [u0,u1,u2,u3,u4,u5] ++ b).set k v0).set (k+1) v1).set (k+2) v2).set (k+3) v3).set (k+4) v4).set (k+5) v5=a ++ [v0,v1,v2,v3,v4,v5] ++ b:=by
 subst hk
 simp[List.set_append_right,List.append_assoc,Nat.add_sub_cancel_left]
theorem flatS_set {vs:List (Option V5)} {i:Nat} (h:i<vs.length) (v:V5):((((((flatS vs).set (i*6) v.a).set (i*6+1) v.b).set (i*6+2) v.c).set (i*6+3) v.d).set (i*6+4) v.e).set (i*6+5) (.bool true)=flatS (vs.set i (some v)):=by
 rw[flatS_cut h (some v)]
 have e:flatS vs=flatS (vs.take i) ++ slotL vs[i] ++ flatS (vs.drop (i+1)):=by
  rw[← flatS_cut h,List.set_getElem_self]
 have hl:(flatS (vs.take i)).length=i*6:=by rw[flatS_len,List.length_take];omega
 rw[e]
 match slotL vs[i],slotL_len vs[i] with
 | [u0,u1,u2,u3,u4,u5],_=>exact set6 _ _ _ _ _ _ _ _ _ _ _ _ _ _ _ hl
theorem set_same {l:List Value} {i:Nat} {v:Value} (h:l[i]? = some v):l.set i v=l:=by
 obtain⟨hi,rfl⟩:=List.getElem?_eq_some_iff.1 h
 exact List.set_getElem_self (by assumption)
theorem flatS_set5 {vs:List (Option V5)} {i:Nat} {u:V5} (h:vs[i]? = some (some u)) (v:V5):(((((flatS vs).set (i*6) v.a).set (i*6+1) v.b).set (i*6+2) v.c).set (i*6+3) v.d).set (i*6+4) v.e=flatS (vs.set i (some v)):=by
 have hi:=(List.getElem?_eq_some_iff.1 h).1
 rw[← flatS_set hi v]
 symm
 apply set_same
 simp only[List.getElem?_set_ne (show i*6+4 ≠ i*6+5 by omega),List.getElem?_set_ne (show i*6+3 ≠ i*6+5 by omega),List.getElem?_set_ne (show i*6+2 ≠ i*6+5 by omega),List.getElem?_set_ne (show i*6+1 ≠ i*6+5 by omega),List.getElem?_set_ne (show i*6 ≠ i*6+5 by omega)]
 rw[flatS_at h 5 (by omega)]
 rfl
theorem flatS_new (n:Nat):(madeCells #[.slice none 0 0,.int .i64 0,.slice none 0 0,.slice none 0 0,.slice none 0 0,.bool false] (n*6)).toList=flatS (List.replicate n none):=by
 apply List.ext_getElem?
 intro p
 rcases Nat.lt_or_ge p (n*6) with h | h
 ·have h1:p / 6<n:=by omega
  have h2:=flatS_at (vs:=List.replicate n none) (i:=p / 6) (v:=none) (by rw[List.getElem?_replicate,if_pos h1]) (p % 6) (by omega)
  rw[show p / 6*6+p % 6=p by omega] at h2
  rw[h2]
  unfold madeCells
  simp only[Array.toList_map,Array.toList_range,List.getElem?_map,List.getElem?_range h,Option.map_some]
  have h3:p % 6<6:=by omega
  match p % 6,h3 with
  | 0,_=>simp[slotL]
  | 1,_=>simp[slotL]
  | 2,_=>simp[slotL]
  | 3,_=>simp[slotL]
  | 4,_=>simp[slotL]
  | 5,_=>simp[slotL]
 ·rw[List.getElem?_eq_none (l:=flatS _) (by rw[flatS_len,List.length_replicate];exact h),List.getElem?_eq_none (by unfold madeCells;simpa using h)]
section
variable {B B' g:Nat} {w w':World} {vs:List (Option V5)} {ts:List (Option Cel)}
theorem OI.onlyL {T:TypeId} {l:List Value} {v:Value} {xs:List Int} (h:OI B w v xs) (ho:Only g w w') (hg:Own T w g l) (hT:T ≠ 3):OI B w' v xs:=by
 refine⟨own_stay h.1 fun k hk=>ho.block k (h.1.lt k hk).2 fun e=>?_,h.2⟩
 subst e
 rcases h.1.2 with ⟨rfl,_⟩ | ⟨g',cap,cur,rfl,_,hh,_⟩
 ·simp[Value.ownBlock] at hk
 ·simp only[Value.ownBlock,Option.some.injEq] at hk
  subst hk
  unfold Own at hg
  rw[hh] at hg
  injection hg with hg
  injection hg with _ h2
  exact hT h2.symm
def SlotO (B:Nat) (w:World):Option V5→Option Cel→Prop
 | none,none=>True
 | some v,some x=>OwnC B w v x
 | _,_=>False
structure TabO (B:Nat) (w:World) (g:Nat) (vs:List (Option V5)) (ts:List (Option Cel)):Prop where
 blk:Own 192 w g (flatS vs)
 len:vs.length=ts.length
 at_:∀ (i:Nat) v t,vs[i]? = some v→ts[i]? = some t→SlotO B w v t
theorem SlotO.stay {v:Option V5} {t:Option Cel} (h:SlotO B w v t) (hs:∀ {u:Value} {xs:List Int},OI B w u xs→OI B' w' u xs):SlotO B' w' v t:=by
 match v,t,h with
 | none,none,_=>trivial
 | some v,some x,h=>exact OwnC.stay (show OwnC B w v x from h) hs
theorem TabO.mono (h:TabO B w g vs ts) (hb:B'≤B):TabO B' w g vs ts:=⟨h.blk,h.len,fun i v t hv ht=>(h.at_ i v t hv ht).stay fun o=>o.mono hb⟩
theorem TabO.below (h:TabO B w g vs ts) (hb:Below w.heap.size w w'):TabO B w' g vs ts:=⟨h.blk.below hb h.blk.lt,h.len,fun i v t hv ht=>(h.at_ i v t hv ht).stay fun o=>o.below hb⟩
theorem TabO.only {T b:Nat} {l:List Value} (h:TabO B w g vs ts) (ho:Only b w w') (hb:Own T w b l) (hT:T ≠ 3) (hT2:T ≠ 192):TabO B w' g vs ts:=by
 refine⟨h.blk.only ho fun e=>?_,h.len,fun i v t hv ht=>(h.at_ i v t hv ht).stay fun o=>o.onlyL ho hb hT⟩
 subst e
 have h1:=h.blk
 unfold Own at h1 hb
 rw[hb] at h1
 injection h1 with h1
 injection h1 with _ h2
 exact hT2 h2
theorem TabO.slot (h:TabO B w g vs ts) {i:Nat} {t:Option Cel} (ht:ts[i]? = some t):∃ v,vs[i]? = some v∧SlotO B w v t∧∀ j,j<6→∀ u,(slotL v)[j]? = some u→w.cell? ⟨g,i*6+j,none⟩=some u:=by
 have hi:i<vs.length:=by rw[h.len];exact (List.getElem?_eq_some_iff.1 ht).1
 have hv:vs[i]? = some vs[i]:=List.getElem?_eq_getElem hi
 exact⟨vs[i],hv,h.at_ i _ t hv ht,fun j hj u hu=>h.blk.cell (by rw[flatS_at hv j hj];exact hu)⟩
theorem TabO.read (h:TabO B w g vs ts):TabR w g ts:=fun i t ht=>by
 obtain⟨v,_,hs,hc⟩:=h.slot ht
 match v,t,hs with
 | none,none,_=>exact hc 5 (by omega) _ rfl
 | some v,some x,hs =>
  obtain⟨e,hco,hin⟩:=(show OwnC B w v x from hs)
  refine⟨hc 5 (by omega) _ rfl,v.a,v.c,v.d,v.e,hc 0 (by omega) _ rfl,?_,hc 2 (by omega) _ rfl,hc 3 (by omega) _ rfl,hc 4 (by omega) _ rfl,hco.cr,hin⟩
  exact hc 1 (by omega) _ (by simp[slotL,e])
theorem TabO.put_new (h:TabO B w g vs ts) {i:Nat} (hi:i<ts.length) {v:V5} {x:Cel} (hv:OwnC B w v x):TabO B ((((((w.setCell ⟨g,i*6,none⟩ v.a).setCell ⟨g,i*6+1,none⟩ v.b).setCell ⟨g,i*6+2,none⟩ v.c).setCell ⟨g,i*6+3,none⟩ v.d).setCell ⟨g,i*6+4,none⟩ v.e).setCell ⟨g,i*6+5,none⟩ (.bool true)) g (vs.set i (some v)) (ts.set i (some x)):=by
 have ho:Only g w ((((((w.setCell ⟨g,i*6,none⟩ v.a).setCell ⟨g,i*6+1,none⟩ v.b).setCell ⟨g,i*6+2,none⟩ v.c).setCell ⟨g,i*6+3,none⟩ v.d).setCell ⟨g,i*6+4,none⟩ v.e).setCell ⟨g,i*6+5,none⟩ (.bool true)):=((((((Only.refl g w).setCell _ _).setCell _ _).setCell _ _).setCell _ _).setCell _ _).setCell _ _
 have hb:=(((((h.blk.set_ (i*6) v.a).set_ (i*6+1) v.b).set_ (i*6+2) v.c).set_ (i*6+3) v.d).set_ (i*6+4) v.e).set_ (i*6+5) (.bool true)
 rw[flatS_set (by rw[h.len];exact hi)] at hb
 refine⟨hb,by simp[h.len],fun j u t hu ht=>?_⟩
 have st:∀ {u:Value} {xs:List Int},OI B w u xs→OI B _ u xs:=fun o=>o.onlyL ho h.blk (by decide)
 by_cases hj:i=j
 ·subst hj
  rw[List.getElem?_set_self (by rw[h.len];exact hi)] at hu
  rw[List.getElem?_set_self hi] at ht
  cases hu;cases ht
  exact OwnC.stay hv st
 ·rw[List.getElem?_set_ne hj] at hu ht
  exact (h.at_ j u t hu ht).stay st
theorem TabO.put_old (h:TabO B w g vs ts) {i:Nat} {y:Cel} (hi:ts[i]? = some (some y)) {v:V5} {x:Cel} (hv:OwnC B w v x):TabO B (((((w.setCell ⟨g,i*6,none⟩ v.a).setCell ⟨g,i*6+1,none⟩ v.b).setCell ⟨g,i*6+2,none⟩ v.c).setCell ⟨g,i*6+3,none⟩ v.d).setCell ⟨g,i*6+4,none⟩ v.e) g (vs.set i (some v)) (ts.set i (some x)):=by
 have ho:Only g w (((((w.setCell ⟨g,i*6,none⟩ v.a).setCell ⟨g,i*6+1,none⟩ v.b).setCell ⟨g,i*6+2,none⟩ v.c).setCell ⟨g,i*6+3,none⟩ v.d).setCell ⟨g,i*6+4,none⟩ v.e):=(((((Only.refl g w).setCell _ _).setCell _ _).setCell _ _).setCell _ _).setCell _ _
 obtain⟨u,hu,hs,_⟩:=h.slot hi
 obtain⟨u,rfl⟩:∃ u',u=some u':=by
  match u,hs with
  | some u,_=>exact⟨u,rfl⟩
 have hb:=((((h.blk.set_ (i*6) v.a).set_ (i*6+1) v.b).set_ (i*6+2) v.c).set_ (i*6+3) v.d).set_ (i*6+4) v.e
 rw[flatS_set5 hu] at hb
 have hi':=(List.getElem?_eq_some_iff.1 hi).1
 refine⟨hb,by simp[h.len],fun j u t hu ht=>?_⟩
 have st:∀ {u:Value} {xs:List Int},OI B w u xs→OI B _ u xs:=fun o=>o.onlyL ho h.blk (by decide)
 by_cases hj:i=j
 ·subst hj
  rw[List.getElem?_set_self (by rw[h.len];exact hi')] at hu
  rw[List.getElem?_set_self hi'] at ht
  cases hu;cases ht
  exact OwnC.stay hv st
 ·rw[List.getElem?_set_ne hj] at hu ht
  exact (h.at_ j u t hu ht).stay st
end
theorem TabO.new {w:World} {B g n:Nat} (h:w.heap[g]? = some (.cells (madeCells #[.slice none 0 0,.int .i64 0,.slice none 0 0,.slice none 0 0,.slice none 0 0,.bool false] (n*6)) 192 (0,0))):TabO B w g (List.replicate n none) (List.replicate n none):=by
 refine⟨?_,by simp,fun i v t hv ht=>?_⟩
 ·unfold Own
  rw[h,← flatS_new]
 ·rw[List.getElem?_replicate] at hv ht
  split at hv
  ·rename_i hn
   rw[if_pos hn] at ht
   cases hv;cases ht
   trivial
  ·cases hv
end Go.Proofs.YtnjlkhhcfiedbaaGreatDoor
namespace Go.Proofs.YtnjlkhhcfiedbaaGreatDoor
open Go.RowKit Go.Shelf
theorem RunsC.rcc {X:World} {P:Option Addr} {n:Nat} {Js:List (List Cel)} (h:RunsC X P n Js):RCc X P n Js:=fun hn=>by
 obtain⟨ad,e,hc⟩:=h hn
 refine⟨ad,e,fun i J hJ=>?_⟩
 obtain⟨Pi,ci,h1,h2,h3,-⟩:=hc i J hJ
 exact⟨Pi,ci,h1,h2,h3⟩
theorem MPk.of_ok {d me:Nat} {Js:List (List Cel)} (hr:∀ J ∈ Js,RiseC J) (ho:OkL d me Js.flatten) (hd:d≤1000000) (hl:Js.flatten.length≤1000):MPk me Js:=⟨hr,fun x hx=>⟨(ho x hx).2.2,by have:=(ho x hx).1;omega⟩,hl⟩
theorem mpk_runs {k d me:Nat} {L:List Cel} (hk:1≤k) (ho:OkL d me L) (hd:d≤1000000) (hl:L.length≤1000):MPk me (runsP k [] L) :=
 MPk.of_ok (d:=d) (fun J hJ=>(runs_each hk L [] (by simp[RiseC]) (by simp) J hJ).1) (runs_ok (m:=k) L [] ho (fun y hy=>absurd hy List.not_mem_nil)) hd (by
  have:=runs_len (m:=k) L []
  rw[List.length_nil] at this
  omega)
end Go.Proofs.YtnjlkhhcfiedbaaGreatDoor
namespace Go.Proofs.YtnjlkhhcfiedbaaGreatDoor
open Go.RowKit Go.Shelf
theorem and_fin:∀ a x:Fin 16,0≤bits .and .i64 (a.val:Int) (x.val:Int)∧bits .and .i64 (a.val:Int) (x.val:Int)≤15∧bits .andNot .i64 (bits .and .i64 (a.val:Int) (x.val:Int)) (a.val:Int)=0:=by decide +kernel
theorem ones_fin:∀ a:Fin 16,ones (a.val:Int)=((dimsL (a.val:Int)).length:Int):=by decide +kernel
theorem at_fin:∀ b:Fin 16,∀ d ∈ dimsL (b.val:Int),(dimsL (b.val:Int))[(plc (b.val:Int) d).toNat]? = some d:=by decide +kernel
theorem sub_fin:∀ a b:Fin 16,bits .andNot .i64 (b.val:Int) (a.val:Int)=0→∀ d ∈ dimsL (b.val:Int),d ∈ dimsL (a.val:Int):=by decide +kernel
theorem fin_of {a:Int} (h1:0≤a) (h2:a≤15):∃ f:Fin 16,a=(f.val:Int):=⟨⟨a.toNat,by omega⟩,by simp;omega⟩
theorem and_sub (a x:Int) (h1:0≤a) (h2:a≤15) (h3:0≤x) (h4:x≤15):0≤bits .and .i64 a x∧bits .and .i64 a x≤15∧bits .andNot .i64 (bits .and .i64 a x) a=0:=by
 obtain⟨f,rfl⟩:=fin_of h1 h2
 obtain⟨g,rfl⟩:=fin_of h3 h4
 exact and_fin f g
theorem ones_len (a:Int) (h1:0≤a) (h2:a≤15):ones a=((dimsL a).length:Int):=by
 obtain⟨f,rfl⟩:=fin_of h1 h2
 exact ones_fin f
theorem pick_map (b:Int) (h1:0≤b) (h2:b≤15) (f:Int→Int) (d:Int) (hd:d ∈ dimsL b):pick ((dimsL b).map f) b d=f d:=by
 obtain⟨g,rfl⟩:=fin_of h1 h2
 unfold pick
 rw[List.getElem?_map,at_fin g d hd]
 rfl
theorem narrow_key (a c:Int) (a1:0≤a) (a2:a≤15) (c1:0≤c) (c2:c≤15) (h:bits .andNot .i64 c a=0) (f:Int→Int):(dimsL c).map (pick ((dimsL a).map f) a)=(dimsL c).map f:=by
 obtain⟨g,rfl⟩:=fin_of a1 a2
 obtain⟨k,rfl⟩:=fin_of c1 c2
 exact List.map_congr_left fun d hd=>pick_map _ a1 a2 f d (sub_fin g k h d hd)
def valF (key:List Int) (x:Int):Int:=key[x.toNat]?.getD 0
theorem pk_val (key:List Int) (set:Int) (h1:0≤set) (h2:set≤fullB key.length) (h4:key.length≤4):pk key set key.length=(dimsL set).map (valF key):=by
 rw[pk_of key set h1 h2 h4]
 unfold ofKey
 refine List.map_congr_left fun x hx=>?_
 obtain⟨a,b⟩:=dimsL_lt key.length set h1 h2 h4 x hx
 unfold pick valF
 rw[plc_idx key.length x h4 a b]
theorem sub_le (a c:Int) (a1:0≤a) (a2:a≤15) (c1:0≤c) (c2:c≤15) (h:bits .andNot .i64 c a=0):c≤a:=by
 obtain⟨f,rfl⟩:=fin_of a1 a2
 obtain⟨g,rfl⟩:=fin_of c1 c2
 have:∀ a b:Fin 16,bits .andNot .i64 (b.val:Int) (a.val:Int)=0→(b.val:Int)≤(a.val:Int):=by decide +kernel
 exact this f g h
end Go.Proofs.YtnjlkhhcfiedbaaGreatDoor

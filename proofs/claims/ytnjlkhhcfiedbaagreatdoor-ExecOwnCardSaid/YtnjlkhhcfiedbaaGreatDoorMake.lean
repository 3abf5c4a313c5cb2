import Derived.Deep.Upon
import Derived.IntWalk
import Derived.Test.YtnjlkhhcfiedbaaGreatDoorFactsLaw2
import Derived.Test.YtnjlkhhcfiedbaaGreatDoorCelg
import Derived.Test.YtnjlkhhcfiedbaaGreatDoorSl
import Derived.Test.YtnjlkhhcfiedbaaGreatDoorGroupN
import Derived.Test.YtnjlkhhcfiedbaaGreatDoorCelf
namespace Go.Proofs.YtnjlkhhcfiedbaaGreatDoor
open Go.RowKit Go.Shelf
theorem app_one {B:Nat} {W:World} {u:Value} {xs:List Int} (x:Int) (hu:OI B W u xs) (hx:inK .i64 x) (hl:xs.length≤1000000) (hB:B≤W.heap.size) :
  ∃ A c W',(Builtin.append_ #[22,22] 22 #[u,.slice (some ⟨W.heap.size,0,none⟩) 1 1]).run Tryz.prog (W.alloc (.cells #[.int .i64 x] 3))=.ok (.slice A (xs.length+1) c) W'∧OI B W' (.slice A (xs.length+1) c) (xs ++ [x]) ∧
   (W.alloc (.cells #[.int .i64 x] 3)).grownBy W' u.ownBlock:=by
 obtain⟨v',w',hrun,ho,hgr⟩:=append_int W B u xs x _ rfl hu.1 hl hB
 have h2:OI B w' v' (xs ++ [x]):=⟨ho,fun y hy=>by rcases List.mem_append.1 hy with h | h;exact hu.2 y h;(simp only[List.mem_singleton] at h;subst h;exact hx)⟩
 obtain⟨A,c,hv,-⟩:=h2.form
 rw[List.length_append] at hv
 replace hv:v'=.slice A (xs.length+1) c:=hv
 subst hv
 exact⟨A,c,w',hrun,h2,hgr⟩
theorem app_lit {B g:Nat} {W:World} {v:Value} {xs:List Int} (hg:W.ownsRow B 3 1 (.slice (some ⟨g,0,none⟩) 0 0) 0 []) (hv:RI W v xs) (hl:xs.length≤1000000) (hB:B≤W.heap.size) :
  ∃ A c W',(Builtin.append_ #[22,22] 22 #[.slice (some ⟨g,0,none⟩) 0 0,v]).run Tryz.prog W=.ok (.slice A xs.length c) W'∧OI B W' (.slice A xs.length c) xs∧W.grownBy W' (some g):=by
 obtain⟨i0,hi,hz0,hz1,hz2⟩:=info_parts infoI
 obtain⟨P,c,rfl,hn,h1,h2,h3⟩:=hv
 cases P with
 | none =>
  have hc:c=0:=h3 rfl
  subst hc
  have he:xs=[]:=by
   cases xs with
   | nil=>rfl
   | cons a t=>exact absurd (hn.2.2 (by simp)) (by rintro ⟨ad,e,_⟩;cases e)
  subst he
  refine⟨some ⟨g,0,none⟩,0,W,?_,⟨by simpa [ints] using hg,fun x h=>by cases h⟩,⟨rfl,rfl,rfl,Nat.le_refl _,fun _ _ _=>rfl⟩⟩
  exact run_append_nothing W 22 22 22 3 i0 Tryz.underlying22 hi (some ⟨g,0,none⟩) 0 0 (Nat.le_refl _) (.slice none 0 0) (Src.ofNil W Tryz.underlying22 0)
 | some ad =>
  obtain⟨v',W',hrun,ho,hgr,_,_⟩:=run_append_own_at (P:=Tryz.prog) W B 22 22 3 i0 _ 1 8 Tryz.underlying22 hi hz0 hz1 hz2 rfl (by omega) (.slice (some ⟨g,0,none⟩) 0 0) 0 [] hg ad xs.length c (ints xs) (by simp[ints_len]) (hn.cells_i rfl) (ints_one xs) (by simp[maxLen];omega) (by omega) hB
  rw[Nat.zero_add,List.nil_append] at ho
  have h4:OI B W' v' xs:=⟨ho,hn.2.1⟩
  obtain⟨A,c',hv,-⟩:=h4.form
  subst hv
  exact⟨A,c',W',hrun,h4,hgr⟩
end Go.Proofs.YtnjlkhhcfiedbaaGreatDoor
namespace Go.Proofs.YtnjlkhhcfiedbaaGreatDoor
open Go.RowKit Go.Shelf
def pk (key:List Int) (set:Int):Nat→List Int
 | 0=>[]
 | i+1=>if set / 2 ^ i % 2=1 then pk key set i ++ [key[i]?.getD 0] else pk key set i
theorem pk_len (key:List Int) (set:Int):∀ i,(pk key set i).length≤i
 | 0=>Nat.le_refl _
 | i+1=>by
  have:=pk_len key set i
  unfold pk
  split
  ·simp;omega
  ·omega
theorem bit_one (x:Int) (h1:0≤x) (h2:x≤15):bits .and .i64 x 1=x % 2:=by
 rcases (by omega:x=0∨x=1∨x=2∨x=3∨x=4∨x=5∨x=6∨x=7∨x=8∨x=9∨x=10∨x=11∨x=12∨x=13∨x=14∨x=15) with rfl | rfl | rfl | rfl | rfl | rfl | rfl | rfl | rfl | rfl | rfl | rfl | rfl | rfl | rfl | rfl <;> decide +kernel
theorem shr_in (set:Int) (k:Nat) (h1:0≤set) (h2:set≤15) (hk:k≤3):0≤set / 2 ^ k∧set / 2 ^ k≤15:=by
 rcases (by omega:k=0∨k=1∨k=2∨k=3) with rfl | rfl | rfl | rfl <;> simp <;> omega
theorem plc_idx (d:Nat) (i:Int) (hd:d≤4) (h0:0≤i) (h:i<d):plc (fullB d) i=i:=by
 rcases (by omega:d=0∨d=1∨d=2∨d=3∨d=4) with rfl | rfl | rfl | rfl | rfl
 ·omega
 ·obtain rfl:i=0:=by omega
  decide +kernel
 ·rcases (by omega:i=0∨i=1) with rfl | rfl <;> decide +kernel
 ·rcases (by omega:i=0∨i=1∨i=2) with rfl | rfl | rfl <;> decide +kernel
 ·rcases (by omega:i=0∨i=1∨i=2∨i=3) with rfl | rfl | rfl | rfl <;> decide +kernel
theorem dimsL_lt (d:Nat) (set:Int) (h1:0≤set) (h2:set≤fullB d) (hd:d≤4):∀ x ∈ dimsL set,0≤x∧x<d:=by
 intro x hx
 have hf:set≤(2:Int) ^ d - 1:=h2
 unfold dimsL at hx
 simp only[List.mem_append] at hx
 rcases (by omega:d=0∨d=1∨d=2∨d=3∨d=4) with rfl | rfl | rfl | rfl | rfl
 all_goals
  simp at hf
  rcases hx with ((hx | hx) | hx) | hx <;> split at hx <;> simp at hx <;> subst hx <;> (constructor <;> omega)
theorem pk_of (key:List Int) (set:Int) (h1:0≤set) (h2:set≤fullB key.length) (h4:key.length≤4):pk key set key.length=ofKey key set:=by
 have e1:ofKey key set=(dimsL set).map fun x=>key[x.toNat]?.getD 0:=by
  unfold ofKey
  refine List.map_congr_left fun x hx=>?_
  obtain⟨a,b⟩:=dimsL_lt key.length set h1 h2 h4 x hx
  unfold pick
  rw[plc_idx key.length x h4 a b]
 rw[e1]
 have hf:set≤(2:Int) ^ key.length - 1:=h2
 have m1:set / 1 % 2=1 ↔ set % 2=1:=by rw[Int.ediv_one]
 unfold dimsL
 rcases (by omega:key.length=0∨key.length=1∨key.length=2∨key.length=3∨key.length=4) with h | h | h | h | h
 ·rw[h] at hf ⊢
  simp at hf
  have:set=0:=by omega
  subst this
  rfl
 ·rw[h] at hf ⊢
  simp at hf
  have a2:¬ set / 2 % 2=1:=by omega
  have a3:¬ set / 4 % 2=1:=by omega
  have a4:¬ set / 8 % 2=1:=by omega
  simp only[pk,Int.pow_zero,Int.ediv_one,if_neg a2,if_neg a3,if_neg a4,List.append_nil]
  split <;> simp
 ·rw[h] at hf ⊢
  simp at hf
  have a3:¬ set / 4 % 2=1:=by omega
  have a4:¬ set / 8 % 2=1:=by omega
  simp only[pk,Int.pow_zero,Int.ediv_one,if_neg a3,if_neg a4,List.append_nil,show (2:Int) ^ 1=2 from rfl]
  split <;> split <;> simp
 ·rw[h] at hf ⊢
  simp at hf
  have a4:¬ set / 8 % 2=1:=by omega
  simp only[pk,Int.pow_zero,Int.ediv_one,if_neg a4,List.append_nil,show (2:Int) ^ 1=2 from rfl,show (2:Int) ^ 2=4 from rfl]
  split <;> split <;> split <;> simp
 ·rw[h]
  simp only[pk,Int.pow_zero,Int.ediv_one,show (2:Int) ^ 1=2 from rfl,show (2:Int) ^ 2=4 from rfl,show (2:Int) ^ 3=8 from rfl]
  split <;> split <;> split <;> split <;> simp
theorem Own.grownI {T:TypeId} {B b n:Nat} {W W':World} {us ys:List Value} {u:Value} (h:Own T W b us) (ho:W.ownsRow B 3 1 u n ys) (hT:T ≠ 3) (hg:W.grownBy W' u.ownBlock):Own T W' b us:=by
 refine (hg.block b h.lt fun e=>?_).trans h
 rcases ho.2 with ⟨rfl,_⟩ | ⟨g,cap,cur,rfl,_,hh,_⟩
 ·cases e
 ·simp only[Value.ownBlock,Option.some.injEq] at e
  subst e
  rw[show W.heap[b]? = _ from h] at hh
  injection hh with hh
  injection hh with _ hh _
  exact hT hh
theorem OI.grownI {B:Nat} {W W':World} {v u:Value} {xs:List Int} (h:OI B W v xs) (ha:Ap v u) (hg:W.grownBy W' u.ownBlock):OI B W' v xs :=
 ⟨own_stay h.1 fun k hk=>hg.block k (h.1.lt k hk).2 fun e=>ha k hk e.symm,h.2⟩
theorem OI.box {T:TypeId} {B b i:Nat} {W:World} {us:List Value} {v z:Value} {xs:List Int} (h:OI B W v xs) (hb:Own T W b us) (hT:T ≠ 3):OI B (W.setCell ⟨b,i,none⟩ z) v xs :=
 h.other z fun e=>by
  rcases h.1.2 with ⟨rfl,_⟩ | ⟨g,cap,cur,rfl,_,hh,_⟩
  ·cases e
  ·simp only[Value.ownBlock,Option.some.injEq] at e
   subst e
   rw[show W.heap[g]? = _ from hb] at hh
   injection hh with hh
   injection hh with _ hh _
   exact hT hh
theorem lit_app {B:Nat} {W:World} {v:Value} {xs:List Int} (hv:RI W v xs) (hl:xs.length≤1000000) (hB:B≤W.heap.size) :
  ∃ A c W',(Builtin.append_ #[22,22] 22 #[.slice (some ⟨W.heap.size,0,none⟩) 0 0,v]).run Tryz.prog (W.alloc (.cells #[] 3))=.ok (.slice A xs.length c) W'∧OI B W' (.slice A xs.length c) xs∧Below W.heap.size W W'∧(∀ b,(Value.slice A xs.length c).ownBlock=some b→W.heap.size≤b):=by
 have hlit:(W.alloc (.cells #[] 3)).ownsRow W.heap.size 3 1 (.slice (some ⟨W.heap.size,0,none⟩) 0 0) 0 []:=World.ownsRow_made W #[] 0 (Nat.le_refl _) (by simp[maxLen]) (by simp)
 have hb:Below W.heap.size W (W.alloc (.cells #[] 3)):=(Below.refl _ _).alloc (Nat.le_refl _) _
 obtain⟨A,c,W',h1,h2,h3⟩:=app_lit hlit (hv.keep (Keeps.of_below hb)) hl (by simp)
 exact⟨A,c,W',h1,h2.mono hB,hb.grown h3 hb.size fun k e=>by injection e with e;omega,fun b e=>(h2.1.lt b e).1⟩
structure OfS (w W:World) (rk rm k s n m:Value):Prop where
 row:Own 50 W w.heap.size [rk,rm]
 res:Own 46 W (w.heap.size+1) [.slice none 0 0,.int .i64 0,.slice none 0 0,.slice none 0 0,.slice none 0 0]
 own:Own 46 W (w.heap.size+1+1) [k,.int .i64 1,s,n,m]
 bel:Below w.heap.size w W
theorem OfS.grown {w W W':World} {rk rm k s n m u:Value} {B n':Nat} {ys:List Value} (h:OfS w W rk rm k s n m) (ho:W.ownsRow B 3 1 u n' ys) (hB:w.heap.size≤B) (hg:W.grownBy W' u.ownBlock):OfS w W' rk rm k s n m :=
 ⟨h.row.grownI ho (by decide) hg,h.res.grownI ho (by decide) hg,h.own.grownI ho (by decide) hg,h.bel.grown hg h.bel.size fun k e=>Nat.le_trans hB (ho.lt k e).1⟩
theorem OfS.alloc {w W:World} {rk rm k s n m:Value} (h:OfS w W rk rm k s n m) (o:Obj):OfS w (W.alloc o) rk rm k s n m:=⟨h.row.alloc o,h.res.alloc o,h.own.alloc o,h.bel.alloc h.bel.size o⟩
theorem OfS.below {w W W':World} {rk rm k s n m:Value} (h:OfS w W rk rm k s n m) (hb:Below W.heap.size W W'):OfS w W' rk rm k s n m:=⟨h.row.below hb h.row.lt,h.res.below hb h.res.lt,h.own.below hb h.own.lt,h.bel.trans (hb.mono h.bel.size)⟩
theorem OfS.set {w W:World} {rk rm k s n m:Value} (h:OfS w W rk rm k s n m) (j:Nat) (u:Value):Own 50 (W.setCell ⟨w.heap.size+1+1,j,none⟩ u) w.heap.size [rk,rm] ∧
  Own 46 (W.setCell ⟨w.heap.size+1+1,j,none⟩ u) (w.heap.size+1) [.slice none 0 0,.int .i64 0,.slice none 0 0,.slice none 0 0,.slice none 0 0]∧Own 46 (W.setCell ⟨w.heap.size+1+1,j,none⟩ u) (w.heap.size+1+1) ([k,.int .i64 1,s,n,m].set j u)∧Below w.heap.size w (W.setCell ⟨w.heap.size+1+1,j,none⟩ u) :=
 ⟨h.row.only (only_setCell _ _ _ _) (by omega),h.res.only (only_setCell _ _ _ _) (by omega),h.own.set_ j u,h.bel.setCell (by show w.heap.size≤w.heap.size+1+1;omega) _⟩
theorem ofs_step {w W:World} {rk k s n m:Value} {Pm:Option Addr} {lm cm:Nat} {ms:List Int} (g:Nat) (h:OfS w W rk (.slice Pm lm cm) k s n m) (hv:RI w (.slice Pm lm cm) ms) (hl:ms.length≤1000000) (hm:lm=ms.length) (hg:g=W.heap.size) :
  ∃ A c X,(Builtin.append_ #[22,22] 22 #[.slice (some ⟨g,0,none⟩) 0 0,.slice Pm lm cm]).run Tryz.prog (W.alloc (.cells #[] 3))=.ok (.slice A lm c) X∧OI w.heap.size X (.slice A lm c) ms∧Below W.heap.size W X∧OfS w X rk (.slice Pm lm cm) k s n m:=by
 obtain⟨A,c,X,h1,h2,h3,-⟩:=lit_app (B:=w.heap.size) (hv.keep (Keeps.of_below h.bel)) hl h.bel.size
 subst hm hg
 exact⟨A,c,X,h1,h2,h3,h.below h3⟩
set_option maxRecDepth 100000 in
set_option maxHeartbeats 4000000 in
theorem rOf_any (kv mv:Value) (key ms:List Int) (set:Int) (w:World) (hk:RI w kv key) (hm:RI w mv ms) (h1:key.length≤4) (h2:ms.length≤1000000) (s1:0≤set) (s2:set≤15) :
  Calls Tryz.prog 24 #[.agg #[kv,mv],.int .i64 set] w fun e w'=>∃ k' s' n' m',e=.returned (.agg #[k',.int .i64 1,s',n',m'])∧CO w.heap.size w' k' s' n' m' ⟨pk key set key.length,1,ms,ms,ms⟩∧Below w.heap.size w w':=by
 obtain⟨Pk,ck,rfl,hkn,hk2⟩:=hk
 obtain⟨Pm,cm,rfl,hmn,hm2⟩:=hm
 obtain⟨d,hd⟩:∃ d,d=key.length:=⟨_,rfl⟩
 obtain⟨lm,hlm⟩:∃ q,q=ms.length:=⟨_,rfl⟩
 rw[← hd] at hkn hk2 h1 ⊢
 rw[← hlm] at hmn hm2 h2 ⊢
 have RM:Hid (RI w (.slice Pm lm cm) ms):=Lib.hid ⟨Pm,cm,by rw[hlm],by rw[← hlm];exact hmn,by rw[← hlm];exact hm2⟩
 have HK:=Lib.hid hkn
 have HLM:=Lib.hid hlm
 have HD:=Lib.hid hd
 have HKL:=Lib.hid (show ∀ i x,key[i]? = some x→inK .i64 x from fun i x h=>hkn.2.1 x (List.mem_of_getElem? h))
 have e2:=(show Own 50 (w.alloc (.cells #[.slice Pk d ck,.slice Pm lm cm] 50)) w.heap.size [.slice Pk d ck,.slice Pm lm cm] from heap_alloc_new w _)
 clear hkn hmn hk2 hm2 hd hlm
 go_enter Tryz.func24,Tryz.ntmps24
 go_wp2_with fail
 have h0:OfS w (((w.alloc (.cells #[.slice Pk d ck,.slice Pm lm cm] 50)).alloc (.cells #[.slice none 0 0,.int .i64 0,.slice none 0 0,.slice none 0 0,.slice none 0 0] 46)).alloc (.cells #[.slice none 0 0,.int .i64 1,.slice none 0 0,.slice none 0 0,.slice none 0 0] 46)) (.slice Pk d ck) (.slice Pm lm cm) (.slice none 0 0) (.slice none 0 0) (.slice none 0 0) (.slice none 0 0):=by
  have e3:=heap_alloc_new (w.alloc (.cells #[.slice Pk d ck,.slice Pm lm cm] 50)) (.cells #[.slice none 0 0,.int .i64 0,.slice none 0 0,.slice none 0 0,.slice none 0 0] 46)
  have e4:=heap_alloc_new ((w.alloc (.cells #[.slice Pk d ck,.slice Pm lm cm] 50)).alloc (.cells #[.slice none 0 0,.int .i64 0,.slice none 0 0,.slice none 0 0,.slice none 0 0] 46)) (.cells #[.slice none 0 0,.int .i64 1,.slice none 0 0,.slice none 0 0,.slice none 0 0] 46)
  simp only[World.size_alloc] at e3 e4
  exact⟨(e2.alloc _).alloc _,(show Own _ _ _ _ from e3).alloc _,e4,(((Below.refl _ w).alloc (Nat.le_refl _) _).alloc (by simp) _).alloc (by simp;omega) _⟩
 clear e2
 generalize ((w.alloc (.cells #[.slice Pk d ck,.slice Pm lm cm] 50)).alloc (.cells #[.slice none 0 0,.int .i64 0,.slice none 0 0,.slice none 0 0,.slice none 0 0] 46)).alloc (.cells #[.slice none 0 0,.int .i64 1,.slice none 0 0,.slice none 0 0,.slice none 0 0] 46)=W0 at h0 ⊢
 go_loopw [6] (fun v wr=>∃ (i:Nat) (k:Value),v=.int .i64 i∧i≤d∧OfS w wr (.slice Pk d ck) (.slice Pm lm cm) k (.slice none 0 0) (.slice none 0 0) (.slice none 0 0)∧OI w.heap.size wr k (pk key set i)) (fun v _=>d - (intOf v).toNat)
 case atStart=>exact⟨0,_,rfl,Nat.zero_le _,h0,OI.nil _ _⟩
 case round =>
  clear h0
  obtain⟨i,k,rfl,hi,hS,hO⟩:=hrel
  rename World=>wr
  have hws:w.heap.size+1+1<wr.heap.size:=hS.own.lt
  have c0:=hS.row.cell (i:=0) rfl
  have c1:=hS.row.cell (i:=1) rfl
  by_cases hlt:i<d
  ·have hlz:decide ((i:Int)<(d:Int))=true:=decide_eq_true (by omega)
   have hpl:=pk_len key set i
   obtain⟨y,hy⟩:∃ y,key[i]? = some y:=⟨_,List.getElem?_eq_getElem (by rw[← HD.out];exact hlt)⟩
   have hyk:=HKL.out i y hy
   obtain⟨q1,q2⟩:=shr_in set i s1 s2 (by omega)
   have hb0:bits .and .i64 (set / 2 ^ i) 1=set / 2 ^ i % 2:=bit_one _ q1 q2
   by_cases hbit:set / 2 ^ i % 2=1
   ·have d1:(bits .and .i64 (set / 2 ^ i) 1 == 1)=true:=by rw[hb0,hbit];rfl
    obtain⟨ad,y',rfl,hy',-,hyc⟩:=(HK.out.keep (Keeps.of_below hS.bel)).at_ hlt
    have hyy:y'=y:=by rw[hy] at hy';injection hy' with h;exact h.symm
    subst hyy
    obtain⟨A,c,X,hrun,hoi,hgr⟩:=app_one y' (show OI w.heap.size wr.drew k (pk key set i) from hO) hyk (by omega) (show w.heap.size≤wr.drew.heap.size from hS.bel.size)
    have hal:(wr.drew.alloc (.cells #[.int .i64 y'] 3)).ownsRow w.heap.size 3 1 k (pk key set i).length (ints (pk key set i)):=(show wr.drew.ownsRow w.heap.size 3 1 k (pk key set i).length (ints (pk key set i)) from hO.1).alloc _
    have hS1:=((show OfS w wr.drew _ _ _ _ _ _ from ⟨hS.row,hS.res,hS.own,below_drewN hS.bel 1⟩).alloc (.cells #[.int .i64 y'] 3)).grown hal (Nat.le_refl _) hgr
    obtain⟨lk,hlk⟩:∃ q,q=(pk key set i).length+1:=⟨_,rfl⟩
    rw[← hlk] at hrun hoi
    have hE:OfS w (X.setCell ⟨w.heap.size+1+1,0,none⟩ (.slice A lk c)) (.slice (some ad) d ck) (.slice Pm lm cm) (.slice A lk c) (.slice none 0 0) (.slice none 0 0) (.slice none 0 0)∧OI w.heap.size (X.setCell ⟨w.heap.size+1+1,0,none⟩ (.slice A lk c)) (.slice A lk c) (pk key set (i+1)):=by
     obtain⟨g1,g2,g3,g4⟩:=hS1.set 0 (.slice A lk c)
     refine⟨⟨g1,g2,g3,g4⟩,?_⟩
     rw[pk,if_pos hbit,hy]
     exact hoi.box hS1.own (by decide)
    have x0:=hS1.own.cell (i:=0) rfl
    have xf:=hS1.own.frozen 0
    have k0:=hS.own.cell (i:=0) rfl
    have HE:=Lib.hid hE
    have Hrun:=Lib.hid hrun
    have i0:(0:Int)≤(i:Int):=by omega
    have i1:(i:Int)<(d:Int):=by omega
    clear hE hrun hoi hgr hal hS1 hS hO hb0 hbit hy hy' hyk hlk
    go_wp2_with fail
    go_region_law (first | (refine step_append_eq (by rfl) (.tmp 22) (.tmp 28) 22 (by rfl) k (.slice (some ⟨wr.heap.size,0,none⟩) 1 1) (.slice A lk c) X (by rfl) (by rfl) Hrun.out ?_) | fail)
    all_goals
     go_wp2
     exact⟨⟨i+1,_,by go_num,by omega,HE.out⟩,by simp[intOf];omega⟩
   ·have d1:(bits .and .i64 (set / 2 ^ i) 1 == 1)=false:=by rw[hb0];simpa using hbit
    have hpk:pk key set (i+1)=pk key set i:=by rw[pk,if_neg hbit]
    have HP:=Lib.hid hpk
    have HS:=Lib.hid hS
    have HO:=Lib.hid hO
    clear hb0 hbit hS hO hpk hy hyk
    go_wp2
    go_roundw
    case rel=>exact⟨i+1,k,by go_num,by omega,HS.out,by rw[HP.out];exact HO.out⟩
    case measure=>simp[intOf];omega
  ·obtain rfl:i=d:=by omega
   have hlz:decide ((i:Int)<(i:Int))=false:=by simp
   obtain⟨Qk,dk,fk,-⟩:=hO.form
   generalize (pk key set i).length=lk at fk
   subst fk
   obtain⟨A2,c2,X2,hr2,o2,b2,s2'⟩:=ofs_step wr.heap.size hS RM.out (by rw[← HLM.out];exact h2) HLM.out rfl
   obtain⟨y21,y22,y23,y24⟩:=s2'.set 2 (.slice A2 lm c2)
   have S3:OfS w (X2.setCell ⟨w.heap.size+1+1,2,none⟩ (.slice A2 lm c2)) (.slice Pk i ck) (.slice Pm lm cm) (.slice Qk lk dk) (.slice A2 lm c2) (.slice none 0 0) (.slice none 0 0):=⟨y21,y22,y23,y24⟩
   have k3:=(hO.below b2).box (i:=2) (z:=.slice A2 lm c2) s2'.own (by decide)
   have o23:=o2.box (i:=2) (z:=.slice A2 lm c2) s2'.own (by decide)
   obtain⟨A3,c3,X3,hr3,o3,b3,s3'⟩:=ofs_step X2.heap.size S3 RM.out (by rw[← HLM.out];exact h2) HLM.out (by simp[World.setCell])
   obtain⟨y31,y32,y33,y34⟩:=s3'.set 3 (.slice A3 lm c3)
   have S4:OfS w (X3.setCell ⟨w.heap.size+1+1,3,none⟩ (.slice A3 lm c3)) (.slice Pk i ck) (.slice Pm lm cm) (.slice Qk lk dk) (.slice A2 lm c2) (.slice A3 lm c3) (.slice none 0 0):=⟨y31,y32,y33,y34⟩
   have k4:=(k3.below b3).box (i:=3) (z:=.slice A3 lm c3) s3'.own (by decide)
   have o24:=(o23.below b3).box (i:=3) (z:=.slice A3 lm c3) s3'.own (by decide)
   have o34:=o3.box (i:=3) (z:=.slice A3 lm c3) s3'.own (by decide)
   obtain⟨A4,c4,X4,hr4,o4,b4,s4'⟩:=ofs_step X3.heap.size S4 RM.out (by rw[← HLM.out];exact h2) HLM.out (by simp[World.setCell])
   obtain⟨y41,y42,y43,y44⟩:=s4'.set 4 (.slice A4 lm c4)
   have k5:=(k4.below b4).box (i:=4) (z:=.slice A4 lm c4) s4'.own (by decide)
   have o25:=(o24.below b4).box (i:=4) (z:=.slice A4 lm c4) s4'.own (by decide)
   have o35:=(o34.below b4).box (i:=4) (z:=.slice A4 lm c4) s4'.own (by decide)
   have o45:=o4.box (i:=4) (z:=.slice A4 lm c4) s4'.own (by decide)
   have HF:=Lib.hid (And.intro (And.intro k5 (And.intro o25 (And.intro o35 o45))) (And.intro y42 y44))
   have H2:=Lib.hid hr2
   have H3:=Lib.hid hr3
   have H4:=Lib.hid hr4
   have r2:=s2'.row.cell (i:=1) rfl
   have r3:=s3'.row.cell (i:=1) rfl
   have R0:=s4'.res.cell (i:=0) rfl
   have R1:=s4'.res.cell (i:=1) rfl
   have R2:=s4'.res.cell (i:=2) rfl
   have R3:=s4'.res.cell (i:=3) rfl
   have R4:=s4'.res.cell (i:=4) rfl
   have Rf:=s4'.res.frozen
   have Q0:=y43.cell (i:=0) rfl
   have Q1:=y43.cell (i:=1) rfl
   have Q2:=y43.cell (i:=2) rfl
   have Q3:=y43.cell (i:=3) rfl
   have Q4:=y43.cell (i:=4) rfl
   have p2:=s2'.own.cell (i:=2) rfl
   have f2:=s2'.own.frozen 2
   have p3:=s3'.own.cell (i:=3) rfl
   have f3:=s3'.own.frozen 3
   have p4:=s4'.own.cell (i:=4) rfl
   have f4:=s4'.own.frozen 4
   have z0:w.heap.size<wr.heap.size:=by omega
   have z1:w.heap.size<X2.heap.size:=s2'.row.lt
   have z2:w.heap.size<X3.heap.size:=s3'.row.lt
   clear hr2 hr3 hr4 k5 o25 o35 o45 y41 y42 y43 y44 y31 y32 y33 y34 y21 y22 y23 y24 S3 S4 k3 k4 o23 o24 o34 o2 o3 o4 b2 b3 b4 s2' s3' s4' hS hO
   go_wp2_with (first | (at_builtin;have _t:=H2;refine wpList_append_eq rfl (.tmp 31) (.tmp 33) 22 rfl _ _ _ _ rfl rfl H2.out ?_;clear _t H2) | (at_builtin;have _t:=H3;refine wpList_append_eq rfl (.tmp 36) (.tmp 38) 22 rfl _ _ _ _ rfl rfl H3.out ?_;clear _t H3) | (at_builtin;have _t:=H4;refine wpList_append_eq rfl (.tmp 41) (.tmp 43) 22 rfl _ _ _ _ rfl rfl H4.out ?_;clear _t H4))
   obtain⟨⟨k5,o25,o35,o45⟩,y42,y44⟩:=HF.out
   obtain⟨Y,hY⟩:∃ Y,Y=X4.setCell ⟨w.heap.size+1+1,4,none⟩ (.slice A4 lm c4):=⟨_,rfl⟩
   rw[← hY] at k5 o25 o35 o45 y42 y44
   obtain⟨Wf,hWf⟩:∃ Wf,Wf=put5 Y (w.heap.size+1) (.slice Qk lk dk) (.int .i64 1) (.slice A2 lm c2) (.slice A3 lm c3) (.slice A4 lm c4):=⟨_,rfl⟩
   have of:=hWf ▸ put5_own (v0:=.slice Qk lk dk) (v1:=.int .i64 1) (v2:=.slice A2 lm c2) (v3:=.slice A3 lm c3) (v4:=.slice A4 lm c4) y42
   have onl:Only (w.heap.size+1) Y Wf:=hWf ▸ put5_only
   have fin:CO w.heap.size Wf (.slice Qk lk dk) (.slice A2 lm c2) (.slice A3 lm c3) (.slice A4 lm c4) ⟨pk key set i,1,ms,ms,ms⟩ :=
    ⟨k5.only onl y42 (by decide),o25.only onl y42 (by decide),o35.only onl y42 (by decide),o45.only onl y42 (by decide)⟩
   have hbf:Below w.heap.size w Wf:=y44.trans (onl.below (by omega) y44.size)
   unfold put5 at hWf
   rw[hY] at hWf
   rw[← hWf]
   have r0:=of.cell (i:=0) rfl
   have r1:=of.cell (i:=1) rfl
   have r2:=of.cell (i:=2) rfl
   have r3:=of.cell (i:=3) rfl
   have r4:=of.cell (i:=4) rfl
   exact bodyPost_ret (v:=.agg #[.slice Qk lk dk,.int .i64 1,.slice A2 lm c2,.slice A3 lm c3,.slice A4 lm c4]) (by simp[results,Tryz.results24,go_sem,r0,r1,r2,r3,r4]) rfl ⟨_,_,_,_,rfl,fin,hbf⟩
end Go.Proofs.YtnjlkhhcfiedbaaGreatDoor
namespace Go.Proofs.YtnjlkhhcfiedbaaGreatDoor
open Go.RowKit Go.Shelf
attribute [local go_sem] Oper.semAt_some
end Go.Proofs.YtnjlkhhcfiedbaaGreatDoor
namespace Go.Proofs.YtnjlkhhcfiedbaaGreatDoor
open Go.RowKit Go.Shelf
def RowC (w:World) (P:Option Addr) (N:Nat) (L:List Cel):Prop:=0<N→∃ ad,P=some ad∧CellsR w ad L
theorem RowC.keep {w w':World} {P:Option Addr} {N:Nat} {L:List Cel} (h:RowC w P N L) (hk:Keeps w w'):RowC w' P N L:=fun hn=>by
 obtain⟨ad,e,hc⟩:=h hn
 exact⟨ad,e,hc.keep hk⟩
theorem GRs.rowC {B:Nat} {X:World} {P:Option Addr} {N c:Nat} {us:List V5} {J:List Cel} (h:GRs B X (.slice P N c) us J):RowC X P N J∧N=J.length:=by
 obtain⟨P',c',e,-,-,h2,-⟩:=h.form
 injection e with e1 e2 _
 subst e1
 refine⟨fun hn=>?_,by rw[e2];exact h.len⟩
 obtain⟨g,rfl,-,-,hc,-⟩:=h2 (by omega)
 exact⟨_,rfl,hc⟩
def FewC (L:List Cel):Prop:=∀ x ∈ L,x.key.length≤1000000∧x.sum.length≤1000000∧x.mn.length≤1000000∧x.mx.length≤1000000
set_option maxRecDepth 100000 in
set_option maxHeartbeats 4000000 in
theorem same_yes (P Q:Option Addr) (N c d:Nat) (L:List Cel) (w:World) (h1:RowC w P N L) (h2:RowC w Q N L) (hN:N=L.length) (hf:FewC L) (hn:N≤1000000) :
  Calls Tryz.prog 21 #[.slice P N c,.slice Q N d] w fun e w'=>e=.returned (.bool true)∧Below w.heap.size w w':=by
 have H1:=Lib.hid h1
 have H2:=Lib.hid h2
 have HN:=Lib.hid hN
 have HF:=Lib.hid hf
 clear h1 h2 hN hf
 have d0:((N:Int) != (N:Int))=false:=by simp
 go_enter Tryz.func21,Tryz.ntmps21
 go_wp2_with fail
 go_loopw [5] (fun v wr=>∃ k:Nat,v=.int .i64 k∧k≤N∧Below w.heap.size w wr) (fun v _=>N - (intOf v).toNat)
 case atStart=>exact⟨0,rfl,Nat.zero_le _,Below.refl _ _⟩
 case round =>
  obtain⟨k,rfl,hk,hb⟩:=hrel
  rename World=>wr
  have Hb:=Lib.hid hb
  clear hb
  by_cases hlt:k<N
  ·have d1:decide ((k:Int)<(N:Int))=true:=decide_eq_true (by omega)
   obtain⟨x,hx⟩:∃ x,L[k]? = some x:=⟨_,List.getElem?_eq_getElem (by have:=HN.out;omega)⟩
   obtain⟨ad,rfl,hp⟩:=H1.out.keep (Keeps.of_below Hb.out) (by omega)
   obtain⟨bd,rfl,hq⟩:=H2.out.keep (Keeps.of_below Hb.out) (by omega)
   obtain⟨f1,f2,f3,f4⟩:=HF.out x (List.mem_of_getElem? hx)
   obtain⟨vk,vs,vn,vm,a0,a1,a2,a3,a4,hcx,_⟩:=hp k x hx
   obtain⟨uk,us,un,um,b0,b1,b2,b3,b4,hcy,_⟩:=hq k x hx
   have Hcx:=Lib.hid hcx
   have Hcy:=Lib.hid hcy
   have i0:(0:Int)≤(k:Int):=by omega
   have i1:(k:Int)<(N:Int):=by omega
   have kw:Keeps wr wr.drew:=(Keeps.refl wr).drewN 1
   clear hcx hcy hx hp hq
   go_wp2_with fail
   refine wp_region_held_drew (S:=fun W=>Keeps wr W) (by kernel_rfl) (show Keeps wr wr.drew from kw) (fun hHeld=>?_)
   refine WTH (i:=0) (v:=?va0) ?ya0 hHeld ?ra0
   case ya0=>(intro W hW;go_simp;first | done | with_reducible rfl)
   try simp only[SL,Act.put]
   refine WTH (i:=1) (v:=?va1) ?ya1 hHeld ?ra1
   case ya1=>(intro W hW;go_simp;first | done | with_reducible rfl)
   try simp only[SL,Act.put]
   refine WTH (i:=2) (v:=?va2) ?ya2 hHeld ?ra2
   case ya2=>(intro W hW;go_simp;first | done | with_reducible rfl)
   try simp only[SL,Act.put]
   refine WTH (i:=3) (v:=?va3) ?ya3 hHeld ?ra3
   case ya3=>(intro W hW;have g0:=hW _ _ a0;have g1:=hW _ _ a1;have g2:=hW _ _ a2;have g3:=hW _ _ a3;have g4:=hW _ _ a4;have p0:=hW _ _ b0;have p1:=hW _ _ b1;have p2:=hW _ _ b2;have p3:=hW _ _ b3;have p4:=hW _ _ b4;clear hW;go_simp;first | done | with_reducible rfl)
   try simp only[SL,Act.put]
   refine WTH (i:=4) (v:=?va4) ?ya4 hHeld ?ra4
   case ya4=>(intro W hW;go_simp;first | done | with_reducible rfl)
   try simp only[SL,Act.put]
   refine WTH (i:=5) (v:=?va5) ?ya5 hHeld ?ra5
   case ya5=>(intro W hW;go_simp;first | done | with_reducible rfl)
   try simp only[SL,Act.put]
   refine WTH (i:=6) (v:=?va6) ?ya6 hHeld ?ra6
   case ya6=>(intro W hW;go_simp;first | done | with_reducible rfl)
   try simp only[SL,Act.put]
   refine WTH (i:=7) (v:=?va7) ?ya7 hHeld ?ra7
   case ya7=>(intro W hW;have g0:=hW _ _ a0;have g1:=hW _ _ a1;have g2:=hW _ _ a2;have g3:=hW _ _ a3;have g4:=hW _ _ a4;have p0:=hW _ _ b0;have p1:=hW _ _ b1;have p2:=hW _ _ b2;have p3:=hW _ _ b3;have p4:=hW _ _ b4;clear hW;go_simp;first | done | with_reducible rfl)
   try simp only[SL,Act.put]
   refine wpAnyH_ready (rs:=[8]) (by kernel_rfl) (by simp) ?_
   refine AllReadyH.cons rfl (fun K hK=>?_) (AllReadyH.nil)
   go_simp
   refine (equal_yes _ _ _ _ _ _ _ _ x wr.drew (Hcx.out.keep kw) (Hcy.out.keep kw) f1 f2 f3 f4).mono ?_
   rintro e V ⟨rfl,hbv⟩
   have HV:=Lib.hid ((below_drewN Hb.out 1).trans (hbv.mono (show w.heap.size≤wr.drew.heap.size from Hb.out.size)))
   have HK:=Lib.hid (kw.trans (Keeps.of_below hbv))
   clear hbv
   refine hK.out _ _ (HK.out) (fun hHeld=>?_)
   clear hK K
   try simp only[SL,Act.put]
   refine WTH (i:=9) (v:=?va9) ?ya9 hHeld ?ra9
   case ya9=>(intro W hW;go_simp;first | done | with_reducible rfl)
   try simp only[SL,Act.put]
   refine wpAnyH_done (by kernel_rfl) ?_ _
   go_wp2
   go_roundw
   case rel=>exact⟨k+1,by go_num,by omega,HV.out⟩
   case measure=>simp[intOf];omega
  ·obtain rfl:k=N:=by omega
   have d1:decide ((k:Int)<(k:Int))=false:=by simp
   go_wp2
   go_ret
   exact⟨rfl,Hb.out⟩
def ofC (set:Int) (r:Fact):Cel:=⟨pk r.key set r.key.length,1,r.m,r.m,r.m⟩
theorem RowsX.at_ {w:World} {C:Nat} {D:Option Addr} {m d:Nat} {l:List Fact} (h:RowsX w C (.slice D m d) l) (hs:∀ r ∈ l,(∀ x ∈ r.key,inK .i64 x)∧∀ x ∈ r.m,inK .i64 x) (hm:l.length=m) {i:Nat} {r:Fact} (hr:l[i]? = some r) :
  ∃ ad kv mv,D=some ad∧w.cell? (ad.add (i*2))=some kv∧w.cell? (ad.add (i*2+1))=some mv∧RI w kv r.key∧RI w mv r.m:=by
 obtain⟨vs,h1,h2,h3,-⟩:=h
 have hil:=(List.getElem?_eq_some_iff.1 hr).1
 obtain⟨P,c,hv,-,-,hc⟩:=own_form h2
 obtain⟨g,rfl,-,hg⟩:=hc (by omega)
 injection hv with hv _ _
 obtain⟨p,hp⟩:∃ p,vs[i]? = some p:=⟨_,List.getElem?_eq_getElem (by omega)⟩
 obtain⟨c1,c2⟩:=cellsV_at hp
 obtain⟨k1,k2⟩:=h3 i p r hp hr
 have hm':=hs r (List.mem_of_getElem? hr)
 exact⟨_,p.1,p.2,hv,by rw[add0];exact hg _ _ c1,by rw[add0];exact hg _ _ c2,(show OI C w p.1 r.key from ⟨k1,hm'.1⟩).ri,(show OI C w p.2 r.m from ⟨k2,hm'.2⟩).ri⟩
end Go.Proofs.YtnjlkhhcfiedbaaGreatDoor
namespace Go.Proofs.YtnjlkhhcfiedbaaGreatDoor
open Go.RowKit Go.Shelf
set_option maxRecDepth 100000 in
set_option maxHeartbeats 2000000 in
theorem set_any (A:Option Addr) (q c:Nat) (mm n:Int) (w:World) (h1:1≤q) (h4:q≤4) (hn:inK .i64 n) :
  Calls Tryz.prog 14 #[.agg #[.slice A q c,.int .i64 mm],.int .i64 n] w fun e w'=>e=.returned (.int .i64 (n % 2 ^ q))∧w'=w.alloc (.cells #[.slice A q c,.int .i64 mm] 25):=by
 have HW:=Lib.hid (fun (m:Int) (W:World) (h1:1≤m) (h2:m≤16)=>lwithin2 n m W hn h1 (by omega))
 clear hn
 rcases (by omega:q=1∨q=2∨q=3∨q=4) with rfl | rfl | rfl | rfl
 all_goals
  go_enter Tryz.func14,Tryz.ntmps14
  go_wp2_with fail
  refine (HW.out _ _ (by decide) (by decide)).mono ?_
  rintro e w1 ⟨rfl,rfl⟩
  go_wp2
  go_ret
  exact⟨rfl,rfl⟩
theorem set_bd (n:Int) (q:Nat) (h1:1≤q) (h4:q≤4):0≤n % 2 ^ q∧n % 2 ^ q≤15∧n % 2 ^ q≤fullB q:=by
 unfold fullB
 rcases (by omega:q=1∨q=2∨q=3∨q=4) with rfl | rfl | rfl | rfl <;> simp <;> omega
end Go.Proofs.YtnjlkhhcfiedbaaGreatDoor
namespace Go.Proofs.YtnjlkhhcfiedbaaGreatDoor
open Go.RowKit Go.Shelf
attribute [local go_sem] Oper.semAt_some
def nwE (sa sb:Int) (x:Cel):Cel:=⟨(dimsL sb).map (pick x.key sa),x.cnt,x.sum,x.mn,x.mx⟩
set_option maxRecDepth 100000 in
set_option maxHeartbeats 4000000 in
theorem xnarrowed_any (P:Option Addr) (c N:Nat) (sa sb:Int) (d mm:Nat) (L:List Cel) (w:World) (hr:RowC w P N L) (hN:N=L.length) (hn:N≤1000) (hd:∀ x ∈ L,x.key.length=d∧EvenC mm x) (hmm:mm≤1000000) (hones:ones sa=(d:Int)) (s1:0≤sa) (s2:sa≤15) (b1:0≤sb) (b2:sb≤15) (hsub:bits .andNot .i64 sb sa=0) (hT:Tab w) (hw1:1<w.heap.size) :
  Calls Tryz.prog 27 #[.slice P N c,.int .i64 sa,.int .i64 sb] w fun e w'=>∃ v us,e=.returned v∧GRs w.heap.size w' v us (L.map (nwE sa sb))∧Below w.heap.size w w':=by
 have HN:=Lib.hid hN
 have HR:=Lib.hid hr
 have HD:=Lib.hid hd
 have HT:=Lib.hid hT
 have HON:=Lib.hid hones
 have HSUB:=Lib.hid hsub
 clear hN hr hd hT hones hsub
 go_enter Tryz.func27,Tryz.ntmps27
 go_wp2_with fail
 go_loopw [7,12] (fun s7 s12 wx=>∃ (i:Nat) (ul:List V5),s12=.int .i64 i∧i≤N∧GRs w.heap.size wx s7 ul ((L.take i).map (nwE sa sb))∧Below w.heap.size w wx) (fun _ s12 _=>N - (intOf s12).toNat)
 case atStart=>exact⟨0,[],rfl,Nat.zero_le _,GRs.nil _ _,Below.refl _ _⟩
 case round =>
  rename World=>wr
  obtain⟨i,ul,rfl,hi,hg,hb⟩:=hrel
  have Hg:=Lib.hid hg
  have Hb:=Lib.hid hb
  clear hg hb
  by_cases hlt:i<N
  ·have d1:decide ((i:Int)<(N:Int))=true:=decide_eq_true (by omega)
   obtain⟨x,hx⟩:∃ x,L[i]? = some x:=⟨_,List.getElem?_eq_getElem (by rw[← HN.out];exact hlt)⟩
   obtain⟨ad,rfl,hcl⟩:=HR.out.keep (Keeps.of_below Hb.out) (by omega)
   obtain⟨vk,vs,vn,vm,a0',a1',a2',a3',a4',hcx,hck⟩:=hcl i x hx
   obtain⟨⟨Pk,ck,rfl,-⟩,⟨Ps,cs,rfl,-⟩,⟨Pn,cn,rfl,-⟩,⟨Pm,cm,rfl,-⟩⟩:=id hcx
   obtain⟨hxk,e1,e2,e3⟩:=HD.out x (List.mem_of_getElem? hx)
   obtain⟨xc,hxc⟩:∃ xc,xc=x.cnt:=⟨_,rfl⟩
   rw[← hxc] at a1'
   obtain⟨l1,hl1⟩:∃ z,z=x.key.length:=⟨_,rfl⟩
   obtain⟨l2,hl2⟩:∃ z,z=x.sum.length:=⟨_,rfl⟩
   obtain⟨l3,hl3⟩:∃ z,z=x.mn.length:=⟨_,rfl⟩
   obtain⟨l4,hl4⟩:∃ z,z=x.mx.length:=⟨_,rfl⟩
   rw[← hl1] at a0'
   rw[← hl2] at a2'
   rw[← hl3] at a3'
   rw[← hl4] at a4'
   rw[← hl1,← hl2,← hl3,← hl4] at hcx
   obtain⟨w5,hw5⟩:∃ w5,w5=wr.alloc (.cells #[.slice Pk l1 ck,.int .i64 xc,.slice Ps l2 cs,.slice Pn l3 cn,.slice Pm l4 cm] 46):=⟨_,rfl⟩
   have hb5:Below wr.heap.size wr w5:=by rw[hw5];exact (Below.refl _ _).alloc (Nat.le_refl _) _
   have hbw5:Below w.heap.size w w5:=Hb.out.trans (hb5.mono Hb.out.size)
   have hna:=narrow_any (.slice Pk l1 ck) (.slice Ps l2 cs) (.slice Pn l3 cn) (.slice Pm l4 cm) x sa sb d w5 hxk.symm (hcx.keep (Keeps.of_below hb5)) s1 s2 b1 b2 HSUB.out HON.out (by omega) (by omega) (by omega) (HT.out.keep (Keeps.of_below hbw5)) (Nat.lt_of_lt_of_le hw1 hbw5.size)
   rw[← hxc] at hna
   have HNA:=Lib.hid hna
   have HX:=Lib.hid hx
   have HXC:=Lib.hid hxc
   have HCK:=Lib.hid hck
   have HW5:=Lib.hid hw5
   have HB5:=Lib.hid hbw5
   have Hg5:=Lib.hid (Hg.out.below hb5)
   have i0:(0:Int)≤(i:Int):=by omega
   have i1:(i:Int)<(N:Int):=by omega
   clear hcl hcx hna hx hxc hck hxk e1 e2 e3 hl1 hl2 hl3 hl4 hw5 hb5 hbw5
   go_upto_region 5 with (fail)
   rw[← HW5.out]
   clear a0' a1' a2' a3' a4'
   have o5:Own 46 w5 wr.heap.size [.slice Pk l1 ck,.int .i64 xc,.slice Ps l2 cs,.slice Pn l3 cn,.slice Pm l4 cm]:=by rw[HW5.out];exact heap_alloc_new wr _
   obtain⟨h0,h1,h2,h3,h4⟩:=o5.bx
   clear o5
   go_wp2_with fail
   refine HNA.out.mono ?_
   rintro e X1 ⟨kV,sV,nV,mV,rfl,hco,hbv⟩
   obtain⟨Ak,ak,f1,-⟩:=hco.key.form
   obtain⟨As,sa',f2,-⟩:=hco.sum.form
   obtain⟨An,an,f3,-⟩:=hco.mn.form
   obtain⟨Am,am,f4,-⟩:=hco.mx.form
   dsimp only at f1 f2 f3 f4
   generalize hj1:((dimsL sb).map (pick x.key sa)).length=lj1 at f1
   generalize hj2:x.sum.length=lj2 at f2
   generalize hj3:x.mn.length=lj3 at f3
   generalize hj4:x.mx.length=lj4 at f4
   subst f1 f2 f3 f4
   clear hj1 hj2 hj3 hj4
   have hq:OwnC w.heap.size X1 ⟨.slice Ak lj1 ak,.int .i64 xc,.slice As lj2 sa',.slice An lj3 an,.slice Am lj4 am⟩ (nwE sa sb x):=⟨by rw[HXC.out];rfl,by
    have h:=hco.mono HB5.out.size
    exact⟨h.key,h.sum,h.mn,h.mx⟩,HCK.out⟩
   have hul:=Hg5.out.len
   rw[List.length_map,List.length_take] at hul
   obtain⟨v',X3,hrun,hg3,hgr3,-⟩:=append_one (Hg5.out.below hbv) hq (by omega) (Nat.le_trans HB5.out.size hbv.size)
   have hbX:=(HB5.out.trans (hbv.mono HB5.out.size)).alloc (Nat.le_trans HB5.out.size hbv.size) (.cells #[.slice Ak lj1 ak,.int .i64 xc,.slice As lj2 sa',.slice An lj3 an,.slice Am lj4 am] 46)
   have hbF:=hbX.grown hgr3 hbX.size fun j e=>((Hg5.out.below hbv).1.lt j e).1
   have ht:(L.take (i+1)).map (nwE sa sb)=(L.take i).map (nwE sa sb) ++ [nwE sa sb x]:=by rw[List.take_add_one,HX.out,List.map_append];rfl
   rw[← ht] at hg3
   have HG3:=Lib.hid hg3
   have HBF:=Lib.hid hbF
   have Hrun:=Lib.hid hrun
   clear hq hul hrun hg3 hgr3 hbX hbF ht hco hbv HNA h0 h1 h2 h3 h4
   go_wp2_with (at_builtin;have _t:=Hrun;refine wpList_append_eq rfl (.tmp 16) (.tmp 21) 31 rfl _ _ _ _ rfl rfl Hrun.out ?_;clear _t Hrun)
   go_roundw
   case rel=>exact⟨i+1,_,by go_num,by omega,HG3.out,HBF.out⟩
   case measure=>simp[intOf];omega
  ·obtain rfl:i=N:=by omega
   have d1:decide ((i:Int)<(i:Int))=false:=by simp
   have hfin:=Hg.out
   rw[List.take_of_length_le (by rw[← HN.out];exact Nat.le_refl _)] at hfin
   have HF:=Lib.hid hfin
   have HB:=Lib.hid Hb.out
   clear hfin Hg Hb
   go_wp2
   go_ret
   exact⟨_,_,rfl,HF.out,HB.out⟩
end Go.Proofs.YtnjlkhhcfiedbaaGreatDoor
namespace Go.Proofs.YtnjlkhhcfiedbaaGreatDoor
open Go.RowKit Go.Shelf
set_option maxRecDepth 100000 in
set_option maxHeartbeats 4000000 in
theorem make_any (D:Option Addr) (m d C:Nat) (set:Int) (l:List Fact) (w:World) (hR:RowsX w C (.slice D m d) l) (hm:l.length=m) (hm40:m≤40) (hs:∀ r ∈ l,(∀ x ∈ r.key,inK .i64 x)∧∀ x ∈ r.m,inK .i64 x) (hl:∀ r ∈ l,r.key.length≤4∧r.m.length≤1000000) (s1:0≤set) (s2:set≤15) :
  Calls Tryz.prog 16 #[.slice D m d,.int .i64 set] w fun e w'=>∃ v us,e=.returned v∧GRs w.heap.size w' v us (l.map (ofC set))∧Below w.heap.size w w':=by
 have HR:=Lib.hid hR
 have HM:=Lib.hid hm
 have HS:=Lib.hid hs
 have HL:=Lib.hid hl
 clear hR hm hs hl
 go_enter Tryz.func16,Tryz.ntmps16
 go_wp2_with fail
 go_loopw [5,6] (fun s5 s6 wr=>∃ (i:Nat) (us:List V5),s6=.int .i64 i∧i≤m∧GRs w.heap.size wr s5 us ((l.take i).map (ofC set))∧Below w.heap.size w wr) (fun _ s6 _=>m - (intOf s6).toNat)
 case atStart=>exact⟨0,[],rfl,Nat.zero_le _,GRs.nil _ _,Below.refl _ _⟩
 case round =>
  obtain⟨i,us,rfl,hi,hg,hb⟩:=hrel
  rename World=>wr
  by_cases hlt:i<m
  ·have d1:decide ((i:Int)<(m:Int))=true:=decide_eq_true (by omega)
   obtain⟨r,hr⟩:∃ r,l[i]? = some r:=⟨_,List.getElem?_eq_getElem (by rw[HM.out];exact hlt)⟩
   have hrm:=List.mem_of_getElem? hr
   obtain⟨l1,l2⟩:=HL.out r hrm
   obtain⟨ad,kv,mv,rfl,c0,c1,r1,r2⟩:=(HR.out.below hb (Nat.le_refl _)).at_ HS.out HM.out hr
   have hof:=rOf_any kv mv r.key r.m set wr r1 r2 l1 l2 s1 s2
   have hstep:∀ X1 k s n mm,CO wr.heap.size X1 k s n mm ⟨pk r.key set r.key.length,1,r.m,r.m,r.m⟩→Below wr.heap.size wr X1→∃ v' X3,(Builtin.append_ #[31,31] 31 #[u5,.slice (some ⟨X1.heap.size,0,none⟩) 1 1]).run Tryz.prog (X1.alloc (.cells #[k,.int .i64 1,s,n,mm] 46))=.ok v' X3 ∧
     (∃ us',GRs w.heap.size X3 v' us' ((l.take (i+1)).map (ofC set)))∧Below w.heap.size w X3:=fun X1 k s n mm hc hbx=>by
    have hg1:=hg.below hbx
    have hu:OwnC w.heap.size X1 ⟨k,.int .i64 1,s,n,mm⟩ (ofC set r):=⟨rfl,hc.mono hb.size,⟨by show (-9223372036854775808:Int)≤1;omega,by show (1:Int)≤9223372036854775807;omega⟩⟩
    have hul:=hg.len
    rw[List.length_map,List.length_take] at hul
    obtain⟨v',X3,hrun,hgr,hgb,-⟩:=append_one hg1 hu (by omega) (Nat.le_trans hb.size hbx.size)
    have hlt2:(l.take (i+1)).map (ofC set)=(l.take i).map (ofC set) ++ [ofC set r]:=by rw[List.take_add_one,hr,List.map_append];rfl
    refine⟨v',X3,hrun,⟨_,by rw[hlt2];exact hgr⟩,?_⟩
    have h1:Below w.heap.size w (X1.alloc (.cells #[k,.int .i64 1,s,n,mm] 46)):=(hb.trans (hbx.mono hb.size)).alloc (Nat.le_trans hb.size hbx.size) _
    exact h1.grown hgb h1.size fun j e=>(hg1.1.lt j e).1
   have Hof:=Lib.hid hof
   have Hst:=Lib.hid hstep
   have i0:(0:Int)≤(i:Int):=by omega
   have i1:(i:Int)<(m:Int):=by omega
   have c1':wr.cell? ⟨(ad.add (i*2)).block,(ad.add (i*2)).off+1,none⟩=some mv:=by
    have e:ad.add (i*2+1)=⟨(ad.add (i*2)).block,(ad.add (i*2)).off+1,none⟩:=by rw[← add_of_add,Addr.add,if_neg (by omega)]
    rw[← e];exact c1
   clear hof hstep hg hb hr hrm r1 r2 c1
   go_wp2_with fail
   refine Hof.out.mono ?_
   rintro e X1 ⟨k,s,n,mm,rfl,hc,hbx⟩
   obtain⟨v',X3,hrun,hfin,hb3⟩:=Hst.out X1 k s n mm hc hbx
   obtain⟨Pk,ck,f1,-⟩:=hc.key.form
   obtain⟨Ps,cs,f2,-⟩:=hc.sum.form
   obtain⟨Pn,cn,f3,-⟩:=hc.mn.form
   obtain⟨Pm,cm,f4,-⟩:=hc.mx.form
   subst f1 f2 f3 f4
   have Hrun:=Lib.hid hrun
   have Hfin:=Lib.hid hfin
   have Hb3:=Lib.hid hb3
   clear hrun hfin hb3 hc hbx Hst Hof
   go_wp2_with (at_builtin;have _t:=Hrun;refine wpList_append_eq rfl (.tmp 13) (.tmp 20) 31 rfl _ _ _ _ rfl rfl Hrun.out ?_;clear _t Hrun)
   go_roundw
   case rel =>
    obtain⟨us',hg'⟩:=Hfin.out
    exact⟨i+1,us',by go_num,by omega,hg',Hb3.out⟩
   case measure=>simp[intOf];omega
  ·obtain rfl:i=m:=by omega
   have d1:decide ((i:Int)<(i:Int))=false:=by simp
   rw[List.take_of_length_le (by rw[HM.out];exact Nat.le_refl _)] at hg
   have Hg:=Lib.hid hg
   have Hb:=Lib.hid hb
   clear hg hb
   go_wp2
   go_ret
   exact⟨_,_,rfl,Hg.out,Hb.out⟩
end Go.Proofs.YtnjlkhhcfiedbaaGreatDoor

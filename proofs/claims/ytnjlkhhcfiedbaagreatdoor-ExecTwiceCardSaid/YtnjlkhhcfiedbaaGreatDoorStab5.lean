import Derived.Sort.LotA
import Derived.Shelf.SlSortCmp.KitK
import Derived.Sort.WalkB2
import Derived.Sort.WalkB12
import Derived.Deep.LoopGhost
import Derived.Lib.Hide
import Derived.Deep.CutBlock
import Derived.Deep.CutRange
import Derived.Deep.DeepCutAuto
import Derived.Test.YtnjlkhhcfiedbaaGreatDoorChecked
namespace Go.Proofs.YtnjlkhhcfiedbaaGreatDoor.Stab
open Go.Sort
variable {α:Type} [Inhabited α]
def Exch (a b i:Nat) (d dk:Array α):Prop:=dk.size=d.size∧∀ x,dk[x]! = if a≤x∧x<a+i then d[x - a+b]! else if b≤x∧x<b+i then d[x - b+a]! else d[x]!
theorem Exch.zero (a b:Nat) (d:Array α):Exch a b 0 d d:=⟨rfl,fun x=>by rw[if_neg (by omega),if_neg (by omega)]⟩
theorem Exch.step {a b i:Nat} {d dk:Array α} (h:Exch a b i d dk) (h1:a+i<b) (h2:b+i<d.size):Exch a b (i+1) d (swp dk (a+i) (b+i)):=by
 obtain⟨hs,he⟩:=h
 refine⟨by rw[size_swp];exact hs,fun x=>?_⟩
 rw[swp_get _ (by omega) (by omega)]
 by_cases c1:x=b+i
 ·subst c1
  rw[if_pos rfl,he,if_neg (by omega),if_neg (by omega),if_neg (by omega),if_pos (by omega)]
  congr 1
  omega
 ·rw[if_neg c1]
  by_cases c2:x=a+i
  ·subst c2
   rw[if_pos rfl,he,if_neg (by omega),if_neg (by omega),if_pos (by omega)]
   congr 1
   omega
  ·rw[if_neg c2,he]
   by_cases c3:a≤x∧x<a+i
   ·rw[if_pos c3,if_pos (by omega)]
   ·rw[if_neg c3,if_neg (show ¬ (a≤x∧x<a+(i+1)) by omega)]
    by_cases c4:b≤x∧x<b+i
    ·rw[if_pos c4,if_pos (by omega)]
    ·rw[if_neg c4,if_neg (by omega)]
theorem PermIn.swp {lo hi i j:Nat} {d dk:Array α} (h:PermIn lo hi d dk) (h1:lo≤i) (h2:i<hi) (h3:lo≤j) (h4:j<hi) (h5:hi≤d.size):PermIn lo hi d (swp dk i j) :=
 permIn_trans _ _ _ _ _ h (swp_permIn _ _ _ _ _ h1 h2 h3 h4 (by rw[h.1];exact h5))
def rotV (m i j:Nat) (dk:Array α) (x:Nat):α:=if m - i≤x∧x<m - i+j then dk[x+i]! else if m - i+j≤x∧x<m+j then dk[x - j]! else dk[x]!
theorem rot_left {m i j:Nat} {dk d2:Array α} (hi:i≤m) (h:j<i) (h2:Exch (m - i) m j dk d2) (x:Nat):rotV m (i - j) j d2 x=rotV m i j dk x:=by
 obtain⟨_,he⟩:=h2
 unfold rotV
 rw[he,he,he]
 repeat' split
 all_goals first | (exfalso;omega) | (congr 1;omega) | rfl
theorem rot_right {m i j:Nat} {dk d2:Array α} (hi:i≤m) (h:i<j) (h2:Exch (m - i) (m+j - i) i dk d2) (x:Nat):rotV m i (j - i) d2 x=rotV m i j dk x:=by
 obtain⟨_,he⟩:=h2
 unfold rotV
 rw[he,he,he]
 repeat' split
 all_goals first | (exfalso;omega) | (congr 1;omega) | rfl
theorem rot_end {m i:Nat} {dk d2:Array α} (hi:i≤m) (h2:Exch (m - i) m i dk d2) (x:Nat):d2[x]! = rotV m i i dk x:=by
 obtain⟨_,he⟩:=h2
 unfold rotV
 rw[he]
 repeat' split
 all_goals first | (exfalso;omega) | (congr 1;omega) | rfl
section
variable {lt:α→α→Bool}
theorem one_left (hS:SWO lt) {a b i:Nat} {d d':Array α} (hab:a+1≤i) (hib:i≤b) (hs:SortedIn lt (a+1) b d) (h1:∀ x,a+1≤x→x<i→lt d[x]! d[a]! = true) (h2:∀ x,i≤x→x<b→lt d[x]! d[a]! = false)
  (he:∀ x,d'[x]! = if a≤x∧x<i - 1 then d[x+1]! else if x=i - 1 then d[a]! else d[x]!):SortedIn lt a b d':=by
 intro p q hp hpq hq
 rw[he,he]
 by_cases c1:q<i - 1
 ·rw[if_pos (by omega),if_pos (by omega)];exact hs _ _ (by omega) (by omega) (by omega)
 ·rw[if_neg (show ¬ (a≤q∧q<i - 1) by omega)]
  by_cases c2:q=i - 1
  ·rw[if_pos c2,if_pos (by omega)];exact hS.asymmA (h1 _ (by omega) (by omega))
  ·rw[if_neg c2]
   by_cases c3:p<i - 1
   ·rw[if_pos (by omega)];exact hs _ _ (by omega) (by omega) (by omega)
   ·rw[if_neg (by omega)]
    by_cases c4:p=i - 1
    ·rw[if_pos c4];exact h2 _ (by omega) hq
    ·rw[if_neg c4];exact hs _ _ (by omega) (by omega) hq
theorem one_right (hS:SWO lt) {a m i:Nat} {d d':Array α} (hai:a≤i) (him:i≤m) (hs:SortedIn lt a m d) (h1:∀ x,a≤x→x<i→lt d[m]! d[x]! = false) (h2:∀ x,i≤x→x<m→lt d[m]! d[x]! = true)
  (he:∀ x,d'[x]! = if x=i then d[m]! else if i<x∧x≤m then d[x - 1]! else d[x]!):SortedIn lt a (m+1) d':=by
 intro p q hp hpq hq
 rw[he,he]
 by_cases c1:q=i
 ·rw[if_pos c1,if_neg (by omega),if_neg (by omega)];exact h1 _ hp (by omega)
 ·rw[if_neg c1]
  by_cases c2:q<i
  ·rw[if_neg (by omega),if_neg (by omega),if_neg (by omega)];exact hs _ _ hp hpq (by omega)
  ·rw[if_pos (by omega)]
   by_cases c3:p=i
   ·rw[if_pos c3];exact hS.asymmA (h2 _ (by omega) (by omega))
   ·rw[if_neg c3]
    by_cases c4:p<i
    ·rw[if_neg (by omega)];exact hs _ _ hp (by omega) (by omega)
    ·rw[if_pos (by omega)];exact hs _ _ (by omega) (by omega) (by omega)
theorem bub_right {a k:Nat} {d dk:Array α} (hak:a≤k) (hk:k+1<d.size) (hs:dk.size=d.size) (he:∀ x,dk[x]! = if a≤x∧x<k then d[x+1]! else if x=k then d[a]! else d[x]!) (x:Nat) :
  (swp dk k (k+1))[x]! = if a≤x∧x<k+1 then d[x+1]! else if x=k+1 then d[a]! else d[x]!:=by
 rw[swp_get _ (by omega) (by omega),he,he,he]
 repeat' split
 all_goals first | (exfalso;omega) | (congr 1;omega) | rfl
theorem bub_left {m k:Nat} {d dk:Array α} (hkm:k≤m) (h0:0<k) (hk:m<d.size) (hs:dk.size=d.size) (he:∀ x,dk[x]! = if x=k then d[m]! else if k<x∧x≤m then d[x - 1]! else d[x]!) (x:Nat) :
  (swp dk k (k - 1))[x]! = if x=k - 1 then d[m]! else if k - 1<x∧x≤m then d[x - 1]! else d[x]!:=by
 rw[swp_get _ (by omega) (by omega),he,he,he]
 repeat' split
 all_goals first | (exfalso;omega) | (congr 1;omega) | rfl
theorem search_up (hS:SWO lt) {a m b p c c':Nat} {d:Array α} (hs1:SortedIn lt a m d) (hs2:SortedIn lt m b d) (h1:a≤c) (h2:c≤c') (h3:c'<m) (h4:m≤p - c') (h5:p - c<b) (h6:c'≤p) (hG:lt d[p - c]! d[c]! = true):lt d[p - c']! d[c']! = true:=by
 rcases Nat.lt_or_eq_of_le h2 with h | rfl
 ·have e1:=hs1 c c' h1 h h3
  have e2:=hs2 (p - c') (p - c) h4 (by omega) h5
  cases h0:lt d[p - c']! d[c']! with
  | true=>rfl
  | false =>
   have:=hS.ntrans _ _ _ (hS.ntrans _ _ _ e2 h0) e1
   rw[this] at hG;cases hG
 ·exact hG
theorem halves (hS:SWO lt) {a m b s mid e:Nat} {d d':Array α} (ham:a<m) (hmb:m<b) (has:a≤s) (hsm:s≤m) (he:e=mid+m - s) (hme:m≤e) (heb:e≤b) (hmid:mid=(a+b) / 2) (hs1:SortedIn lt a m d) (hs2:SortedIn lt m b d)
  (hc1:s=a∨e=b∨(lt d[e]! d[s - 1]! = false)) (hc2:s=m∨e=m∨lt d[e - 1]! d[s]! = true)
  (hr:∀ x,d'[x]! = rotV m (m - s) (e - m) d x):SortedIn lt a s d'∧SortedIn lt s mid d'∧SortedIn lt mid e d'∧SortedIn lt e b d'∧∀ x y,a≤x→x<mid→mid≤y→y<b→lt d'[y]! d'[x]! = false:=by
 have r1:∀ x,x<s→d'[x]! = d[x]!:=fun x hx=>by rw[hr];unfold rotV;rw[if_neg (by omega),if_neg (by omega)]
 have r2:∀ x,s≤x→x<mid→d'[x]! = d[x+(m - s)]!:=fun x h1 h2=>by rw[hr];unfold rotV;rw[if_pos (by omega)]
 have r3:∀ x,mid≤x→x<e→d'[x]! = d[x - (e - m)]!:=fun x h1 h2=>by rw[hr];unfold rotV;rw[if_neg (by omega),if_pos (by omega)]
 have r4:∀ x,e≤x→d'[x]! = d[x]!:=fun x hx=>by rw[hr];unfold rotV;rw[if_neg (by omega),if_neg (by omega)]
 have L:∀ x y,a≤x→x≤y→y<m→lt d[y]! d[x]! = false:=fun x y h1 h2 h3=>by
  rcases Nat.lt_or_eq_of_le h2 with h | rfl
  ·exact hs1 _ _ h1 h h3
  ·exact hS.irrefl _
 have R:∀ x y,m≤x→x≤y→y<b→lt d[y]! d[x]! = false:=fun x y h1 h2 h3=>by
  rcases Nat.lt_or_eq_of_le h2 with h | rfl
  ·exact hs2 _ _ h1 h h3
  ·exact hS.irrefl _
 have c1:∀ x y,a≤x→x<s→e≤y→y<b→lt d[y]! d[x]! = false:=fun x y h1 h2 h3 h4=>by
  rcases hc1 with h | h | h
  ·omega
  ·omega
  ·exact hS.ntrans _ _ _ (hS.ntrans _ _ _ (R e y hme h3 h4) h) (L x (s - 1) h1 (by omega) (by omega))
 have c2:∀ x y,m≤x→x<e→s≤y→y<m→lt d[y]! d[x]! = false:=fun x y h1 h2 h3 h4=>by
  rcases hc2 with h | h | h
  ·omega
  ·omega
  ·have h0:=hS.asymmA h
   exact hS.ntrans _ _ _ (hS.ntrans _ _ _ (L s y has h3 h4) h0) (R x (e - 1) h1 (by omega) (by omega))
 refine⟨fun p q h1 h2 h3=>?_,fun p q h1 h2 h3=>?_,fun p q h1 h2 h3=>?_,fun p q h1 h2 h3=>?_,fun x y h1 h2 h3 h4=>?_⟩
 ·rw[r1 _ h3,r1 _ (by omega)];exact hs1 _ _ h1 h2 (by omega)
 ·rw[r2 _ h1 (by omega),r2 _ (by omega) h3];exact hs2 _ _ (by omega) (by omega) (by omega)
 ·rw[r3 _ h1 (by omega),r3 _ (by omega) h3];exact hs1 _ _ (by omega) (by omega) (by omega)
 ·rw[r4 _ h1,r4 _ (by omega)];exact hs2 _ _ (by omega) (by omega) h3
 ·rcases Nat.lt_or_ge x s with k1 | k1
  ·rw[r1 _ k1]
   rcases Nat.lt_or_ge y e with k2 | k2
   ·rw[r3 _ h3 k2];exact L _ _ h1 (by omega) (by omega)
   ·rw[r4 _ k2];exact c1 _ _ h1 k1 k2 h4
  ·rw[r2 _ k1 h2]
   rcases Nat.lt_or_ge y e with k2 | k2
   ·rw[r3 _ h3 k2];exact c2 _ _ (by omega) (by omega) (by omega) (by omega)
   ·rw[r4 _ k2];exact R _ _ (by omega) (by omega) h4
theorem both (lo mid hi:Nat) {d1 d2 d3:Array α} (hsz:hi≤d1.size) (hx:∀ x y,lo≤x→x<mid→mid≤y→y<hi→lt d1[y]! d1[x]! = false)
  (p1:PermIn lo mid d1 d2) (p2:PermIn mid hi d2 d3) (s1:SortedIn lt lo mid d2) (s2:SortedIn lt mid hi d3):SortedIn lt lo hi d3:=by
 have e1:∀ x,x<mid→d3[x]! = d2[x]!:=fun x hx=>p2.2.1 x (.inl hx)
 have e2:∀ y,mid≤y→d2[y]! = d1[y]!:=fun y hy=>p1.2.1 y (.inr hy)
 have cr:∀ x,lo≤x→x<mid→∀ y,mid≤y→y<hi→lt d3[y]! d3[x]! = false:=by
  have a1:∀ x,lo≤x→x<mid→∀ y,mid≤y→y<hi→lt d2[y]! d2[x]! = false:=fun x k1 k2 y k3 k4=>by
   rw[e2 y k3]
   exact permIn_all d1 d2 lo mid (fun v=>lt d1[y]! v=false) (by omega) p1 (fun i i1 i2=>hx i y i1 i2 k3 k4) x k1 k2
  intro x k1 k2 y k3 k4
  rw[e1 x k2]
  exact permIn_all d2 d3 mid hi (fun v=>lt v d2[x]! = false) (by rw[p1.1];exact hsz) p2 (fun i i1 i2=>a1 x k1 k2 i i1 i2) y k3 k4
 intro p q k1 k2 k3
 rcases Nat.lt_or_ge q mid with c | c
 ·rw[e1 q c,e1 p (by omega)];exact s1 _ _ k1 k2 c
 ·rcases Nat.lt_or_ge p mid with c' | c'
  ·exact cr p k1 c' q c k3
  ·exact s2 _ _ c' k2 k3
end
end Go.Proofs.YtnjlkhhcfiedbaaGreatDoor.Stab
namespace Go.Proofs.YtnjlkhhcfiedbaaGreatDoor.Stab
open Go.Shelf Go.RowKit Go.Lib Go.Sort
structure Lay (P:Program) (k:Nat):Prop where
 mixed:P.follows .mixedOrders=true
 fW:P.funcs[190]? = some Tryz.f190
 fR:P.funcs[185]? = some Tryz.f185
 fM:P.funcs[176]? = some Tryz.f176
 fI:P.funcs[139]? = some Tryz.f139
 fS:P.funcs[158]? = some Tryz.f158
 t0:P.underlying 0=some (TypeDesc.tuple #[])
 a0:∀ w,(isAgg 0).run P w=.ok false w
 z0:∀ w,(Go.sizeOf 0).run P w=.ok 1 w
 v0:∀ w,(zeroValue 0).run P w=.ok (Value.tuple #[]) w
 t3:P.underlying 3 = some (TypeDesc.int IntKind.i64)
 a3:∀ w,(isAgg 3).run P w=.ok false w
 z3:∀ w,(Go.sizeOf 3).run P w=.ok 1 w
 v3:∀ w,(zeroValue 3).run P w=.ok (Value.int IntKind.i64 0) w
 t4:P.underlying 4 = some (TypeDesc.bool)
 a4:∀ w,(isAgg 4).run P w=.ok false w
 z4:∀ w,(Go.sizeOf 4).run P w=.ok 1 w
 v4:∀ w,(zeroValue 4).run P w=.ok (Value.bool false) w
 t60:P.underlying 51 = some (TypeDesc.int IntKind.u64)
 a60:∀ w,(isAgg 51).run P w=.ok false w
 z60:∀ w,(Go.sizeOf 51).run P w=.ok 1 w
 v60:∀ w,(zeroValue 51).run P w=.ok (Value.int IntKind.u64 0) w
 t22:P.underlying 31 = some (TypeDesc.slice 46)
 a22:∀ w,(isAgg 31).run P w=.ok false w
 z22:∀ w,(Go.sizeOf 31).run P w=.ok 1 w
 v22:∀ w,(zeroValue 31).run P w=.ok (Value.slice none 0 0) w
 t25:P.underlying 96 = some (TypeDesc.func #[46,46] #[3] false)
 a25:∀ w,(isAgg 96).run P w=.ok false w
 z25:∀ w,(Go.sizeOf 96).run P w=.ok 1 w
 v25:∀ w,(zeroValue 96).run P w=.ok (Value.nilFunc) w
 aE:∀ w,(isAgg 46).run P w=.ok true w
 zE:∀ w,(Go.sizeOf 46).run P w=.ok k w
theorem lay:Lay Tryz.prog 5 where
 mixed:=by kernel_rfl
 fW:=Tryz.func190
 fR:=Tryz.func185
 fM:=Tryz.func176
 fI:=Tryz.func139
 fS:=Tryz.func158
 t0:=by kernel_rfl
 a0:=fun _=>by go_simp
 z0:=fun _=>by go_simp
 v0:=fun _=>by go_simp
 t3:=by kernel_rfl
 a3:=fun _=>by go_simp
 z3:=fun _=>by go_simp
 v3:=fun _=>by go_simp
 t4:=by kernel_rfl
 a4:=fun _=>by go_simp
 z4:=fun _=>by go_simp
 v4:=fun _=>by go_simp
 t60:=by kernel_rfl
 a60:=fun _=>by go_simp
 z60:=fun _=>by go_simp
 v60:=fun _=>by go_simp
 t22:=by kernel_rfl
 a22:=fun _=>by go_simp
 z22:=fun _=>by go_simp
 v22:=fun _=>by go_simp
 t25:=by kernel_rfl
 a25:=fun _=>by go_simp
 z25:=fun _=>by go_simp
 v25:=fun _=>by go_simp
 aE:=fun _=>by go_simp
 zE:=fun _=>by go_simp
end Go.Proofs.YtnjlkhhcfiedbaaGreatDoor.Stab
namespace Go.Proofs.YtnjlkhhcfiedbaaGreatDoor.Stab
open Go.Shelf Go.RowKit Go.Lib Go.Sort
variable {P:Program} {α:Type} [Inhabited α]
set_option maxHeartbeats 4000000 in
set_option maxRecDepth 1000000 in
theorem swapRange_any (k:Nat) (L:Lay P k) (enc:α→List Value) (gv:Value) (blk off cap a b n:Nat) (d0 d:Array α) (w0 w:World)
  (R:RowK enc k w0 blk off d0) (hs:d0.size=d.size) (S:SWK enc k w0 blk off d w) (hab:a+n≤b) (hb:b+n≤d.size) (hsz:d.size<1000000) :
  Calls P 190 #[.slice (some ⟨blk,off,none⟩) d.size cap,.int .i64 a,.int .i64 b,.int .i64 n,gv] w fun e w'=>e=.returned (.tuple #[]) ∧
   ∃ d',SWK enc k w0 blk off d' w'∧Exch a b n d d'∧∀ lo hi,lo≤a→b+n≤hi→hi≤d.size→PermIn lo hi d d':=by
 have mixed:=L.mixed;have t0:=L.t0;have a0:=L.a0;have z0:=L.z0;have v0:=L.v0;have t3:=L.t3;have a3:=L.a3;have z3:=L.z3;have v3:=L.v3;have t4:=L.t4;have a4:=L.a4;have z4:=L.z4;have v4:=L.v4;have t60:=L.t60;have a60:=L.a60;have z60:=L.z60;have v60:=L.v60;have t22:=L.t22;have a22:=L.a22;have z22:=L.z22;have v22:=L.v22;have t25:=L.t25;have a25:=L.a25;have z25:=L.z25;have v25:=L.v25;have aE:=L.aE;have zE:=L.zE;have u22:=run_underlying L.t22;have u60:=run_underlying L.t60
 have S0:Aside (SWK enc k w0 blk off d w):=S
 clear S
 go_enter L.fW,Tryz.ntmps190
 go_wp2
 go_loopg [10] n (fun kx s10 wr=>∃ (i:Nat) (dk:Array α),s10=.int .i64 i∧i≤n∧n - i≤kx∧Aside (SWK enc k w0 blk off dk wr)∧Aside (Exch a b i d dk)∧Aside (∀ lo hi,lo≤a→b+n≤hi→hi≤d.size→PermIn lo hi d dk))
 case atStart=>exact⟨0,d,rfl,by omega,by omega,S0,Exch.zero a b d,fun lo hi _ _ _=>permIn_refl _ _ _⟩
 case round =>
  clear S0
  obtain⟨i,dk,rfl,hin,hkx,S1,E1,P1⟩:=hrel
  have hds:dk.size=d.size:=E1.out.1
  by_cases hlt:(i:Int)<(n:Int)
  ·go_wp2_with fail
   have ea44:((a:Int)+(i:Int)).toNat=a+i:=by omega
   have pa44:(0:Int)≤(a:Int)+(i:Int):=by omega
   have ba44:(a:Int)+(i:Int)<(d.size:Int):=by omega
   have ra44:IntKind.i64.wrap ((a:Int)+(i:Int))=(a:Int)+(i:Int):=by rw[IntKind.wrap_i64];omega
   have ec44:((b:Int)+(i:Int)).toNat=b+i:=by omega
   have pc44:(0:Int)≤(b:Int)+(i:Int):=by omega
   have bc44:(b:Int)+(i:Int)<(d.size:Int):=by omega
   have rc44:IntKind.i64.wrap ((b:Int)+(i:Int))=(b:Int)+(i:Int):=by rw[IntKind.wrap_i64];omega
   have S2:Aside (SWK enc k w0 blk off (swp dk (a+i) (b+i)) ((wr.drew.setCells blk (off+(a+i)*k) (enc dk[b+i]!)).setCells blk (off+(b+i)*k) (enc dk[a+i]!))):=S1.out.swapped R (a+i) (b+i) (by omega) (by omega)
   have l44a:=S1.out.ld1 R (by omega) P (a+i) (by omega)
   have l44b:=S1.out.ld1 R (by omega) P (b+i) (by omega)
   have s44a:=S1.out.st1 R (by omega) P (a+i) (by omega) dk[b+i]!
   have s44b:=S1.out.st2 R (by omega) P (a+i) (b+i) (by omega) (by omega) dk[b+i]! dk[a+i]!
   have n44a:(enc dk[a+i]!).length=k:=R.hk _
   have n44b:(enc dk[b+i]!).length=k:=R.hk _
   generalize enc dk[a+i]! = cI44 at S2 l44a s44b n44a
   generalize enc dk[b+i]! = cJ44 at S2 l44b s44a s44b n44b
   clear S1
   go_wp2_with fail
   go_big_region_o
   clear l44a l44b s44a s44b
   generalize (wr.drew.setCells blk (off+(a+i)*k) cJ44).setCells blk (off+(b+i)*k) cI44=w2 at S2 ⊢
   go_wp2
   go_roundg (n - (i+1))
   case measure=>omega
   case rel =>
    exact⟨i+1,swp dk (a+i) (b+i),by go_num,by omega,Nat.le_refl _,S2,E1.out.step (by omega) (by omega),fun lo hi h1 h2 h3=>PermIn.swp (P1.out lo hi h1 h2 h3) (by omega) (by omega) (by omega) (by omega) h3⟩
  ·go_wp2
   go_end0
   have hn:i=n:=by omega
   subst hn
   exact⟨rfl,dk,S1.out,E1.out,P1.out⟩
set_option maxHeartbeats 4000000 in
set_option maxRecDepth 1000000 in
theorem rotate_any (k:Nat) (L:Lay P k) (enc:α→List Value) (gv:Value) (blk off cap a m b:Nat) (d0 d:Array α) (w0 w:World)
  (R:RowK enc k w0 blk off d0) (hs:d0.size=d.size) (S:SWK enc k w0 blk off d w) (ham:a<m) (hmb:m<b) (hb:b≤d.size) (hsz:d.size<1000000) :
  Calls P 185 #[.slice (some ⟨blk,off,none⟩) d.size cap,.int .i64 a,.int .i64 m,.int .i64 b,gv] w fun e w'=>e=.returned (.tuple #[]) ∧
   ∃ d',SWK enc k w0 blk off d' w'∧(∀ x,d'[x]! = rotV m (m - a) (b - m) d x)∧PermIn a b d d':=by
 have SW:=Lib.hid (fun (x y n:Nat) (dk:Array α) (wr:World) (S:SWK enc k w0 blk off dk wr) (hds:dk.size=d.size) (h1:x+n≤y) (h2:y+n≤dk.size)=>swapRange_any k L enc gv blk off cap x y n d0 dk w0 wr R (by omega) S h1 h2 (by omega))
 have mixed:=L.mixed;have t0:=L.t0;have a0:=L.a0;have z0:=L.z0;have v0:=L.v0;have t3:=L.t3;have a3:=L.a3;have z3:=L.z3;have v3:=L.v3;have t4:=L.t4;have a4:=L.a4;have z4:=L.z4;have v4:=L.v4;have t60:=L.t60;have a60:=L.a60;have z60:=L.z60;have v60:=L.v60;have t22:=L.t22;have a22:=L.a22;have z22:=L.z22;have v22:=L.v22;have t25:=L.t25;have a25:=L.a25;have z25:=L.z25;have v25:=L.v25;have aE:=L.aE;have zE:=L.zE;have u22:=run_underlying L.t22;have u60:=run_underlying L.t60
 have e119:∀ args w,(callFunc 190 args).run P w=.ok (.enter 190 args) w:=enters_of L.fW (by kernel_rfl) rfl
 have S0:Aside (SWK enc k w0 blk off d w):=S
 clear S
 go_enter L.fR,Tryz.ntmps185
 have q1:IntKind.i64.wrap ((m:Int) - (a:Int))=((m - a:Nat):Int):=by rw[IntKind.wrap_i64];omega
 have q2:IntKind.i64.wrap ((b:Int) - (m:Int))=((b - m:Nat):Int):=by rw[IntKind.wrap_i64];omega
 go_wp2_with fail
 go_loopg [10,11] (b - a) (fun kx s10 s11 wr=>∃ (i j:Nat) (dk:Array α),s10=.int .i64 i∧s11=.int .i64 j∧1≤i∧1≤j∧a+i≤m∧m+j≤b∧i+j≤kx∧Aside (SWK enc k w0 blk off dk wr)∧Aside (PermIn a b d dk)∧Aside (∀ x,rotV m i j dk x=rotV m (m - a) (b - m) d x))
 case atStart=>exact⟨m - a,b - m,d,by go_num,by go_num,by omega,by omega,by omega,by omega,by omega,S0,permIn_refl _ _ _,fun _=>rfl⟩
 case round =>
  clear S0
  obtain⟨i,j,dk,rfl,rfl,hi,hj,h1,h2,hkx,S1,P1,V1⟩:=hrel
  have hds:dk.size=d.size:=P1.out.1
  have r1:IntKind.i64.wrap ((m:Int) - (i:Int))=((m - i:Nat):Int):=by rw[IntKind.wrap_i64];omega
  by_cases hne:i=j
  ·subst hne
   have d0:((i:Int) != (i:Int))=false:=by simp
   go_wp2_with (go_at_fn 190;rw[← hds];refine (SW.out (m - i) m i dk wr S1.out hds (by omega) (by omega)).mono ?_;rintro e w1 ⟨rfl,d2,S2,E2,P2⟩)
   go_end0
   exact⟨rfl,d2,S2,fun x=>(rot_end (by omega) E2 x).trans (V1.out x),permIn_trans _ _ _ _ _ P1.out (P2 a b (by omega) (by omega) (by omega))⟩
  ·have d0:((i:Int) != (j:Int))=true:=by simp;omega
   by_cases hgt:j<i
   ·have d1:decide ((j:Int)<(i:Int))=true:=by simp;omega
    have r2:IntKind.i64.wrap ((i:Int) - (j:Int))=((i - j:Nat):Int):=by rw[IntKind.wrap_i64];omega
    go_wp2_with (go_at_fn 190;rw[← hds];refine (SW.out (m - i) m j dk wr S1.out hds (by omega) (by omega)).mono ?_;rintro e w1 ⟨rfl,d2,S2,E2,P2⟩)
    have S2:Aside _:=S2
    have E2:Aside _:=E2
    have P2:Aside _:=P2
    go_wp2
    go_roundg (i - j+j)
    case measure=>omega
    case rel=>exact⟨i - j,j,d2,by go_num,rfl,by omega,hj,by omega,h2,by omega,S2.out,permIn_trans _ _ _ _ _ P1.out (P2.out a b (by omega) (by omega) (by omega)),fun x=>(rot_left (by omega) hgt E2.out x).trans (V1.out x)⟩
   ·have d1:decide ((j:Int)<(i:Int))=false:=by simp;omega
    have r2:IntKind.i64.wrap ((j:Int) - (i:Int))=((j - i:Nat):Int):=by rw[IntKind.wrap_i64];omega
    have r3:IntKind.i64.wrap ((m:Int)+(j:Int))=(m:Int)+(j:Int):=by rw[IntKind.wrap_i64];omega
    have r4:IntKind.i64.wrap ((m:Int)+(j:Int) - (i:Int))=((m+j - i:Nat):Int):=by rw[IntKind.wrap_i64];omega
    go_wp2_with (go_at_fn 190;rw[← hds];refine (SW.out (m - i) (m+j - i) i dk wr S1.out hds (by omega) (by omega)).mono ?_;rintro e w1 ⟨rfl,d2,S2,E2,P2⟩)
    have S2:Aside _:=S2
    have E2:Aside _:=E2
    have P2:Aside _:=P2
    go_wp2
    go_roundg (i+(j - i))
    case measure=>omega
    case rel=>exact⟨i,j - i,d2,rfl,by go_num,hi,by omega,h1,by omega,by omega,S2.out,permIn_trans _ _ _ _ _ P1.out (P2.out a b (by omega) (by omega) (by omega)),fun x=>(rot_right (by omega) (by omega) E2.out x).trans (V1.out x)⟩
end Go.Proofs.YtnjlkhhcfiedbaaGreatDoor.Stab
namespace Go.Proofs.YtnjlkhhcfiedbaaGreatDoor.Stab
open Go.Shelf Go.RowKit Go.Lib Go.Sort
variable {P:Program} {α:Type} [Inhabited α]
set_option maxHeartbeats 4000000 in
set_option maxRecDepth 1000000 in
theorem symLeft_any (k:Nat) (L:Lay P k) (enc:α→List Value) (cf:α→α→Int) (hO:SWO (ltOf cf)) (g:Nat) (cb:Array Value) (blk off cap a m b:Nat) (d0 d:Array α) (w0 w:World)
  (eg:∀ args w,(callFunc g args).run P w=.ok (.enter g args) w) (hcmp:CmpLays P g cb enc k cf blk off d.size w0) (R:RowK enc k w0 blk off d0) (hs:d0.size=d.size) (S:SWK enc k w0 blk off d w) (ham:a<m) (hmb:m<b) (hb:b≤d.size) (hsz:d.size<1000000)
  (s2:SortedIn (ltOf cf) m b d) (hm:m=a+1) :
  Calls P 176 #[.slice (some ⟨blk,off,none⟩) d.size cap,.int .i64 a,.int .i64 m,.int .i64 b,.func (.func g) #[] cb] w fun e w'=>e=.returned (.tuple #[]) ∧
   ∃ d',SWK enc k w0 blk off d' w'∧PermIn a b d d'∧SortedIn (ltOf cf) a b d':=by
 have mixed:=L.mixed;have t0:=L.t0;have a0:=L.a0;have z0:=L.z0;have v0:=L.v0;have t3:=L.t3;have a3:=L.a3;have z3:=L.z3;have v3:=L.v3;have t4:=L.t4;have a4:=L.a4;have z4:=L.z4;have v4:=L.v4;have t60:=L.t60;have a60:=L.a60;have z60:=L.z60;have v60:=L.v60;have t22:=L.t22;have a22:=L.a22;have z22:=L.z22;have v22:=L.v22;have t25:=L.t25;have a25:=L.a25;have z25:=L.z25;have v25:=L.v25;have aE:=L.aE;have zE:=L.zE;have u22:=run_underlying L.t22;have u60:=run_underlying L.t60
 have S0:Aside (SWK enc k w0 blk off d w):=S
 have HC:Aside _:=hcmp
 have HS2:Aside _:=s2
 clear S hcmp s2
 have HM:=Lib.hid hm
 have hm1:m≤a+1:=by omega
 clear hm
 have q1:IntKind.i64.wrap ((m:Int) - (a:Int))=1:=by rw[IntKind.wrap_i64];omega
 go_enter L.fM,Tryz.ntmps176
 go_wp2_with fail
 go_loopg [10,11,12] (b - m) (fun kx s10 s11 s12 wr=>∃ (i j:Nat),s10=.int .i64 i∧s11=.int .i64 j∧m≤i∧i≤j∧j≤b∧j - i≤kx∧Aside (SWK enc k w0 blk off d wr)∧Aside (∀ x,m≤x→x<i→ltOf cf d[x]! d[a]! = true)∧Aside (∀ x,j≤x→x<b→ltOf cf d[x]! d[a]! = false))
 case atStart=>exact⟨m,b,rfl,rfl,by omega,by omega,by omega,by omega,S0,fun x h1 h2=>by omega,fun x h1 h2=>by omega⟩
 case round =>
  clear S0
  obtain⟨i,j,rfl,rfl,h1,h2,h3,hkx,S1,G1,G2⟩:=hrel
  by_cases hlt:(i:Int)<(j:Int)
  ·have rij:IntKind.i64.wrap ((i:Int)+(j:Int))=(i:Int)+(j:Int):=by rw[IntKind.wrap_i64];omega
   obtain⟨h,hh⟩:∃ h,h=(i+j) / 2:=⟨_,rfl⟩
   have hih:i≤h:=by omega
   have hhj:h<j:=by omega
   go_wp2_with fail
   have hz:((i:Int)+(j:Int)) / 2=(h:Int):=by omega
   simp only[hz]
   clear hz hh
   cases hL:ltOf cf d[h]! d[a]! with
   | true =>
    have ea24:((h:Int)).toNat=h:=by omega
    have pa24:(0:Int)≤(h:Int):=by omega
    have ba24:(h:Int)<(d.size:Int):=by omega
    have ra24:IntKind.i64.wrap ((h:Int))=(h:Int):=by rw[IntKind.wrap_i64];omega
    have ec24:((a:Int)).toNat=a:=by omega
    have pc24:(0:Int)≤(a:Int):=by omega
    have bc24:(a:Int)<(d.size:Int):=by omega
    have rc24:IntKind.i64.wrap ((a:Int))=(a:Int):=by rw[IntKind.wrap_i64];omega
    obtain⟨x24,hx24⟩:∃ x,x=d[h]!:=⟨_,rfl⟩
    obtain⟨y24,hy24⟩:∃ x,x=d[a]!:=⟨_,rfl⟩
    have l24a:=S1.out.ld R (by omega) P (h) (by omega)
    have l24b:=S1.out.ld R (by omega) P (a) (by omega)
    rw[← hx24] at l24a
    rw[← hy24] at l24b
    have hc24:=S1.out.cmp HC.out (by omega) x24 y24
    have hd24:decide (cf x24 y24<0)=true:=by rw[hx24,hy24];exact hL
    clear hx24 hy24
    go_wp2_with fail
    go_quiet_grown (first | (go_at_fn g;refine Calls.grown_of (hc24 _ _)))
    have S2:Aside (SWK enc k w0 blk off d (grow (wr.drewN nq) osq)):=S1.out.grown nq osq
    clear l24a l24b hc24 S1
    generalize grow (wr.drewN nq) osq=w2 at S2 ⊢
    clear nq osq
    go_wp2
    go_roundg (j - (h+1))
    case measure=>omega
    case rel =>
     refine⟨h+1,j,by go_num,rfl,by omega,by omega,h3,by omega,S2,fun x k1 k2=>?_,G2⟩
     rcases Nat.lt_or_ge x h with c | c
     ·cases hX:ltOf cf d[x]! d[a]! with
      | true=>rfl
      | false=>rw[hO.ntrans _ _ _ (HS2.out x h k1 c (by omega)) hX] at hL;cases hL
     ·obtain rfl:x=h:=by omega
      exact hL
   | false =>
    have ea24:((h:Int)).toNat=h:=by omega
    have pa24:(0:Int)≤(h:Int):=by omega
    have ba24:(h:Int)<(d.size:Int):=by omega
    have ra24:IntKind.i64.wrap ((h:Int))=(h:Int):=by rw[IntKind.wrap_i64];omega
    have ec24:((a:Int)).toNat=a:=by omega
    have pc24:(0:Int)≤(a:Int):=by omega
    have bc24:(a:Int)<(d.size:Int):=by omega
    have rc24:IntKind.i64.wrap ((a:Int))=(a:Int):=by rw[IntKind.wrap_i64];omega
    obtain⟨x24,hx24⟩:∃ x,x=d[h]!:=⟨_,rfl⟩
    obtain⟨y24,hy24⟩:∃ x,x=d[a]!:=⟨_,rfl⟩
    have l24a:=S1.out.ld R (by omega) P (h) (by omega)
    have l24b:=S1.out.ld R (by omega) P (a) (by omega)
    rw[← hx24] at l24a
    rw[← hy24] at l24b
    have hc24:=S1.out.cmp HC.out (by omega) x24 y24
    have hd24:decide (cf x24 y24<0)=false:=by rw[hx24,hy24];exact hL
    clear hx24 hy24
    go_wp2_with fail
    go_quiet_grown (first | (go_at_fn g;refine Calls.grown_of (hc24 _ _)))
    have S2:Aside (SWK enc k w0 blk off d (grow (wr.drewN nq) osq)):=S1.out.grown nq osq
    clear l24a l24b hc24 S1
    generalize grow (wr.drewN nq) osq=w2 at S2 ⊢
    clear nq osq
    go_wp2
    go_roundg (h - i)
    case measure=>omega
    case rel =>
     refine⟨i,h,rfl,rfl,h1,hih,by omega,by omega,S2,G1,fun x k1 k2=>?_⟩
     rcases Nat.lt_or_ge h x with c | c
     ·exact hO.ntrans _ _ _ (HS2.out h x (by omega) c k2) hL
     ·obtain rfl:x=h:=by omega
      exact hL
  ·obtain rfl:i=j:=by omega
   have ri:IntKind.i64.wrap ((i:Int) - 1)=(i:Int) - 1:=by rw[IntKind.wrap_i64];omega
   go_wp2_with fail
   go_loopg [13] (i - 1 - a) (fun kx s13 wr=>∃ (t:Nat) (dk:Array α),s13=.int .i64 t∧a≤t∧t≤i - 1∧i - 1 - t≤kx∧dk.size=d.size∧Aside (SWK enc k w0 blk off dk wr)∧Aside (PermIn a b d dk)∧Aside (∀ x,dk[x]! = if a≤x∧x<t then d[x+1]! else if x=t then d[a]! else d[x]!))
   case atStart=>exact⟨a,d,rfl,Nat.le_refl _,by omega,by omega,rfl,S1,permIn_refl _ _ _,fun x=>by rw[if_neg (by omega)];exact (by by_cases e:x=a;(rw[if_pos e,e]);rw[if_neg e])⟩
   case round =>
    clear S1
    obtain⟨t,dk,rfl,ht1,ht2,hkx2,hds,S1,P1,E1⟩:=hrel
    by_cases hlt2:(t:Int)<(i:Int) - 1
    ·go_wp2_with fail
     have ea44:((t:Int)).toNat=t:=by omega
     have pa44:(0:Int)≤(t:Int):=by omega
     have ba44:(t:Int)<(d.size:Int):=by omega
     have ra44:IntKind.i64.wrap ((t:Int))=(t:Int):=by rw[IntKind.wrap_i64];omega
     have ec44:((t:Int)+1).toNat=t+1:=by omega
     have pc44:(0:Int)≤(t:Int)+1:=by omega
     have bc44:(t:Int)+1<(d.size:Int):=by omega
     have rc44:IntKind.i64.wrap ((t:Int)+1)=(t:Int)+1:=by rw[IntKind.wrap_i64];omega
     have S2:Aside (SWK enc k w0 blk off (swp dk (t) (t+1)) ((wr.drew.setCells blk (off+(t)*k) (enc dk[t+1]!)).setCells blk (off+(t+1)*k) (enc dk[t]!))):=S1.out.swapped R (t) (t+1) (by omega) (by omega)
     have l44a:=S1.out.ld1 R (by omega) P (t) (by omega)
     have l44b:=S1.out.ld1 R (by omega) P (t+1) (by omega)
     have s44a:=S1.out.st1 R (by omega) P (t) (by omega) dk[t+1]!
     have s44b:=S1.out.st2 R (by omega) P (t) (t+1) (by omega) (by omega) dk[t+1]! dk[t]!
     have n44a:(enc dk[t]!).length=k:=R.hk _
     have n44b:(enc dk[t+1]!).length=k:=R.hk _
     generalize enc dk[t]! = cI44 at S2 l44a s44b n44a
     generalize enc dk[t+1]! = cJ44 at S2 l44b s44a s44b n44b
     clear S1
     go_wp2_with fail
     go_big_region_o
     clear l44a l44b s44a s44b
     generalize (wr.drew.setCells blk (off+(t)*k) cJ44).setCells blk (off+(t+1)*k) cI44=w2 at S2 ⊢
     go_wp2
     go_roundg (i - 1 - (t+1))
     case measure=>omega
     case rel =>
      exact⟨t+1,swp dk t (t+1),by go_num,by omega,by omega,Nat.le_refl _,by rw[size_swp];exact hds,S2,PermIn.swp P1.out (by omega) (by omega) (by omega) (by omega) hb,fun x=>bub_right ht1 (by omega) hds E1.out x⟩
    ·go_wp2
     refine bodyPost_ret (results_none rfl _ _ _) rfl ?_
     have ht:t=i - 1:=by omega
     exact⟨rfl,dk,S1.out,P1.out,one_left hO (by omega) h3 (by rw[← HM.out];exact HS2.out) (by rw[← HM.out];exact G1.out) G2.out (fun x=>by rw[← ht];exact E1.out x)⟩
end Go.Proofs.YtnjlkhhcfiedbaaGreatDoor.Stab
namespace Go.Proofs.YtnjlkhhcfiedbaaGreatDoor.Stab
open Go.Shelf Go.RowKit Go.Lib Go.Sort
variable {P:Program} {α:Type} [Inhabited α]
set_option maxHeartbeats 4000000 in
set_option maxRecDepth 1000000 in
theorem symRight_any (k:Nat) (L:Lay P k) (enc:α→List Value) (cf:α→α→Int) (hO:SWO (ltOf cf)) (g:Nat) (cb:Array Value) (blk off cap a m b:Nat) (d0 d:Array α) (w0 w:World)
  (eg:∀ args w,(callFunc g args).run P w=.ok (.enter g args) w) (hcmp:CmpLays P g cb enc k cf blk off d.size w0) (R:RowK enc k w0 blk off d0) (hs:d0.size=d.size) (S:SWK enc k w0 blk off d w) (hmb:m<b) (hb:b≤d.size) (hsz:d.size<1000000)
  (s1:SortedIn (ltOf cf) a m d) (hm:b=m+1) (ham2:a+1<m) :
  Calls P 176 #[.slice (some ⟨blk,off,none⟩) d.size cap,.int .i64 a,.int .i64 m,.int .i64 b,.func (.func g) #[] cb] w fun e w'=>e=.returned (.tuple #[]) ∧
   ∃ d',SWK enc k w0 blk off d' w'∧PermIn a b d d'∧SortedIn (ltOf cf) a b d':=by
 have mixed:=L.mixed;have t0:=L.t0;have a0:=L.a0;have z0:=L.z0;have v0:=L.v0;have t3:=L.t3;have a3:=L.a3;have z3:=L.z3;have v3:=L.v3;have t4:=L.t4;have a4:=L.a4;have z4:=L.z4;have v4:=L.v4;have t60:=L.t60;have a60:=L.a60;have z60:=L.z60;have v60:=L.v60;have t22:=L.t22;have a22:=L.a22;have z22:=L.z22;have v22:=L.v22;have t25:=L.t25;have a25:=L.a25;have z25:=L.z25;have v25:=L.v25;have aE:=L.aE;have zE:=L.zE;have u22:=run_underlying L.t22;have u60:=run_underlying L.t60
 have S0:Aside (SWK enc k w0 blk off d w):=S
 have HC:Aside _:=hcmp
 have HS1:Aside _:=s1
 clear S hcmp s1
 have HM:=Lib.hid hm
 have hm1:b≤m+1:=by omega
 clear hm
 have q1:IntKind.i64.wrap ((m:Int) - (a:Int))=(m:Int) - (a:Int):=by rw[IntKind.wrap_i64];omega
 have q2:((m:Int) - (a:Int) == 1)=false:=by simp;omega
 have q3:IntKind.i64.wrap ((b:Int) - (m:Int))=(b:Int) - (m:Int):=by rw[IntKind.wrap_i64];omega
 have q4:((b:Int) - (m:Int) == 1)=true:=by simp;omega
 go_enter L.fM,Tryz.ntmps176
 go_wp2_with fail
 go_loopg [14,15,16] (m - a) (fun kx s14 s15 s16 wr=>∃ (i j:Nat),s14=.int .i64 i∧s15=.int .i64 j∧a≤i∧i≤j∧j≤m∧j - i≤kx∧Aside (SWK enc k w0 blk off d wr)∧Aside (∀ x,a≤x→x<i→ltOf cf d[m]! d[x]! = false)∧Aside (∀ x,j≤x→x<m→ltOf cf d[m]! d[x]! = true))
 case atStart=>exact⟨a,m,rfl,rfl,by omega,by omega,by omega,by omega,S0,fun x h1 h2=>by omega,fun x h1 h2=>by omega⟩
 case round =>
  clear S0
  obtain⟨i,j,rfl,rfl,h1,h2,h3,hkx,S1,G1,G2⟩:=hrel
  by_cases hlt:(i:Int)<(j:Int)
  ·have rij:IntKind.i64.wrap ((i:Int)+(j:Int))=(i:Int)+(j:Int):=by rw[IntKind.wrap_i64];omega
   obtain⟨h,hh⟩:∃ h,h=(i+j) / 2:=⟨_,rfl⟩
   have hih:i≤h:=by omega
   have hhj:h<j:=by omega
   go_wp2_with fail
   have hz:((i:Int)+(j:Int)) / 2=(h:Int):=by omega
   simp only[hz]
   clear hz hh
   cases hL:ltOf cf d[m]! d[h]! with
   | true =>
    have ea24:((m:Int)).toNat=m:=by omega
    have pa24:(0:Int)≤(m:Int):=by omega
    have ba24:(m:Int)<(d.size:Int):=by omega
    have ra24:IntKind.i64.wrap ((m:Int))=(m:Int):=by rw[IntKind.wrap_i64];omega
    have ec24:((h:Int)).toNat=h:=by omega
    have pc24:(0:Int)≤(h:Int):=by omega
    have bc24:(h:Int)<(d.size:Int):=by omega
    have rc24:IntKind.i64.wrap ((h:Int))=(h:Int):=by rw[IntKind.wrap_i64];omega
    obtain⟨x24,hx24⟩:∃ x,x=d[m]!:=⟨_,rfl⟩
    obtain⟨y24,hy24⟩:∃ x,x=d[h]!:=⟨_,rfl⟩
    have l24a:=S1.out.ld R (by omega) P (m) (by omega)
    have l24b:=S1.out.ld R (by omega) P (h) (by omega)
    rw[← hx24] at l24a
    rw[← hy24] at l24b
    have hc24:=S1.out.cmp HC.out (by omega) x24 y24
    have hd24:decide (cf x24 y24<0)=true:=by rw[hx24,hy24];exact hL
    clear hx24 hy24
    go_wp2_with fail
    go_quiet_grown (first | (go_at_fn g;refine Calls.grown_of (hc24 _ _)))
    have S2:Aside (SWK enc k w0 blk off d (grow (wr.drewN nq) osq)):=S1.out.grown nq osq
    clear l24a l24b hc24 S1
    generalize grow (wr.drewN nq) osq=w2 at S2 ⊢
    clear nq osq
    go_wp2
    go_roundg (h - i)
    case measure=>omega
    case rel =>
     refine⟨i,h,rfl,rfl,h1,hih,by omega,by omega,S2,G1,fun x k1 k2=>?_⟩
     rcases Nat.lt_or_ge h x with c | c
     ·cases hX:ltOf cf d[m]! d[x]! with
      | true=>rfl
      | false=>rw[hO.ntrans _ _ _ hX (HS1.out h x (by omega) c k2)] at hL;cases hL
     ·obtain rfl:x=h:=by omega
      exact hL
   | false =>
    have ea24:((m:Int)).toNat=m:=by omega
    have pa24:(0:Int)≤(m:Int):=by omega
    have ba24:(m:Int)<(d.size:Int):=by omega
    have ra24:IntKind.i64.wrap ((m:Int))=(m:Int):=by rw[IntKind.wrap_i64];omega
    have ec24:((h:Int)).toNat=h:=by omega
    have pc24:(0:Int)≤(h:Int):=by omega
    have bc24:(h:Int)<(d.size:Int):=by omega
    have rc24:IntKind.i64.wrap ((h:Int))=(h:Int):=by rw[IntKind.wrap_i64];omega
    obtain⟨x24,hx24⟩:∃ x,x=d[m]!:=⟨_,rfl⟩
    obtain⟨y24,hy24⟩:∃ x,x=d[h]!:=⟨_,rfl⟩
    have l24a:=S1.out.ld R (by omega) P (m) (by omega)
    have l24b:=S1.out.ld R (by omega) P (h) (by omega)
    rw[← hx24] at l24a
    rw[← hy24] at l24b
    have hc24:=S1.out.cmp HC.out (by omega) x24 y24
    have hd24:decide (cf x24 y24<0)=false:=by rw[hx24,hy24];exact hL
    clear hx24 hy24
    go_wp2_with fail
    go_quiet_grown (first | (go_at_fn g;refine Calls.grown_of (hc24 _ _)))
    have S2:Aside (SWK enc k w0 blk off d (grow (wr.drewN nq) osq)):=S1.out.grown nq osq
    clear l24a l24b hc24 S1
    generalize grow (wr.drewN nq) osq=w2 at S2 ⊢
    clear nq osq
    go_wp2
    go_roundg (j - (h+1))
    case measure=>omega
    case rel =>
     refine⟨h+1,j,by go_num,rfl,by omega,by omega,h3,by omega,S2,fun x k1 k2=>?_,G2⟩
     rcases Nat.lt_or_ge x h with c | c
     ·exact hO.ntrans _ _ _ hL (HS1.out x h k1 c (by omega))
     ·obtain rfl:x=h:=by omega
      exact hL
  ·obtain rfl:i=j:=by omega
   go_wp2_with fail
   go_loopg [17] (m - i) (fun kx s17 wr=>∃ (t:Nat) (dk:Array α),s17=.int .i64 t∧i≤t∧t≤m∧t - i≤kx∧dk.size=d.size∧Aside (SWK enc k w0 blk off dk wr)∧Aside (PermIn a b d dk)∧Aside (∀ x,dk[x]! = if x=t then d[m]! else if t<x∧x≤m then d[x - 1]! else d[x]!))
   case atStart=>exact⟨m,d,rfl,h3,Nat.le_refl _,by omega,rfl,S1,permIn_refl _ _ _,fun x=>by (by_cases e:x=m;(rw[if_pos e,e]);rw[if_neg e,if_neg (by omega)])⟩
   case round =>
    clear S1
    obtain⟨t,dk,rfl,ht1,ht2,hkx2,hds,S1,P1,E1⟩:=hrel
    by_cases hlt2:(i:Int)<(t:Int)
    ·obtain⟨u,rfl⟩:∃ u,t=u+1:=⟨t - 1,by omega⟩
     have ru:IntKind.i64.wrap (((u+1:Nat):Int) - 1)=(u:Int):=by rw[IntKind.wrap_i64];omega
     have ru2:IntKind.i64.wrap ((u:Int)+1 - 1)=(u:Int):=by rw[IntKind.wrap_i64];omega
     have ru3:((u:Int)+1 - 1)=(u:Int):=by omega
     go_wp2_with fail
     have ea44:((u:Int)+1).toNat=u+1:=by omega
     have pa44:(0:Int)≤(u:Int)+1:=by omega
     have ba44:(u:Int)+1<(d.size:Int):=by omega
     have ra44:IntKind.i64.wrap ((u:Int)+1)=(u:Int)+1:=by rw[IntKind.wrap_i64];omega
     have ec44:((u:Int)).toNat=u:=by omega
     have pc44:(0:Int)≤(u:Int):=by omega
     have bc44:(u:Int)<(d.size:Int):=by omega
     have rc44:IntKind.i64.wrap ((u:Int))=(u:Int):=by rw[IntKind.wrap_i64];omega
     have S2:Aside (SWK enc k w0 blk off (swp dk (u+1) (u)) ((wr.drew.setCells blk (off+(u+1)*k) (enc dk[u]!)).setCells blk (off+(u)*k) (enc dk[u+1]!))):=S1.out.swapped R (u+1) (u) (by omega) (by omega)
     have l44a:=S1.out.ld1 R (by omega) P (u+1) (by omega)
     have l44b:=S1.out.ld1 R (by omega) P (u) (by omega)
     have s44a:=S1.out.st1 R (by omega) P (u+1) (by omega) dk[u]!
     have s44b:=S1.out.st2 R (by omega) P (u+1) (u) (by omega) (by omega) dk[u]! dk[u+1]!
     have n44a:(enc dk[u+1]!).length=k:=R.hk _
     have n44b:(enc dk[u]!).length=k:=R.hk _
     generalize enc dk[u+1]! = cI44 at S2 l44a s44b n44a
     generalize enc dk[u]! = cJ44 at S2 l44b s44a s44b n44b
     clear S1
     go_wp2_with fail
     go_big_region_o
     clear l44a l44b s44a s44b
     generalize (wr.drew.setCells blk (off+(u+1)*k) cJ44).setCells blk (off+(u)*k) cI44=w2 at S2 ⊢
     go_wp2
     go_roundg (u - i)
     case measure=>omega
     case rel =>
      exact⟨u,swp dk (u+1) u,by go_num,by omega,by omega,Nat.le_refl _,by rw[size_swp];exact hds,S2,PermIn.swp P1.out (by omega) (by omega) (by omega) (by omega) hb,fun x=>by have:=bub_left (k:=u+1) (d:=d) (dk:=dk) (m:=m) (by omega) (by omega) (by omega) hds E1.out x;simpa using this⟩
    ·go_wp2
     refine bodyPost_ret (results_none rfl _ _ _) rfl ?_
     have ht:t=i:=by omega
     exact⟨rfl,dk,S1.out,P1.out,by rw[HM.out];exact one_right hO h1 h3 HS1.out G1.out G2.out (fun x=>by rw[← ht];exact E1.out x)⟩
end Go.Proofs.YtnjlkhhcfiedbaaGreatDoor.Stab
namespace Go.Proofs.YtnjlkhhcfiedbaaGreatDoor.Stab
open Go.Shelf Go.RowKit Go.Lib Go.Sort
variable {P:Program} {α:Type} [Inhabited α]
set_option maxHeartbeats 8000000 in
set_option maxRecDepth 1000000 in
theorem symMerge_any (k:Nat) (L:Lay P k) (enc:α→List Value) (cf:α→α→Int) (hO:SWO (ltOf cf)) (g:Nat) (cb:Array Value) (blk off cap:Nat) (d0:Array α) (w0:World)
  (eg:∀ args w,(callFunc g args).run P w=.ok (.enter g args) w) (hcmp:CmpLays P g cb enc k cf blk off d0.size w0) (R:RowK enc k w0 blk off d0) (hsz:d0.size<1000000) :
  ∀ (nn a m b:Nat) (d:Array α) (w:World),b - a≤nn→d0.size=d.size→SWK enc k w0 blk off d w→a<m→m<b→b≤d.size→SortedIn (ltOf cf) a m d→SortedIn (ltOf cf) m b d →
  Calls P 176 #[.slice (some ⟨blk,off,none⟩) d.size cap,.int .i64 a,.int .i64 m,.int .i64 b,.func (.func g) #[] cb] w fun e w'=>e=.returned (.tuple #[]) ∧
   ∃ d',SWK enc k w0 blk off d' w'∧PermIn a b d d'∧SortedIn (ltOf cf) a b d':=by
 intro nn
 induction nn with
 | zero=>intros;omega
 | succ nn ih =>
 intro a m b d w hnn hs S ham hmb hb s1 s2
 by_cases hm:m=a+1
 ·exact symLeft_any k L enc cf hO g cb blk off cap a m b d0 d w0 w eg (hs ▸ hcmp) R hs S ham hmb hb (by omega) s2 hm
 by_cases hm2:b=m+1
 ·exact symRight_any k L enc cf hO g cb blk off cap a m b d0 d w0 w eg (hs ▸ hcmp) R hs S hmb hb (by omega) s1 hm2 (by omega)
 have IH:=Lib.hid ih
 have ROT:=Lib.hid (fun (x y z:Nat) (dk:Array α) (wr:World) (S:SWK enc k w0 blk off dk wr) (hds:d0.size=dk.size) (h1:x<y) (h2:y<z) (h3:z≤dk.size)=>rotate_any k L enc (.func (.func g) #[] cb) blk off cap x y z d0 dk w0 wr R hds S h1 h2 h3 (by omega))
 have mixed:=L.mixed;have t0:=L.t0;have a0:=L.a0;have z0:=L.z0;have v0:=L.v0;have t3:=L.t3;have a3:=L.a3;have z3:=L.z3;have v3:=L.v3;have t4:=L.t4;have a4:=L.a4;have z4:=L.z4;have v4:=L.v4;have t60:=L.t60;have a60:=L.a60;have z60:=L.z60;have v60:=L.v60;have t22:=L.t22;have a22:=L.a22;have z22:=L.z22;have v22:=L.v22;have t25:=L.t25;have a25:=L.a25;have z25:=L.z25;have v25:=L.v25;have aE:=L.aE;have zE:=L.zE;have u22:=run_underlying L.t22;have u60:=run_underlying L.t60
 have e116:∀ args w,(callFunc 185 args).run P w=.ok (.enter 185 args) w:=enters_of L.fR (by kernel_rfl) rfl
 have e102:∀ args w,(callFunc 176 args).run P w=.ok (.enter 176 args) w:=enters_of L.fM (by kernel_rfl) rfl
 have S0:Aside (SWK enc k w0 blk off d w):=S
 have HC:Aside (CmpLays P g cb enc k cf blk off d.size w0):=hs ▸ hcmp
 have HS1:Aside _:=s1
 have HS2:Aside _:=s2
 have HN:=Lib.hid hnn
 clear S hcmp s1 s2 ih hnn
 have hm1:a+2≤m:=by omega
 have hm3:m+2≤b:=by omega
 clear hm hm2
 have q1:IntKind.i64.wrap ((m:Int) - (a:Int))=(m:Int) - (a:Int):=by rw[IntKind.wrap_i64];omega
 have q2:((m:Int) - (a:Int) == 1)=false:=by simp;omega
 have q3:IntKind.i64.wrap ((b:Int) - (m:Int))=(b:Int) - (m:Int):=by rw[IntKind.wrap_i64];omega
 have q4:((b:Int) - (m:Int) == 1)=false:=by simp;omega
 have q5:IntKind.i64.wrap ((a:Int)+(b:Int))=(a:Int)+(b:Int):=by rw[IntKind.wrap_i64];omega
 obtain⟨mid,hmid⟩:∃ mid,mid=(a+b) / 2:=⟨_,rfl⟩
 have g1:a<mid:=by omega
 have g2:mid<b:=by omega
 have hz:((a:Int)+(b:Int)) / 2=(mid:Int):=by omega
 have HZ:=Lib.hid hz
 have HMid:=Lib.hid hmid
 have g3:a+b≤2*mid+1:=by omega
 have g4:2*mid≤a+b:=by omega
 clear hz hmid
 go_enter L.fM,Tryz.ntmps176
 go_upto_if 140 with (fail)
 simp only[HZ.out]
 clear HZ
 -- which half the middle lies in
 go_cut [20,21] from 138 to 146 (fun s20 s21 wx=>∃ (st r:Nat),s20=.int .i64 st∧s21=.int .i64 r∧wx=w∧a≤st∧st≤r∧r≤m∧r≤mid∧(st=a∨mid+m=st+b)∧(r=m∨r=mid)∧mid+m≤st+b)
 case first =>
  by_cases hc:(mid:Int)<(m:Int)
  ·have z1:IntKind.i64.wrap ((mid:Int)+(m:Int) - (b:Int))=((mid+m - b:Nat):Int):=by rw[IntKind.wrap_i64];omega
   have z2:((mid:Int)+(m:Int) - (b:Int))=((mid+m - b:Nat):Int):=by omega
   obtain⟨st,hst⟩:∃ st,st=mid+m - b:=⟨_,rfl⟩
   rw[← hst] at z1 z2
   have F:=Lib.hid (show a≤st∧st≤mid∧mid≤m∧mid+m=st+b from by omega)
   clear hst
   go_wp2
   go_meet
   exact⟨st,mid,rfl,rfl,rfl,F.out.1,F.out.2.1,F.out.2.2.1,Nat.le_refl _,.inr F.out.2.2.2,.inr rfl,by have:=F.out.2.2.2;omega⟩
  ·go_wp2
   go_meet
   exact⟨a,m,rfl,rfl,rfl,Nat.le_refl _,by omega,Nat.le_refl _,by omega,.inl rfl,.inl rfl,by omega⟩
 case rest =>
  obtain⟨st,r0,rfl,rfl,rfl,j1,j2,j3,j4,j5,j6,j7⟩:=hcut
  have J5:=Lib.hid j5
  have J6:=Lib.hid j6
  clear j5 j6
  have qp:IntKind.i64.wrap ((mid:Int)+(m:Int) - 1)=(mid:Int)+(m:Int) - 1:=by rw[IntKind.wrap_i64];omega
  go_wp2_with fail
  go_loopg [20,21,23] (r0 - st) (fun kx s20 s21 s23 wr=>∃ (s r:Nat),s20=.int .i64 s∧s21=.int .i64 r∧st≤s∧s≤r∧r≤r0∧r - s≤kx∧Aside (SWK enc k w0 blk off d wr)∧Aside (∀ c,st≤c→c<s→ltOf cf d[mid+m - 1 - c]! d[c]! = false)∧Aside (∀ c,r≤c→c<r0→ltOf cf d[mid+m - 1 - c]! d[c]! = true))
  case atStart=>exact⟨st,r0,rfl,rfl,Nat.le_refl _,j2,Nat.le_refl _,by omega,S0,fun c h1 h2=>by omega,fun c h1 h2=>by omega⟩
  case round =>
   clear S0
   obtain⟨i,j,rfl,rfl,h1,h2,h3,hkx,S1,G1,G2⟩:=hrel
   by_cases hlt:(i:Int)<(j:Int)
   ·have rij:IntKind.i64.wrap ((i:Int)+(j:Int))=(i:Int)+(j:Int):=by rw[IntKind.wrap_i64];omega
    obtain⟨h,hh⟩:∃ h,h=(i+j) / 2:=⟨_,rfl⟩
    have hih:i≤h:=by omega
    have hhj:h<j:=by omega
    go_wp2_with fail
    have hz:((i:Int)+(j:Int)) / 2=(h:Int):=by omega
    simp only[hz]
    clear hz hh
    obtain⟨pc,hpc⟩:∃ pc,pc=mid+m - 1 - h:=⟨_,rfl⟩
    have HPC:=Lib.hid hpc
    have v1:IntKind.i64.wrap ((mid:Int)+(m:Int) - 1 - (h:Int))=(pc:Int):=by rw[IntKind.wrap_i64];omega
    have v2:(mid:Int)+(m:Int) - 1 - (h:Int)=(pc:Int):=by omega
    have v3:pc<b:=by omega
    clear hpc
    cases hL:ltOf cf d[pc]! d[h]! with
    | true =>
     have ea24:((pc:Int)).toNat=pc:=by omega
     have pa24:(0:Int)≤(pc:Int):=by omega
     have ba24:(pc:Int)<(d.size:Int):=by omega
     have ra24:IntKind.i64.wrap ((pc:Int))=(pc:Int):=by rw[IntKind.wrap_i64];omega
     have ec24:((h:Int)).toNat=h:=by omega
     have pc24:(0:Int)≤(h:Int):=by omega
     have bc24:(h:Int)<(d.size:Int):=by omega
     have rc24:IntKind.i64.wrap ((h:Int))=(h:Int):=by rw[IntKind.wrap_i64];omega
     obtain⟨x24,hx24⟩:∃ x,x=d[pc]!:=⟨_,rfl⟩
     obtain⟨y24,hy24⟩:∃ x,x=d[h]!:=⟨_,rfl⟩
     have l24a:=S1.out.ld R (by omega) P (pc) (by omega)
     have l24b:=S1.out.ld R (by omega) P (h) (by omega)
     rw[← hx24] at l24a
     rw[← hy24] at l24b
     have hc24:=S1.out.cmp HC.out (by omega) x24 y24
     have hd24:decide (cf x24 y24<0)=true:=by rw[hx24,hy24];exact hL
     clear hx24 hy24
     go_wp2_with fail
     go_quiet_grown (first | (go_at_fn g;refine Calls.grown_of (hc24 _ _)))
     have S2:Aside (SWK enc k w0 blk off d (grow (wr.drewN nq) osq)):=S1.out.grown nq osq
     clear l24a l24b hc24 S1
     generalize grow (wr.drewN nq) osq=w2 at S2 ⊢
     clear nq osq
     go_wp2
     go_roundg (h - i)
     case measure=>omega
     case rel =>
      exact⟨i,h,rfl,rfl,h1,hih,by omega,by omega,S2,G1,fun c k1 k2=>search_up hO HS1.out HS2.out (a:=a) (m:=m) (b:=b) (p:=mid+m - 1) (c:=h) (c':=c) (by omega) k1 (by omega) (by omega) (by omega) (by omega) (by rw[← HPC.out];exact hL)⟩
    | false =>
     have ea24:((pc:Int)).toNat=pc:=by omega
     have pa24:(0:Int)≤(pc:Int):=by omega
     have ba24:(pc:Int)<(d.size:Int):=by omega
     have ra24:IntKind.i64.wrap ((pc:Int))=(pc:Int):=by rw[IntKind.wrap_i64];omega
     have ec24:((h:Int)).toNat=h:=by omega
     have pc24:(0:Int)≤(h:Int):=by omega
     have bc24:(h:Int)<(d.size:Int):=by omega
     have rc24:IntKind.i64.wrap ((h:Int))=(h:Int):=by rw[IntKind.wrap_i64];omega
     obtain⟨x24,hx24⟩:∃ x,x=d[pc]!:=⟨_,rfl⟩
     obtain⟨y24,hy24⟩:∃ x,x=d[h]!:=⟨_,rfl⟩
     have l24a:=S1.out.ld R (by omega) P (pc) (by omega)
     have l24b:=S1.out.ld R (by omega) P (h) (by omega)
     rw[← hx24] at l24a
     rw[← hy24] at l24b
     have hc24:=S1.out.cmp HC.out (by omega) x24 y24
     have hd24:decide (cf x24 y24<0)=false:=by rw[hx24,hy24];exact hL
     clear hx24 hy24
     go_wp2_with fail
     go_quiet_grown (first | (go_at_fn g;refine Calls.grown_of (hc24 _ _)))
     have S2:Aside (SWK enc k w0 blk off d (grow (wr.drewN nq) osq)):=S1.out.grown nq osq
     clear l24a l24b hc24 S1
     generalize grow (wr.drewN nq) osq=w2 at S2 ⊢
     clear nq osq
     go_wp2
     go_roundg (j - (h+1))
     case measure=>omega
     case rel =>
      have hL':ltOf cf d[mid+m - 1 - h]! d[h]! = false:=by rw[← HPC.out];exact hL
      refine⟨h+1,j,by go_num,rfl,by omega,by omega,h3,by omega,S2,fun c k1 k2=>?_,G2⟩
      cases hX:ltOf cf d[mid+m - 1 - c]! d[c]! with
      | false=>rfl
      | true=>rw[search_up hO HS1.out HS2.out (a:=a) (m:=m) (b:=b) (p:=mid+m - 1) (c:=c) (c':=h) (by omega) (by omega) (by omega) (by omega) (by omega) (by omega) hX] at hL';cases hL'
   ·obtain rfl:i=j:=by omega
    obtain⟨e,he⟩:∃ e,e=mid+m - i:=⟨_,rfl⟩
    have hc1:i=a∨e=b∨ltOf cf d[e]! d[i - 1]! = false:=by
     rcases Nat.lt_or_eq_of_le h1 with c | c
     ·have:=G1.out (i - 1) (by omega) (by omega)
      rw[show mid+m - 1 - (i - 1)=e by omega] at this
      exact .inr (.inr this)
     ·rcases J5.out with c2 | c2
      ·exact .inl (by omega)
      ·exact .inr (.inl (by omega))
    have hc2:i=m∨e=m∨ltOf cf d[e - 1]! d[i]! = true:=by
     rcases Nat.lt_or_eq_of_le h3 with c | c
     ·have:=G2.out i (Nat.le_refl _) c
      rw[show mid+m - 1 - i=e - 1 by omega] at this
      exact .inr (.inr this)
     ·rcases J6.out with c2 | c2
      ·exact .inl (by omega)
      ·exact .inr (.inl (by omega))
    have H:=Lib.hid (fun (d':Array α) (hr:∀ x,d'[x]! = rotV m (m - i) (e - m) d x)=>halves hO (d':=d') ham hmb (by omega) (by omega) he (by omega) (by omega) HMid.out HS1.out HS2.out hc1 hc2 hr)
    have qe:IntKind.i64.wrap ((mid:Int)+(m:Int) - (i:Int))=(e:Int):=by rw[IntKind.wrap_i64];omega
    have qe2:((mid:Int)+(m:Int) - (i:Int))=(e:Int):=by omega
    have e1:m≤e:=by omega
    have e2:e≤b:=by omega
    have e3:i≤mid:=by omega
    have e4:e+i=mid+m:=by omega
    clear he hc1 hc2 G1 G2 HMid HS1 HS2 J5 J6 HC
    go_upto_region 39 with fail
    obtain⟨bA,hbA⟩:∃ q:Bool,q=decide (((i:Int)<(m:Int))∧((m:Int)<(e:Int))):=⟨_,rfl⟩
    go_cut [185] from 178 to 185 (fun s wx=>s=.bool bA∧wx=wr)
    case first =>
     by_cases k1:(i:Int)<(m:Int)
     ·by_cases k2:(m:Int)<(e:Int)
      ·have F:=Lib.hid (show bA=true from by rw[hbA];exact decide_eq_true ⟨k1,k2⟩)
       clear hbA
       go_wp2
       go_meet
       exact⟨by rw[F.out],rfl⟩
      ·have F:=Lib.hid (show bA=false from by rw[hbA];exact decide_eq_false (fun h=>k2 h.2))
       clear hbA
       go_wp2
       go_meet
       exact⟨by rw[F.out],rfl⟩
     ·have F:=Lib.hid (show bA=false from by rw[hbA];exact decide_eq_false (fun h=>k1 h.1))
      clear hbA
      go_wp2
      go_meet
      exact⟨by rw[F.out],rfl⟩
    case rest =>
    obtain⟨rfl,rfl⟩:=hcut
    rename World=>wr
    have HbA:=Lib.hid hbA
    clear hbA
    go_upto_if 185 with (fail)
    go_cut [] from 185 to 191 (fun wx=>∃ d2,Aside (SWK enc k w0 blk off d2 wx)∧Aside (∀ x,d2[x]! = rotV m (m - i) (e - m) d x)∧Aside (PermIn a b d d2))
    case first =>
     cases bA with
     | true =>
      have hA:=of_decide_eq_true HbA.out.symm
      have r1:i<m:=by omega
      have r2:m<e:=by omega
      clear HbA hA
      go_wp2_with (go_at_fn 185;refine (ROT.out i m e d wr S1.out hs (by omega) (by omega) (by omega)).mono ?_;rintro e1 w1 ⟨rfl,d2,S2,E2,P2⟩)
      have F:=Lib.hid (show Aside (SWK enc k w0 blk off d2 w1)∧Aside (∀ x,d2[x]! = rotV m (m - i) (e - m) d x)∧Aside (PermIn a b d d2) from ⟨S2,E2,permIn_mono _ _ i e a b (by omega) (by omega) (by omega) P2⟩)
      clear S2 E2 P2 S1
      go_wp2
      go_meet
      exact⟨d2,F.out⟩
     | false =>
      have hA:=of_decide_eq_false HbA.out.symm
      have r1:i=m∨e=m:=by omega
      have F:=Lib.hid (show Aside (SWK enc k w0 blk off d wr)∧Aside (∀ x,d[x]! = rotV m (m - i) (e - m) d x)∧Aside (PermIn a b d d) from ⟨S1.out,fun x=>by unfold rotV;rcases r1 with r1 | r1 <;> (repeat' split) <;> first | rfl | (exfalso;omega) | (congr 1;omega),permIn_refl _ _ _⟩)
      clear HbA hA r1 S1
      go_wp2
      go_meet
      exact⟨d,F.out⟩
    case rest =>
    obtain⟨d2,S2,E2,P2⟩:=hcut
    obtain⟨o1,o2,o3,o4,o5⟩:=H.out d2 E2.out
    have O1:=Lib.hid o1
    have O2:=Lib.hid o2
    have O3:=Lib.hid o3
    have O4:=Lib.hid o4
    have O5:=Lib.hid o5
    have hd2:d0.size=d2.size:=hs.trans P2.out.1.symm
    clear o1 o2 o3 o4 o5 H S1 E2 HbA bA
    rename World=>wr2
    go_upto_region 41 with fail
    obtain⟨bB,hbB⟩:∃ q:Bool,q=decide (((a:Int)<(i:Int))∧((i:Int)<(mid:Int))):=⟨_,rfl⟩
    go_cut [199] from 192 to 199 (fun s wx=>s=.bool bB∧wx=wr2)
    case first =>
     by_cases k1:(a:Int)<(i:Int)
     ·by_cases k2:(i:Int)<(mid:Int)
      ·have F:=Lib.hid (show bB=true from by rw[hbB];exact decide_eq_true ⟨k1,k2⟩)
       clear hbB
       go_wp2
       go_meet
       exact⟨by rw[F.out],rfl⟩
      ·have F:=Lib.hid (show bB=false from by rw[hbB];exact decide_eq_false (fun h=>k2 h.2))
       clear hbB
       go_wp2
       go_meet
       exact⟨by rw[F.out],rfl⟩
     ·have F:=Lib.hid (show bB=false from by rw[hbB];exact decide_eq_false (fun h=>k1 h.1))
      clear hbB
      go_wp2
      go_meet
      exact⟨by rw[F.out],rfl⟩
    case rest =>
    obtain⟨rfl,rfl⟩:=hcut
    rename World=>wr2
    have HbB:=Lib.hid hbB
    clear hbB
    go_upto_if 199 with (fail)
    go_cut [] from 199 to 205 (fun wx=>∃ d3,Aside (SWK enc k w0 blk off d3 wx)∧Aside (PermIn a mid d2 d3)∧Aside (SortedIn (ltOf cf) a mid d3))
    case first =>
     cases bB with
     | true =>
      have hA:=of_decide_eq_true HbB.out.symm
      have r1:a<i:=by omega
      have r2:i<mid:=by omega
      have hcall:=IH.out a i mid d2 wr2 (by have:=HN.out;omega) hd2 S2.out r1 r2 (by omega) O1.out O2.out
      rw[← hd2,hs] at hcall
      clear HbB hA
      go_wp2_with (go_at_fn 176;refine hcall.mono ?_;rintro e1 w1 ⟨rfl,d3,S3,P3,E3⟩)
      have F:=Lib.hid (show Aside (SWK enc k w0 blk off d3 w1)∧Aside (PermIn a mid d2 d3)∧Aside (SortedIn (ltOf cf) a mid d3) from ⟨S3,P3,E3⟩)
      clear S3 E3 P3 S2 hcall
      go_wp2
      go_meet
      exact⟨d3,F.out⟩
     | false =>
      have hA:=of_decide_eq_false HbB.out.symm
      have r1:i=a∨i=mid:=by omega
      have F:=Lib.hid (show Aside (SWK enc k w0 blk off d2 wr2)∧Aside (PermIn a mid d2 d2)∧Aside (SortedIn (ltOf cf) a mid d2) from ⟨S2.out,permIn_refl _ _ _,by rcases r1 with r1 | r1;(rw[← r1];exact O2.out);(rw[← r1];exact O1.out)⟩)
      clear HbB hA r1 S2
      go_wp2
      go_meet
      exact⟨d2,F.out⟩
    case rest =>
    obtain⟨d3,S3,P3,E3⟩:=hcut
    have hd3:d0.size=d3.size:=hd2.trans P3.out.1.symm
    have kp:∀ x,mid≤x→d3[x]! = d2[x]!:=fun x hx=>P3.out.2.1 x (.inr hx)
    have O3':=Lib.hid (show SortedIn (ltOf cf) mid e d3 from fun p q k1 k2 k3=>by rw[kp p k1,kp q (by omega)];exact O3.out p q k1 k2 k3)
    have O4':=Lib.hid (show SortedIn (ltOf cf) e b d3 from fun p q k1 k2 k3=>by rw[kp p (by omega),kp q (by omega)];exact O4.out p q k1 k2 k3)
    have FIN:=Lib.hid (fun (d4:Array α) (p4:PermIn mid b d3 d4) (s4:SortedIn (ltOf cf) mid b d4)=>(show PermIn a b d d4∧SortedIn (ltOf cf) a b d4 from
     ⟨permIn_trans _ _ _ _ _ P2.out (permIn_trans _ _ _ _ _ (permIn_mono _ _ a mid a b (by omega) (by omega) (by omega) P3.out) (permIn_mono _ _ mid b a b (by omega) (by omega) (by omega) p4)),both a mid b (d1:=d2) (by omega) O5.out P3.out p4 E3.out s4⟩))
    clear kp O1 O2 O3 O4 O5 S2 P2 P3 E3 HbB bB
    rename World=>wr3
    go_upto_region 43 with fail
    obtain⟨bC,hbC⟩:∃ q:Bool,q=decide (((mid:Int)<(e:Int))∧((e:Int)<(b:Int))):=⟨_,rfl⟩
    go_cut [213] from 206 to 213 (fun s wx=>s=.bool bC∧wx=wr3)
    case first =>
     by_cases k1:(mid:Int)<(e:Int)
     ·by_cases k2:(e:Int)<(b:Int)
      ·have F:=Lib.hid (show bC=true from by rw[hbC];exact decide_eq_true ⟨k1,k2⟩)
       clear hbC
       go_wp2
       go_meet
       exact⟨by rw[F.out],rfl⟩
      ·have F:=Lib.hid (show bC=false from by rw[hbC];exact decide_eq_false (fun h=>k2 h.2))
       clear hbC
       go_wp2
       go_meet
       exact⟨by rw[F.out],rfl⟩
     ·have F:=Lib.hid (show bC=false from by rw[hbC];exact decide_eq_false (fun h=>k1 h.1))
      clear hbC
      go_wp2
      go_meet
      exact⟨by rw[F.out],rfl⟩
    case rest =>
    obtain⟨rfl,rfl⟩:=hcut
    rename World=>wr3
    have HbC:=Lib.hid hbC
    clear hbC
    cases bC with
    | true =>
     have hA:=of_decide_eq_true HbC.out.symm
     have r1:mid<e:=by omega
     have r2:e<b:=by omega
     have hcall:=IH.out mid e b d3 wr3 (by have:=HN.out;omega) hd3 S3.out r1 r2 (by omega) O3'.out O4'.out
     rw[← hd3,hs] at hcall
     clear HbC hA
     go_wp2_with (go_at_fn 176;refine hcall.mono ?_;rintro e1 w1 ⟨rfl,d4,S4,P4,E4⟩)
     go_end0
     exact⟨rfl,d4,S4,FIN.out d4 P4 E4⟩
    | false =>
     have hA:=of_decide_eq_false HbC.out.symm
     have r1:mid=e∨e=b:=by omega
     have F:=Lib.hid (show SortedIn (ltOf cf) mid b d3 from by rcases r1 with r1 | r1;(rw[r1];exact O4'.out);(rw[← r1];exact O3'.out))
     clear HbC hA r1
     go_wp2
     go_end0
     exact⟨rfl,d3,S3.out,FIN.out d3 (permIn_refl _ _ _) F.out⟩
end Go.Proofs.YtnjlkhhcfiedbaaGreatDoor.Stab
namespace Go.Proofs.YtnjlkhhcfiedbaaGreatDoor.Stab
open Go.Shelf Go.RowKit Go.Lib Go.Sort
def insL_ren:Go.Shelf.Ren:=⟨fun | 20 => 139 | n=>n,fun | 3 => 3 | 4 => 4 | 22 => 31 | 24 => 46 | 25 => 96 | n=>n,fun | n=>n⟩
theorem insL:Go.Proofs.SlLaysF0.n20 Tryz.prog insL_ren:={
 mixed:=by kernel_rfl
 f20:=⟨Tryz.f139.name,by decide,Tryz.func139.trans (congrArg some (by kernel_rfl))⟩
 t0:=Tryz.underlying0
 a0:=Tryz.isAgg0
 z0:=Tryz.sizeOf0
 v0:=Tryz.zeroValue0
 t3:=Tryz.underlying3
 a3:=Tryz.isAgg3
 z3:=Tryz.sizeOf3
 v3:=Tryz.zeroValue3
 t4:=Tryz.underlying4
 a4:=Tryz.isAgg4
 z4:=Tryz.sizeOf4
 v4:=Tryz.zeroValue4
 t22:=Tryz.underlying31
 a22:=Tryz.isAgg31
 z22:=Tryz.sizeOf31
 v22:=Tryz.zeroValue31
 t25:=Tryz.underlying96
 a25:=Tryz.isAgg96
 z25:=Tryz.sizeOf96
 v25:=Tryz.zeroValue96 }
variable {P:Program} {α:Type} [Inhabited α]
theorem cmpLays_at {g:Nat} {cb:Array Value} {enc:α→List Value} {k:Nat} {cf:α→α→Int} {blk off size:Nat} {w0 w:World} {d:Array α} (h:CmpLays P g cb enc k cf blk off size w0) (hS:SWK enc k w0 blk off d w) (hblk:blk<w0.heap.size) (hs:d.size=size):CmpLays P g cb enc k cf blk off size w:=fun m os dk hd x y=>by
 obtain⟨n,os',e⟩:=hS.on hblk m dk os (hd.trans hs.symm)
 rw[e]
 exact h n os' dk hd x y
theorem ins_at (enc:α→List Value) (cf:α→α→Int) (hO:SWO (ltOf cf)) (g:Nat) (cb:Array Value) (blk off cap a b:Nat) (d0 d:Array α) (w0 w:World)
  (eg:∀ args w,(callFunc g args).run Tryz.prog w=.ok (.enter g args) w) (hcmp:CmpLays Tryz.prog g cb enc 5 cf blk off d0.size w0) (R:RowK enc 5 w0 blk off d0) (hs:d0.size=d.size) (S:SWK enc 5 w0 blk off d w) (hab:a≤b) (hb:b≤d.size) (hsz:d0.size<1000000) :
  Calls Tryz.prog 139 #[.slice (some ⟨blk,off,none⟩) d.size cap,.int .i64 a,.int .i64 b,.func (.func g) #[] cb] w fun e w'=>e=.returned (.tuple #[]) ∧
   ∃ d',SWK enc 5 w0 blk off d' w'∧PermIn a b d d'∧SortedIn (ltOf cf) a b d' :=
 (AnyQ.insertionSortCmpFunc (P:=Tryz.prog) (ρ:=insL_ren) insL 5 Tryz.isAgg46 Tryz.sizeOf46 enc R.hk R.h1 cf g cb blk off cap a b d w eg (hs ▸ cmpLays_at hcmp S R.hblk hs.symm) (S.holds R.hblk R.hH hs.symm) (S.lt R.hblk) hab hb (by omega)).mono fun _ _ ⟨he,n,os,hw⟩ =>
  have h:=insertionSort_holds hO d a b hab hb
  ⟨he,_,hw ▸ S.on R.hblk n _ os h.1.1,h.1,h.2⟩
set_option maxHeartbeats 8000000 in
set_option maxRecDepth 1000000 in
theorem stable_gen (k:Nat) (L:Lay P k) (enc:α→List Value) (cf:α→α→Int) (hO:SWO (ltOf cf)) (g:Nat) (cb:Array Value) (blk off cap:Nat) (d0 d:Array α) (w0 w:World)
  (eg:∀ args w,(callFunc g args).run P w=.ok (.enter g args) w) (hcmp:CmpLays P g cb enc k cf blk off d0.size w0) (R:RowK enc k w0 blk off d0) (hs:d0.size=d.size) (S:SWK enc k w0 blk off d w) (hsz:d.size≤60)
  (hI:∀ (a b:Nat) (dk:Array α) (wr:World),d0.size=dk.size→SWK enc k w0 blk off dk wr→a≤b→b≤dk.size→Calls P 139 #[.slice (some ⟨blk,off,none⟩) dk.size cap,.int .i64 a,.int .i64 b,.func (.func g) #[] cb] wr fun e w'=>e=.returned (.tuple #[]) ∧
   ∃ d',SWK enc k w0 blk off d' w'∧PermIn a b dk d'∧SortedIn (ltOf cf) a b d') :
  Calls P 158 #[.slice (some ⟨blk,off,none⟩) d.size cap,.int .i64 d.size,.func (.func g) #[] cb] w fun e w'=>e=.returned (.tuple #[]) ∧
   ∃ d',SWK enc k w0 blk off d' w'∧PermIn 0 d.size d d'∧SortedIn (ltOf cf) 0 d.size d':=by
 have HI:=Lib.hid hI
 have HM:=Lib.hid (fun (a m b:Nat) (dk:Array α) (wr:World) (h0:d0.size=dk.size) (h1:SWK enc k w0 blk off dk wr) (h2:a<m) (h3:m<b) (h4:b≤dk.size) (h5:SortedIn (ltOf cf) a m dk) (h6:SortedIn (ltOf cf) m b dk) =>
  symMerge_any k L enc cf hO g cb blk off cap d0 w0 eg hcmp R (by omega) (b - a) a m b dk wr (Nat.le_refl _) h0 h1 h2 h3 h4 h5 h6)
 have mixed:=L.mixed;have t0:=L.t0;have a0:=L.a0;have z0:=L.z0;have v0:=L.v0;have t3:=L.t3;have a3:=L.a3;have z3:=L.z3;have v3:=L.v3;have t4:=L.t4;have a4:=L.a4;have z4:=L.z4;have v4:=L.v4;have t60:=L.t60;have a60:=L.a60;have z60:=L.z60;have v60:=L.v60;have t22:=L.t22;have a22:=L.a22;have z22:=L.z22;have v22:=L.v22;have t25:=L.t25;have a25:=L.a25;have z25:=L.z25;have v25:=L.v25;have aE:=L.aE;have zE:=L.zE;have u22:=run_underlying L.t22;have u60:=run_underlying L.t60
 have e101:∀ args w,(callFunc 139 args).run P w=.ok (.enter 139 args) w:=enters_of L.fI (by kernel_rfl) rfl
 have e102:∀ args w,(callFunc 176 args).run P w=.ok (.enter 176 args) w:=enters_of L.fM (by kernel_rfl) rfl
 have S0:Aside (SWK enc k w0 blk off d w):=S
 clear S hcmp hI
 obtain⟨n,hn⟩:∃ n,n=d.size:=⟨_,rfl⟩
 rw[← hn] at hsz ⊢
 have hn1:n≤d.size:=by omega
 have hn2:d.size≤n:=by omega
 clear hn
 go_enter L.fS,Tryz.ntmps158
 go_wp2_with fail
 -- blocks of 20
 go_loopg [7,8] n (fun kx s7 s8 wr=>∃ (t:Nat) (dk:Array α),s7=.int .i64 (20*(t:Int))∧s8=.int .i64 (20*(t:Int)+20)∧20*t≤n∧n - 20*t≤kx∧d0.size=dk.size∧Aside (SWK enc k w0 blk off dk wr)∧Aside (PermIn 0 n d dk)∧Aside (∀ j,j<t→SortedIn (ltOf cf) (20*j) (20*j+20) dk))
 case atStart=>exact⟨0,d,rfl,rfl,by omega,by omega,hs,S0,permIn_refl _ _ _,fun j hj=>by omega⟩
 case round =>
  clear S0
  obtain⟨t,dk,rfl,rfl,ht,hkx,hds,S1,P1,B1⟩:=hrel
  have hdn:dk.size=n:=by omega
  by_cases hlt:20*(t:Int)+20≤(n:Int)
  ·have hc:=HI.out (20*t) (20*t+20) dk wr hds S1.out (by omega) (by omega)
   rw[hdn] at hc
   push_cast at hc
   have r1:IntKind.i64.wrap (20*(t:Int)+20+20)=20*(t:Int)+20+20:=by rw[IntKind.wrap_i64];omega
   go_wp2_with (go_at_fn 139;refine hc.mono ?_;rintro e w1 ⟨rfl,d2,S2,P2,E2⟩)
   have F:=Lib.hid (show d0.size=d2.size∧Aside (SWK enc k w0 blk off d2 w1)∧Aside (PermIn 0 n d d2)∧Aside (∀ j,j<t+1→SortedIn (ltOf cf) (20*j) (20*j+20) d2) from by
    refine⟨hds.trans P2.1.symm,S2,permIn_trans _ _ _ _ _ P1.out (permIn_mono _ _ (20*t) (20*t+20) 0 n (by omega) (by omega) (by omega) P2),fun j hj=>?_⟩
    rcases Nat.lt_or_ge j t with c | c
    ·intro p q k1 k2 k3
     rw[P2.2.1 p (.inl (by omega)),P2.2.1 q (.inl (by omega))]
     exact B1.out j c p q k1 k2 k3
    ·obtain rfl:j=t:=by omega
     exact E2)
   clear S2 P2 E2 S1 P1 B1 hc
   go_wp2
   go_roundg (n - (20*t+20))
   case measure=>omega
   case rel=>exact⟨t+1,d2,by go_num,by go_num,by omega,by omega,F.out⟩
  ·have hc:=HI.out (20*t) n dk wr hds S1.out (by omega) (by omega)
   rw[hdn] at hc
   push_cast at hc
   go_wp2_with (go_at_fn 139;refine hc.mono ?_;rintro e w1 ⟨rfl,d2,S2,P2,E2⟩)
   have F:=Lib.hid (show d0.size=d2.size∧Aside (SWK enc k w0 blk off d2 w1)∧Aside (PermIn 0 n d d2)∧Aside (∀ j,SortedIn (ltOf cf) (20*j) (min (20*j+20) n) d2) from by
    refine⟨hds.trans P2.1.symm,S2,permIn_trans _ _ _ _ _ P1.out (permIn_mono _ _ (20*t) n 0 n (by omega) (by omega) (by omega) P2),fun j=>?_⟩
    rcases Nat.lt_or_ge j t with c | c
    ·intro p q k1 k2 k3
     rw[P2.2.1 p (.inl (by omega)),P2.2.1 q (.inl (by omega))]
     exact B1.out j c p q k1 k2 (by omega)
    ·intro p q k1 k2 k3
     exact E2 p q (by omega) k2 (by omega))
   clear S2 P2 E2 S1 P1 B1 hc
   go_wp2_with fail
   go_loopg [6,7,8,9] (100 - 20) (fun kx s6 s7 s8 s9 wr=>∃ (bs:Nat) (dk:Array α),s6=.int .i64 bs∧(bs=20∨bs=40∨bs=80)∧100 - bs≤kx∧d0.size=dk.size∧Aside (SWK enc k w0 blk off dk wr)∧Aside (PermIn 0 n d dk)∧Aside (∀ j,SortedIn (ltOf cf) (bs*j) (min (bs*j+bs) n) dk))
   case atStart=>exact⟨20,d2,rfl,.inl rfl,by omega,F.out.1,F.out.2.1,F.out.2.2.1,F.out.2.2.2⟩
   case round =>
    clear F
    obtain⟨bs,dk,rfl,hbs,hkx,hds,S1,P1,B1⟩:=hrel
    have hdn:dk.size=n:=by omega
    by_cases hlt2:(bs:Int)<(n:Int)
    ·have hb8:bs=20∨bs=40:=by omega
     have b0:=B1.out 0
     have b1:=B1.out 1
     have b2:=B1.out 2
     rcases hb8 with rfl | rfl
     ·clear hbs
      rcases Nat.lt_or_ge n 40 with c | c
      ·have hc:=HM.out 0 20 n dk wr hds S1.out (by omega) (by omega) (by omega) (by intro p q k1 k2 k3;exact b0 p q (by omega) k2 (by omega)) (by intro p q k1 k2 k3;exact b1 p q (by omega) k2 (by omega))
       rw[hdn] at hc
       have c1:decide ((40:Int)≤(n:Int))=false:=by simp;omega
       have c2:decide ((20:Int)<(n:Int))=true:=by simp;omega
       go_wp2_with fail
       refine wp_loop_rounds 1 ?_
       rw[rounds_succ]
       go_wp2_with (go_at_fn 176;refine hc.mono ?_;rintro e w1 ⟨rfl,d3,S3,P3,E3⟩)
       have F:=Lib.hid (show d0.size=d3.size∧Aside (SWK enc k w0 blk off d3 w1)∧Aside (PermIn 0 n d d3)∧Aside (∀ j,SortedIn (ltOf cf) (40*j) (min (40*j+40) n) d3) from
        ⟨hds.trans P3.1.symm,S3,permIn_trans _ _ _ _ _ P1.out P3,fun j p q k1 k2 k3=>E3 p q (by omega) k2 (by omega)⟩)
       clear S3 P3 E3 S1 P1 B1 hc b0 b1 b2
       go_wp2
       go_roundg (100 - 40)
       case measure=>omega
       case rel=>exact⟨40,d3,by go_num,.inr (.inl rfl),by omega,F.out⟩
      ·have hc:=HM.out 0 20 40 dk wr hds S1.out (by omega) (by omega) (by omega) (by intro p q k1 k2 k3;exact b0 p q (by omega) k2 (by omega)) (by intro p q k1 k2 k3;exact b1 p q (by omega) k2 (by omega))
       rw[hdn] at hc
       have c1:decide ((40:Int)≤(n:Int))=true:=by simp;omega
       have c2:decide ((80:Int)≤(n:Int))=false:=by simp;omega
       have c3:decide ((60:Int)<(n:Int))=false:=by simp;omega
       go_wp2_with fail
       refine wp_loop_rounds 2 ?_
       rw[rounds_succ]
       go_wp2_with (go_at_fn 176;refine hc.mono ?_;rintro e w1 ⟨rfl,d3,S3,P3,E3⟩)
       have F:=Lib.hid (show d0.size=d3.size∧Aside (SWK enc k w0 blk off d3 w1)∧Aside (PermIn 0 n d d3)∧Aside (∀ j,SortedIn (ltOf cf) (40*j) (min (40*j+40) n) d3) from
        ⟨hds.trans P3.1.symm,S3,permIn_trans _ _ _ _ _ P1.out (permIn_mono _ _ 0 40 0 n (by omega) (by omega) (by omega) P3),fun j p q k1 k2 k3=>by
         rcases Nat.lt_or_ge p 40 with g | g
         ·exact E3 p q (by omega) k2 (by omega)
         ·rw[P3.2.1 p (.inr g),P3.2.1 q (.inr (by omega))]
          exact b2 p q (by omega) k2 (by omega)⟩)
       clear S3 P3 E3 S1 P1 B1 hc b0 b1 b2
       rw[rounds_succ]
       go_wp2
       go_roundg (100 - 40)
       case measure=>omega
       case rel=>exact⟨40,d3,by go_num,.inr (.inl rfl),by omega,F.out⟩
     ·have hc:=HM.out 0 40 n dk wr hds S1.out (by omega) (by omega) (by omega) (by intro p q k1 k2 k3;exact b0 p q (by omega) k2 (by omega)) (by intro p q k1 k2 k3;exact b1 p q (by omega) k2 (by omega))
      rw[hdn] at hc
      have c1:decide ((80:Int)≤(n:Int))=false:=by simp;omega
      have c2:decide ((40:Int)<(n:Int))=true:=by simp;omega
      go_wp2_with fail
      refine wp_loop_rounds 1 ?_
      rw[rounds_succ]
      go_wp2_with (go_at_fn 176;refine hc.mono ?_;rintro e w1 ⟨rfl,d3,S3,P3,E3⟩)
      have F:=Lib.hid (show d0.size=d3.size∧Aside (SWK enc k w0 blk off d3 w1)∧Aside (PermIn 0 n d d3)∧Aside (∀ j,SortedIn (ltOf cf) (80*j) (min (80*j+80) n) d3) from
       ⟨hds.trans P3.1.symm,S3,permIn_trans _ _ _ _ _ P1.out P3,fun j p q k1 k2 k3=>E3 p q (by omega) k2 (by omega)⟩)
      clear S3 P3 E3 S1 P1 B1 hc b0 b1 b2
      go_wp2
      go_roundg (100 - 80)
      case measure=>omega
      case rel=>exact⟨80,d3,by go_num,.inr (.inr rfl),by omega,F.out⟩
    ·have F:=Lib.hid (show SortedIn (ltOf cf) 0 n dk from by
      intro p q k1 k2 k3
      exact B1.out 0 p q (by omega) k2 (by omega))
     go_wp2
     go_end0
     exact⟨rfl,dk,S1.out,P1.out,F.out⟩
end Go.Proofs.YtnjlkhhcfiedbaaGreatDoor.Stab

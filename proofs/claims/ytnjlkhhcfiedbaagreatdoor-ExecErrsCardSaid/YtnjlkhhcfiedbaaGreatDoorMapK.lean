import Derived.IntWalk
import Derived.Maps.OwnSet
import Derived.Maps.OwnIn
import Derived.StringKeys
import Derived.Test.YtnjlkhhcfiedbaaGreatDoorSl
import Derived.Test.YtnjlkhhcfiedbaaGreatDoorText
import Derived.Test.YtnjlkhhcfiedbaaGreatDoorRegP
import Derived.Test.YtnjlkhhcfiedbaaGreatDoorExQ
namespace Go.Proofs.YtnjlkhhcfiedbaaGreatDoor
open Go.RowKit Go.Shelf
attribute [local go_sem] Oper.semAt_some
theorem at5 {w:World} {ad:Addr} {vs:List V5} {i:Nat} {v:V5} (hv:vs[i]? = some v) (hc:∀ j u,(flatV vs)[j]? = some u→w.cell? (ad.add j)=some u):w.cell? (ad.add (i*5))=some v.a∧w.cell? ⟨(ad.add (i*5)).block,(ad.add (i*5)).off+1,none⟩=some v.b∧w.cell? ⟨(ad.add (i*5)).block,(ad.add (i*5)).off+2,none⟩=some v.c∧w.cell? ⟨(ad.add (i*5)).block,(ad.add (i*5)).off+3,none⟩=some v.d∧w.cell? ⟨(ad.add (i*5)).block,(ad.add (i*5)).off+4,none⟩=some v.e:=by
 obtain⟨f0,f1,f2,f3,f4⟩:=flatV_five hv
 have o:∀ k u,0<k→w.cell? ((ad.add (i*5)).add k)=some u→w.cell? ⟨(ad.add (i*5)).block,(ad.add (i*5)).off+k,none⟩=some u:=fun k u hk h=>by
  rwa [show (ad.add (i*5)).add k=⟨(ad.add (i*5)).block,(ad.add (i*5)).off+k,none⟩ from by rw[Addr.add,if_neg (by omega)]] at h
 have q:∀ k u,(flatV vs)[i*5+k]? = some u→w.cell? ((ad.add (i*5)).add k)=some u:=fun k u h=>by
  rw[add_of_add];exact hc _ u h
 exact⟨hc _ _ f0,o 1 _ (by omega) (q 1 _ f1),o 2 _ (by omega) (q 2 _ f2),o 3 _ (by omega) (q 3 _ f3),o 4 _ (by omega) (q 4 _ f4)⟩
def noP (Q:Exit→Act→World→Prop):Exit→Act→World→Prop
 | .panic _,_,_=>False
 | e,a,w=>Q e a w
theorem noP_le {Q:Exit→Act→World→Prop}:∀ {e:Exit} {a:Act} {w:World},noP Q e a w→Q e a w:=by
 intro e a w h
 cases e <;> first | exact h | exact h.elim
theorem noP_normal {Q:Exit→Act→World→Prop} {a:Act} {w:World} (h:Q .normal a w):noP Q .normal a w:=h
theorem region_NJ {F:Fence} {n:Nat} {P:Program} {ops:Array Oper} {Q:Exit→Act→World→Prop} {id:Nat} {a:Act} {w:World} (S:World→Prop) (kill:List Nat) (hm:P.follows .mixedOrders=true) (hS:S w.drew) (h:S w.drew→anyN F n P .any ops (noP Q) S kill ops.size (Array.replicate ops.size false) a w.drew):(Code.region id ops true).wpIn F n P Q a w :=
 wpIn_mono (region_N S kill hm hS h) fun _ _ _ h=>noP_le h
def encK (x:V5 × Cel):Array Value:=#[.string (strOf (textI x.2.key)),.agg #[x.1.a,x.1.b,x.1.c,x.1.d,x.1.e]]
set_option maxRecDepth 100000 in
set_option maxHeartbeats 4000000 in
theorem keyed_in {σ:Type} (n l bk:Nat) (_hn:1≤n) (A:Option Addr) (c N:Nat) (D:List (V5 × Cel)) (w0 W:World) (hN:N=D.length) (hN1:N≤1000)
  (hD:∀ x ∈ D,Reads w0 x.1 x.2∧(∀ v ∈ x.2.key,0≤v∧v≤15)∧x.2.key.length≤1000)
  (hcv:0<N→∃ ad,A=some ad∧∀ j u,(flatV (D.map (·.1)))[j]? = some u→w0.cell? (ad.add j)=some u)
  (J:List (V5 × Cel)→σ→World→Prop) (hJr:∀ pre s X,J pre s X→Below w0.heap.size w0 X) (hst:∀ pre s X Y,J pre s X→Below X.heap.size X Y→J pre s Y)
  (hY:∀ pre s x W1,J pre s W1→pre=D.take pre.length→D[pre.length]? = some x→YieldAt Fence.wide (n - 1) Tryz.prog l (encK x) W1 fun e W'=>e=.returned (.bool true)∧∃ s',J (pre ++ [x]) s' W')
  (hbk:W.cell? ⟨bk,0,none⟩=some (.slice A N c)) (s0:σ) (h0:J [] s0 W) :
  CallsIn Fence.wide n Tryz.prog 86 #[.func (.yield l) #[] #[],.pointer (some ⟨bk,0,none⟩)] W fun e W'=>(∃ v,e=.returned v)∧∃ s,J D s W':=by
 have HD:=Lib.hid hD
 have HCV:=Lib.hid hcv
 have HJR:=Lib.hid hJr
 have HST:=Lib.hid hst
 have HY:=Lib.hid hY
 have HN:=Lib.hid hN
 clear hD hcv hJr hst hY hN
 refine callsIn_of_wp Tryz.func86 rfl trivial ?_ rfl
 simp only[Tryz.ntmps86,List.size_toArray,List.length_cons,List.length_nil,Nat.reduceAdd,Nat.reduceSub,Array.replicate_succ,Array.replicate_zero,List.push_toArray,List.append_toArray,List.nil_append,List.cons_append]
 gi_wp2
 gi_loopw [7] (fun p wr=>∃ (i:Nat) (s:σ),p=.int .i64 i∧i≤N∧J (D.take i) s wr) (fun p _=>N - (intOf p).toNat)
 case atStart=>exact⟨0,s0,rfl,Nat.zero_le _,by rw[List.take_zero];exact h0⟩
 case round =>
  obtain⟨i,s,rfl,hi,hJ⟩:=hrel
  rename World=>wr
  clear hbk h0
  by_cases hlt:i<N
  ·have i0:(0:Int)≤(i:Int):=by omega
   have i1:(i:Int)<(N:Int):=by omega
   have d1:decide ((i:Int)<(N:Int))=true:=decide_eq_true i1
   obtain⟨x,hx⟩:∃ x,D[i]? = some x:=⟨_,List.getElem?_eq_getElem (by rw[← HN.out];exact hlt)⟩
   obtain⟨hrd,hok,hkl⟩:=HD.out x (List.mem_of_getElem? hx)
   obtain⟨ad,rfl,hcv⟩:=HCV.out (by omega)
   have hx1:(D.map (·.1))[i]? = some x.1:=by rw[List.getElem?_map,hx];rfl
   have hbr:=HJR.out _ _ _ hJ
   have hk0:Keeps w0 wr:=Keeps.of_below hbr
   obtain⟨r0,r1,r2,r3,r4⟩:=at5 hx1 hcv
   obtain⟨hb1,hcr,hck⟩:=hrd
   have HRK:=Lib.hid (hcr.key.keep hk0)
   have htk:D.take (i+1)=D.take i ++ [x]:=by rw[List.take_add_one,hx,Option.toList_some]
   have hil:(D.take i).length=i:=by rw[List.length_take,← HN.out];omega
   have HYx:=Lib.hid (fun W1 h=>HY.out (D.take i) s x W1 h (by rw[hil]) (by rw[hil];exact hx))
   have p0:=hk0 _ _ r0
   have p1:=hk0 _ _ r1
   have p2:=hk0 _ _ r2
   have p3:=hk0 _ _ r3
   have p4:=hk0 _ _ r4
   obtain⟨⟨ua,ub,uc,ud,ue⟩,y⟩:=x
   dsimp only at hb1 hcr p0 p1 p2 p3 p4 hok hkl HRK
   obtain⟨P1,q1,e1,nk,-⟩:=hcr.key
   obtain⟨P2,q2,e2,-⟩:=hcr.sum
   obtain⟨P3,q3,e3,-⟩:=hcr.mn
   obtain⟨P4,q4,e4,-⟩:=hcr.mx
   subst hb1 e1 e2 e3 e4
   have HNK:=Lib.hid (nk.keep hk0)
   obtain⟨lk,hlk⟩:∃ z,z=y.key.length:=⟨_,rfl⟩
   obtain⟨ls,hls⟩:∃ z,z=y.sum.length:=⟨_,rfl⟩
   obtain⟨ln,hln⟩:∃ z,z=y.mn.length:=⟨_,rfl⟩
   obtain⟨lm,hlm⟩:∃ z,z=y.mx.length:=⟨_,rfl⟩
   obtain⟨yc,hyc⟩:∃ z,z=y.cnt:=⟨_,rfl⟩
   rw[← hlk,← hls,← hln,← hlm,← hyc] at HYx
   rw[← hlk,← hls,← hln,← hlm,← hyc] at htk
   have HTK:=Lib.hid htk
   rw[← hlk] at p0 HNK hkl
   rw[← hyc] at p1
   rw[← hls] at p2
   rw[← hln] at p3
   rw[← hlm] at p4
   have HOK:=Lib.hid hok
   have HJ:=Lib.hid hJ
   clear hx hx1 hcv hbr hk0 r0 r1 r2 r3 r4 hcr hck htk hok hJ nk hlk hls hln hlm hyc HRK HY hil
   obtain⟨w4,hw4⟩:∃ z,z=wr.alloc (.cells #[.slice P1 lk q1,.int .i64 yc,.slice P2 ls q2,.slice P3 ln q3,.slice P4 lm q4] 46):=⟨_,rfl⟩
   have o4:Own 46 w4 wr.heap.size [.slice P1 lk q1,.int .i64 yc,.slice P2 ls q2,.slice P3 ln q3,.slice P4 lm q4]:=by rw[hw4];exact heap_alloc_new wr _
   have hb4:Below wr.heap.size wr w4:=by rw[hw4];exact (Below.refl _ _).alloc (Nat.le_refl _) _
   have hb4d:Below wr.heap.size wr w4.drew:=hb4.drew
   have bx4:Bx w4.drew wr.heap.size (.slice P1 lk q1) (.int .i64 yc) (.slice P2 ls q2) (.slice P3 ln q3) (.slice P4 lm q4):=Own.bx o4
   have HTX:=Lib.hid (text_any P1 q1 lk y.key w4.drew (HNK.out.keep (Keeps.of_below hb4d)) HOK.out hkl)
   have HW4:=Lib.hid hw4
   have Hb4:=Lib.hid hb4d
   clear hw4 o4 hb4 hb4d
   gi_wp2_with fail
   rw[← HW4.out]
   refine region_NJ (S:=fun W'=>Bx W' wr.heap.size (.slice P1 lk q1) (.int .i64 yc) (.slice P2 ls q2) (.slice P3 ln q3) (.slice P4 lm q4)) (kill:=[5,6]) (by kernel_rfl) bx4 (fun hHeld=>?_)
   clear bx4 p0 p1 p2 p3 p4
   refine WTN (i:=0) (v:=?vka0) ?yka0 hHeld ?rka0
   case yka0=>(intro W hW;obtain⟨g0,g1,g2,g3,g4⟩:=hW;go_simp;first | done | with_reducible rfl)
   try simp only[SL,Act.put]
   refine WTN (i:=1) (v:=?vka1) ?yka1 hHeld ?rka1
   case yka1=>(intro W hW;obtain⟨g0,g1,g2,g3,g4⟩:=hW;go_simp;first | done | with_reducible rfl)
   try simp only[SL,Act.put]
   refine WTN (i:=2) (v:=?vka2) ?yka2 hHeld ?rka2
   case yka2=>(intro W hW;obtain⟨g0,g1,g2,g3,g4⟩:=hW;go_simp;first | done | with_reducible rfl)
   try simp only[SL,Act.put]
   refine WTN (i:=4) (v:=?vka4) ?yka4 hHeld ?rka4
   case yka4=>(intro W hW;obtain⟨g0,g1,g2,g3,g4⟩:=hW;go_simp;first | done | with_reducible rfl)
   try simp only[SL,Act.put]
   refine anyN_ready (rs:=[3]) (by kernel_rfl) (by simp) ?_
   refine AllN.cons (by kernel_rfl) rfl (by rfl) (fun K hK=>?_) (AllN.nil)
   refine⟨fun _ _=>trivial,?_⟩
   go_simp
   refine (callsIn_wide.2 HTX.out).mono ?_
   rintro e6 w6 ⟨rfl,hb6⟩
   have kp6:=Keeps.of_below hb6
   have Hb6:=Lib.hid (Hb4.out.trans (hb6.mono Hb4.out.size))
   clear hb6
   refine hK.out _ _ (fun _=>hHeld.keep kp6) ?_
   clear hK K
   try simp only[SL,Act.put]
   obtain⟨fn,tmps,assign,body,hy,hR⟩:=HYx.out w6 (HST.out _ _ _ _ HJ.out Hb6.out)
   unfold encK at hy
   dsimp only at hy
   clear HYx HTX kp6 hHeld
   refine anyN_ready (rs:=[5]) (by kernel_rfl) (by simp) ?_
   refine AllN.cons (by kernel_rfl) rfl (by rfl) (fun K hK=>?_) (AllN.nil)
   refine⟨fun _ _=>trivial,?_⟩
   go_simp
   refine hR.mono ?_
   rintro e7 w7 ⟨rfl,s7,hJ7⟩
   rw[← HTK.out] at hJ7
   have HJ7:=Lib.hid hJ7
   clear hJ7 hy hR
   refine hK.out _ _ (fun h=>absurd (by decide) h) ?_
   clear hK K
   try simp only[SL,Act.put]
   refine anyN_late (i:=6) (v:=?vka6) (by kernel_rfl) rfl (by kernel_rfl) (by kernel_rfl) (by kernel_rfl) (by kernel_rfl) (by decide) (fun _ _ _ h=>h) (fun _=>rfl) (Or.inl ⟨by rfl,?yka6⟩) ?rka6
   case yka6=>(intro W hW;go_simp;first | done | with_reducible rfl)
   try simp only[SL,Act.put]
   refine anyN_done (by kernel_rfl) (noP_normal ?_) _
   clear HJ
   gi_wp2
   exact⟨⟨i+1,s7,by go_num,by omega,HJ7.out⟩,by simp[intOf];omega⟩
  ·obtain rfl:i=N:=by omega
   have d1:decide ((i:Int)<(i:Int))=false:=by simp
   have ht:D.take i=D:=List.take_of_length_le (by rw[HN.out];exact Nat.le_refl _)
   rw[ht] at hJ
   have HJ:=Lib.hid (show ∃ s,J D s wr from ⟨s,hJ⟩)
   clear hJ
   gi_wp2
   go_end0
   exact⟨⟨_,rfl⟩,HJ.out⟩
end Go.Proofs.YtnjlkhhcfiedbaaGreatDoor
namespace Go.Proofs.YtnjlkhhcfiedbaaGreatDoor
open Go.RowKit Go.Shelf Go.Maps Go.MapKept Go.ChangeMaps
theorem zero_int (w:World):(zeroValue 3).run Tryz.prog w=.ok (.int .i64 0) w:=by kernel_rfl
def OkV (k:List Int):Prop:=∀ v ∈ k,0≤v∧v≤15
def MX (X:World) (mo:Nat) (ks:List (List Int)):Prop:=∃ n,∃ D:DataW Unit,X.ownsMap Tryz.prog 9 (plainElem Tryz.prog 3) mo n D∧n≤ks.length∧(∀ k,OkV k→Maps.has D (.string (textL k))=decide (k ∈ ks))∧∀ (i:Nat) k,ks[i]? = some k→D.atKey (.string (textL k)) (.lit (.int .i64 0))=.lit (.int .i64 (i:Int))
set_option maxRecDepth 100000
theorem key_lit {k:List Int} (hk:OkV k) (hl:k.length≤1000):keyOf Tryz.prog 9 (.string (strOf (textI k)))=some (.string (textL k)):=by
 have h1:=textI_len k
 have h2:(strOf (textI k)).size=(textI k).length:=by simp[strOf,ByteArray.size]
 rw[WideMaps.keyOf_string_mk Tryz.underlying9 (by simp only[maxLen];omega),strOf_text hk]
theorem MX.made (w:World):MX (w.alloc (.map #[] 0)) w.heap.size []:=⟨0,_,World.ownsMap_made w _ _ _,Nat.le_refl _,fun k _=>rfl,fun i k h=>by simp at h⟩
theorem MX.lt {X:World} {mo:Nat} {ks:List (List Int)} (h:MX X mo ks):mo<X.heap.size:=by
 obtain⟨n,D,h1,-⟩:=h
 exact h1.lt
theorem MX.stay {X Y:World} {mo:Nat} {ks:List (List Int)} (h:MX X mo ks) (hb:Y.heap[mo]? = X.heap[mo]?):MX Y mo ks:=by
 obtain⟨n,D,⟨es,clock,h1,h2⟩,h3⟩:=h
 exact⟨n,D,⟨es,clock,hb.trans h1,h2⟩,h3⟩
theorem MX.look {X:World} {mo:Nat} {ks:List (List Int)} {k:List Int} (h:MX X mo ks) (hk:OkV k) (hl:k.length≤1000):∃ c:Int,(Instr.lookup 117 (.map (some mo)) (.string (strOf (textI k))) true).run Tryz.prog X=.ok (.tuple #[.int .i64 c,.bool (decide (k ∈ ks))]) X∧∀ (i:Nat),ks[i]? = some k→c=(i:Int):=by
 obtain⟨n,D,h1,-,h3,h4⟩:=h
 obtain⟨v,ps,hrun,hv⟩:=h1.look_ok (Maps.string_keyed Tryz.underlying9) Tryz.underlying117 (zero_int X) (plainElem_int Tryz.underlying3 (by decide)) (key_lit hk hl)
 obtain⟨c,rfl,hc,-⟩:=plainElem_int_inv Tryz.underlying3 hv
 refine⟨c,by rw[← h3 k hk];exact hrun,fun i hi=>?_⟩
 have e:=h4 i k hi
 injection hc with hc1 _
 rw[e] at hc1
 injection hc1 with hc1
 injection hc1 with _ hc1
 exact hc1.symm
theorem MX.put {X:World} {mo:Nat} {ks:List (List Int)} {k:List Int} (h:MX X mo ks) (hk:OkV k) (hl:k.length≤1000) (hn:k ∉ ks) (hks:∀ q ∈ ks,OkV q) (hlen:ks.length≤1000):∃ Y,(Instr.mapUpdate 117 (.map (some mo)) (.string (strOf (textI k))) (.int .i64 (ks.length:Int))).run Tryz.prog X=.ok () Y∧MX Y mo (ks ++ [k])∧Tch (fun b=>b=mo) X Y:=by
 obtain⟨n,D,h1,h2,h3,h4⟩:=h
 obtain⟨Y,hrun,h5,hg⟩:=h1.update (Maps.string_keyed Tryz.underlying9) Tryz.underlying117 (by simp only[maxLen];omega) (key_lit hk hl) (plainElem_int (a:=(ks.length:Int)) Tryz.underlying3 (by
  have e1:IntKind.i64.min=-9223372036854775808:=by decide
  have e2:IntKind.i64.max=9223372036854775807:=by decide
  simp only[Lit.wf,e1,e2,Bool.and_eq_true,decide_eq_true_eq]
  omega))
 have hne:∀ {q:List Int},OkV q→q ≠ k→(Lit.string (textL q)) ≠ .string (textL k):=fun {q} hq e h=>by
  injection h with h
  exact e (textL_inj hq hk h)
 refine⟨Y,hrun,⟨n+1,_,h5,by rw[List.length_append];simp;omega,fun q hq=>?_,fun i q hq=>?_⟩,Tch.of_grown hg fun b e=>by injection e with e;exact e.symm⟩
 ·by_cases e:q=k
  ·subst e
   rw[Maps.has_put_same h1.isMap (by simp[WideAt.IsKeyLit])]
   simp
  ·rw[Maps.has_put_other (hne hq e),h3 q hq]
   simp[e]
 ·by_cases hi:i<ks.length
  ·rw[List.getElem?_append_left hi] at hq
   have hq2:=List.mem_of_getElem? hq
   have e:q ≠ k:=fun e=>hn (e ▸ hq2)
   rw[Maps.atKey_put_other (hne (hks q hq2) e)]
   exact h4 i q hq
  ·rw[List.getElem?_append_right (by omega)] at hq
   have e0:i - ks.length=0:=by
    rcases Nat.eq_zero_or_pos (i - ks.length) with h | h
    ·exact h
    ·rw[List.getElem?_eq_none (by simp;omega)] at hq;cases hq
   rw[e0] at hq
   simp only[List.getElem?_cons_zero,Option.some.injEq] at hq
   subst hq
   rw[Maps.atKey_put_same h1.isMap (by simp[WideAt.IsKeyLit]),show i=ks.length by omega]
theorem MX.clear {X:World} {mo:Nat} {ks:List (List Int)} (h:MX X mo ks):∃ Y,(∀ ty,(Builtin.clear_ #[117] ty #[.map (some mo)]).run Tryz.prog X=.ok (.tuple #[]) Y)∧MX Y mo []∧Tch (fun b=>b=mo) X Y:=by
 obtain⟨n,D,⟨es,clock,hb,-⟩,-⟩:=h
 have hlt:=(Array.getElem?_eq_some_iff.1 hb).1
 refine⟨{ X with heap:=X.heap.setIfInBounds mo (.map #[] clock) },?_,⟨0,.map [],⟨#[],clock,?_,⟨by simp,stamped_empty clock,by simp⟩,Nat.le_refl _,rfl⟩,Nat.le_refl _,fun k _=>rfl,fun i k h=>by simp at h⟩,⟨rfl,rfl,rfl,by simp,fun k _ hk=>?_⟩⟩
 ·intro ty
  simp[Builtin.clear_,run_underlying Tryz.underlying117,MapKept.run_getObj_map hb,MapKept.run_setObj_map _ hb,Result.andThen]
 ·simp[hlt]
 ·exact Array.getElem?_setIfInBounds_ne (fun e=>hk e.symm)
end Go.Proofs.YtnjlkhhcfiedbaaGreatDoor

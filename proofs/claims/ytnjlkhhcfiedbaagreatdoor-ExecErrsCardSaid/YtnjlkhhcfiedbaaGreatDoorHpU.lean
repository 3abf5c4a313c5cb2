import Derived.IntWalk
import Derived.Test.YtnjlkhhcfiedbaaGreatDoorSl
import Derived.Test.YtnjlkhhcfiedbaaGreatDoorMhead
import Derived.Test.YtnjlkhhcfiedbaaGreatDoorAliP
import Derived.Test.YtnjlkhhcfiedbaaGreatDoorRegP
namespace Go.Proofs.YtnjlkhhcfiedbaaGreatDoor
open Go.RowKit Go.Shelf Go.Sort
attribute [local go_sem] Oper.semAt_some
def flat2 (l:List Rs):List Value:=l.flatMap fun e=>[e.v,.int .i64 e.n]
theorem flat2_cons (e:Rs) (l:List Rs):flat2 (e :: l)=e.v :: .int .i64 e.n :: flat2 l:=rfl
theorem flat2_len:∀ (l:List Rs),(flat2 l).length=l.length*2
 | []=>rfl
 | e :: l=>by rw[flat2_cons,List.length_cons,List.length_cons,flat2_len l,List.length_cons];omega
theorem flat2_at:∀ {l:List Rs} {i:Nat} {e:Rs},l[i]? = some e→(flat2 l)[i*2]? = some e.v∧(flat2 l)[i*2+1]? = some (.int .i64 e.n)
 | [],_,_,h=>by simp at h
 | x :: l,0,e,h=>by
  simp only[List.getElem?_cons_zero,Option.some.injEq] at h
  subst h
  exact⟨rfl,rfl⟩
 | x :: l,i+1,e,h=>by
  rw[flat2_cons,show (i+1)*2=i*2+1+1 from by omega]
  exact flat2_at (l:=l) (i:=i) (by simpa using h)
theorem flat2_set:∀ (l:List Rs) (i:Nat) (e:Rs),i<l.length→((flat2 l).set (i*2) e.v).set (i*2+1) (.int .i64 e.n)=flat2 (l.set i e)
 | [],_,_,h=>by simp at h
 | x :: l,0,e,_=>rfl
 | x :: l,i+1,e,h=>by
  rw[List.set_cons_succ,flat2_cons,flat2_cons,← flat2_set l i e (by simpa using h),show (i+1)*2=i*2+1+1 from by omega]
  rfl
theorem flat2_take:∀ (l:List Rs) (n:Nat),(flat2 l).take (n*2)=flat2 (l.take n)
 | [],n=>by simp[flat2]
 | x :: l,0=>by simp[flat2]
 | x :: l,n+1=>by
  rw[List.take_succ_cons,flat2_cons,flat2_cons,← flat2_take l n,show (n+1)*2=n*2+1+1 from by omega]
  rfl
theorem flat2_app (a b:List Rs):flat2 (a ++ b)=flat2 a ++ flat2 b:=List.flatMap_append ..
def RdR (w0:World) (e:Rs):Prop:=∃ P c,e.v=.slice (some P) e.J.length c∧CellsR w0 P e.J∧(∀ x ∈ e.J,x.key.length≤1000000)∧e.J.length≤c
structure Hd (w0:World) (B h:Nat) (X:World) (v:Value) (l:List Rs):Prop where
 box:Own 181 X h [v,.func (.func 97) #[] #[]]
 hB:B≤h
 row:X.ownsRow B 184 2 v l.length (flat2 l)
 rd:∀ e ∈ l,RdR w0 e
 bw:Below w0.heap.size w0 X
 wB:w0.heap.size≤B
theorem Hd.ne {w0 X:World} {B h:Nat} {v:Value} {l:List Rs} (H:Hd w0 B h X v l):∀ k,v.ownBlock=some k→k ≠ h:=fun k hk e=>by
 rcases H.row.2 with ⟨rfl,-⟩ | ⟨g,cap,cur,rfl,hg,hh,-⟩
 ·cases hk
 ·simp only[Value.ownBlock,Option.some.injEq] at hk
  subst hk
  have h1:=H.box
  unfold Own at h1
  rw[← e,hh] at h1
  injection h1 with h1
  injection h1 with _ h2 _
  exact absurd h2 (by decide)
theorem Hd.stay {w0 X Y:World} {B h:Nat} {v:Value} {l:List Rs} (H:Hd w0 B h X v l) {M:Nat→Prop} (ht:Tch M X Y) (hM:∀ k,M k→k ≠ h∧v.ownBlock ≠ some k∧w0.heap.size≤k):Hd w0 B h Y v l :=
 ⟨(ht.block h H.box.lt fun hk=>(hM h hk).1 rfl).trans H.box,H.hB,own_stay H.row fun k hk=>ht.block k (H.row.lt k hk).2 fun hm=>(hM k hm).2.1 hk,H.rd,H.bw.trans (ht.below (fun k hk=>(hM k hk).2.2) H.bw.size),H.wB⟩
theorem Hd.below {w0 X Y:World} {B h:Nat} {v:Value} {l:List Rs} (H:Hd w0 B h X v l) (hb:Below X.heap.size X Y):Hd w0 B h Y v l:=H.stay (M:=fun _=>False) (Tch.of_below _ hb) fun _ hk=>hk.elim
theorem Hd.form {w0 X:World} {B h:Nat} {v:Value} {l:List Rs} (H:Hd w0 B h X v l) (hn:0<l.length):∃ g c,v=.slice (some ⟨g,0,none⟩) l.length c∧l.length≤c∧B≤g∧∀ i e,l[i]? = some e→X.cell? ⟨g,i*2,none⟩=some e.v∧X.cell? ⟨g,i*2+1,none⟩=some (.int .i64 e.n):=by
 obtain⟨A,c,hv,hlc,-,h2⟩:=own_form H.row
 obtain⟨g,rfl,hg,h3⟩:=h2 hn
 exact⟨g,c,hv,hlc,hg,fun i e he=>⟨h3 _ _ (flat2_at he).1,h3 _ _ (flat2_at he).2⟩⟩
def orM (x y:Int):Int:=if x=0 then y else x
set_option maxHeartbeats 1000000 in
theorem orM_any (x y:Int) (g:Nat) (w:World) (h0:w.cell? ⟨g,0,none⟩=some (.int .i64 x)) (h1:w.cell? ⟨g,1,none⟩=some (.int .i64 y)) :
  Calls Tryz.prog 214 #[.slice (some ⟨g,0,none⟩) 2 2] w fun e w'=>e=.returned (.int .i64 (orM x y))∧w=w':=by
 go_enter Tryz.func214,Tryz.ntmps214
 go_wp2
 go_loop [8] (fun v=>∃ k:Nat,v=.int .i64 k∧k≤2∧(1≤k→x=0)∧(2≤k→y=0)) (fun v=>2 - (intOf v).toNat)
 case atStart=>exact⟨0,rfl,by omega,by omega,by omega⟩
 case round =>
  obtain⟨k,rfl,hk,hx,hy⟩:=hrel
  rcases (by omega:k=0∨k=1∨k=2) with rfl | rfl | rfl
  ·clear hx hy hk
   by_cases hx:x=0
   ·have e:=Lib.hid hx
    have hb:(x != 0)=false:=by simpa using hx
    clear hx
    go_wp2
    go_round
    case rel=>exact⟨1,rfl,by omega,fun _=>e.out,by omega⟩
    case measure=>simp[intOf]
   ·have e:=Lib.hid hx
    have hb:(x != 0)=true:=by simpa using hx
    clear hx
    go_wp2
    go_ret
    exact⟨ret_int (show orM x y=x from if_neg e.out).symm,rfl⟩
  ·have hx0:=Lib.hid (hx (by omega))
   clear hx hy hk
   by_cases hy:y=0
   ·have e:=Lib.hid hy
    have hb:(y != 0)=false:=by simpa using hy
    clear hy
    go_wp2
    go_round
    case rel=>exact⟨2,rfl,by omega,fun _=>hx0.out,fun _=>e.out⟩
    case measure=>simp[intOf]
   ·have e:=Lib.hid hy
    have hb:(y != 0)=true:=by simpa using hy
    clear hy
    go_wp2
    go_ret
    exact⟨ret_int (show orM x y=y from if_pos hx0.out).symm,rfl⟩
  ·have hx0:=Lib.hid (hx (by omega))
   have hy0:=Lib.hid (hy (by omega))
   clear hx hy hk
   go_wp2
   go_ret
   exact⟨ret_int (show orM x y=0 by unfold orM;rw[if_pos hx0.out,hy0.out]).symm,rfl⟩
end Go.Proofs.YtnjlkhhcfiedbaaGreatDoor
namespace Go.Proofs.YtnjlkhhcfiedbaaGreatDoor
open Go.RowKit Go.Shelf Go.Sort
attribute [local go_sem] Oper.semAt_some
theorem below_growM (w:World) (os:Array Obj):Below w.heap.size w (grow w os):=⟨rfl,rfl,rfl,by simp[grow],fun k hk=>by simp[grow,Array.getElem?_append_left hk]⟩
theorem two_below (W:World) (A B:Obj):Below W.heap.size W ((W.alloc A).alloc B).drew:=(((Below.refl _ _).alloc (Nat.le_refl _) _).alloc (by simp) _).drew
theorem two_boxes (T:TypeId) (W:World) (vs us:List Value):Own T ((W.alloc (.cells vs.toArray T)).alloc (.cells us.toArray T)).drew W.heap.size vs∧Own T ((W.alloc (.cells vs.toArray T)).alloc (.cells us.toArray T)).drew (W.heap.size+1) us:=by
 have s1:(W.alloc (.cells vs.toArray T)).heap.size=W.heap.size+1:=by simp
 refine⟨(Below.heap_alloc _ _ _ (by simp)).trans (heap_alloc_new W _),?_⟩
 have:=heap_alloc_new (W.alloc (.cells vs.toArray T)) (.cells us.toArray T)
 rw[s1] at this
 exact this
theorem orM_le {a b:List Int} {x y:Int} (h:orM (cmpL a b) (cmpI x y)<0):cmpL a b≤0:=by
 unfold orM at h
 split at h
 ·rename_i e;omega
 ·omega
theorem orM_ge {a b:List Int} {x y:Int} (h:¬ orM (cmpL a b) (cmpI x y)<0):cmpL b a≤0:=by
 have:=cmpL_anti a b
 unfold orM at h
 split at h
 ·rename_i e;omega
 ·omega
def LessR (a b:Rs) (X:World) (e:Ending) (W:World):Prop:=∃ r:Bool,e=.returned (.bool r)∧(r=true→leR a b)∧(r=false→leR b a)∧Below X.heap.size X W
set_option maxRecDepth 100000 in
set_option maxHeartbeats 4000000 in
theorem hless_any (w0:World) (B h i j:Nat) (X:World) (v:Value) (l:List Rs) (a b:Rs) (H:Hd w0 B h X v l) (ha:l[i]? = some a) (hb:l[j]? = some b) (hna:a.J ≠ []) (hnb:b.J ≠ []) :
  Calls Tryz.prog 210 #[.pointer (some ⟨h,0,none⟩),.int .i64 (i:Int),.int .i64 (j:Int)] X (LessR a b X):=by
 have hil:=(List.getElem?_eq_some_iff.1 ha).1
 have hjl:=(List.getElem?_eq_some_iff.1 hb).1
 obtain⟨g,c,rfl,hlc,hg,hcell⟩:=H.form (by omega)
 have c0:=H.box.cell (i:=0) rfl
 have c1:=H.box.cell (i:=1) rfl
 obtain⟨p0,p1⟩:=hcell i a ha
 obtain⟨q0,q1⟩:=hcell j b hb
 obtain⟨Pa,ca,eva,hca,hka,-⟩:=H.rd a (List.mem_of_getElem? ha)
 obtain⟨Pb,cb,evb,hcb,hkb,-⟩:=H.rd b (List.mem_of_getElem? hb)
 obtain⟨x,Ja,hJa⟩:=List.exists_cons_of_ne_nil hna
 obtain⟨y,Jb,hJb⟩:=List.exists_cons_of_ne_nil hnb
 rw[hJa] at hca hka
 rw[hJb] at hcb hkb
 have kX:=Keeps.of_below H.bw
 obtain⟨vk,vs,vn,vm,a0,a1,a2,a3,a4,hcx,-⟩:=hca.first.keep kX
 obtain⟨uk,us,un,um,b0,b1,b2,b3,b4,hcy,-⟩:=hcb.first.keep kX
 have hx1:=hka x (by simp)
 have hy1:=hkb y (by simp)
 have hR1:cmpL x.key y.key≤0→leR a b:=fun e=>by unfold leR keyO;rw[hJa,hJb];exact e
 have hR2:cmpL y.key x.key≤0→leR b a:=fun e=>by unfold leR keyO;rw[hJa,hJb];exact e
 have hma:0<a.J.length:=by rw[hJa];simp
 have hmb:0<b.J.length:=by rw[hJb];simp
 obtain⟨ma,ema⟩:∃ z,z=a.J.length:=⟨_,rfl⟩
 obtain⟨mb,emb⟩:∃ z,z=b.J.length:=⟨_,rfl⟩
 obtain⟨na,ena⟩:∃ z,z=a.n:=⟨_,rfl⟩
 obtain⟨nb,enb⟩:∃ z,z=b.n:=⟨_,rfl⟩
 rw[eva,← ema] at p0
 rw[evb,← emb] at q0
 rw[← ena] at p1
 rw[← enb] at q1
 rw[← ema] at hma
 rw[← emb] at hmb
 obtain⟨N,hN⟩:∃ N,N=l.length:=⟨_,rfl⟩
 rw[← hN] at hil hjl c0
 have i0:(0:Int)≤(i:Int):=by omega
 have i1:(i:Int)<(N:Int):=by omega
 have j0:(0:Int)≤(j:Int):=by omega
 have j1:(j:Int)<(N:Int):=by omega
 have HX1:=Lib.hid hx1
 have HY1:=Lib.hid hy1
 have HR1:=Lib.hid hR1
 have HR2:=Lib.hid hR2
 obtain⟨X0,hX0⟩:∃ X0,X0=X:=⟨_,rfl⟩
 have HBA:=Lib.hid (fun A=>(((Below.refl X.heap.size X).alloc (Nat.le_refl _) A).drew))
 have hS5:∀ W,Below X.heap.size X W→W.cell? ⟨h,0,none⟩=some (.slice (some ⟨g,0,none⟩) N c)∧W.cell? ⟨g,i*2,none⟩=some (.slice (some Pa) ma ca)∧W.cell? ⟨g,i*2+1,none⟩=some (.int .i64 na)∧W.cell? ⟨g,j*2,none⟩=some (.slice (some Pb) mb cb)∧W.cell? ⟨g,j*2+1,none⟩=some (.int .i64 nb):=fun W hb=>⟨(Keeps.of_below hb) _ _ c0,(Keeps.of_below hb) _ _ p0,(Keeps.of_below hb) _ _ p1,(Keeps.of_below hb) _ _ q0,(Keeps.of_below hb) _ _ q1⟩
 have HS5:=Lib.hid hS5
 have HSA:=Lib.hid (fun (W:World) (hb:Below X.heap.size X W)=>(⟨(Keeps.of_below hb) _ _ c1,(Keeps.of_below hb) _ _ a0,(Keeps.of_below hb) _ _ a1,(Keeps.of_below hb) _ _ a2,(Keeps.of_below hb) _ _ a3,(Keeps.of_below hb) _ _ a4,(Keeps.of_below hb) _ _ b0,(Keeps.of_below hb) _ _ b1,(Keeps.of_below hb) _ _ b2,(Keeps.of_below hb) _ _ b3,(Keeps.of_below hb) _ _ b4,hcx.keep (Keeps.of_below hb),hcy.keep (Keeps.of_below hb)⟩:W.cell? ⟨h,1,none⟩=some (.func (.func 97) #[] #[])∧W.cell? Pa=some vk∧W.cell? ⟨Pa.block,Pa.off+1,none⟩=some (.int .i64 x.cnt)∧W.cell? ⟨Pa.block,Pa.off+2,none⟩=some vs∧W.cell? ⟨Pa.block,Pa.off+3,none⟩=some vn∧W.cell? ⟨Pa.block,Pa.off+4,none⟩=some vm∧W.cell? Pb=some uk∧W.cell? ⟨Pb.block,Pb.off+1,none⟩=some (.int .i64 y.cnt)∧W.cell? ⟨Pb.block,Pb.off+2,none⟩=some us∧W.cell? ⟨Pb.block,Pb.off+3,none⟩=some un∧W.cell? ⟨Pb.block,Pb.off+4,none⟩=some um∧CR W vk vs vn vm x∧CR W uk us un um y))
 clear c1 a0 a1 a2 a3 a4 b0 b1 b2 b3 b4 hcx hcy hS5
 clear hcell eva evb hca hna hka hcb hnb hkb hJa hJb kX hx1 hy1 hR1 hR2 ema emb ena enb hN hlc hg ha hb H hX0 X0
 go_enter Tryz.func210,Tryz.ntmps210
 go_upto_region 1 with (fail)
 go_cut [7,8] from 9 to 22 (fun s7 s8 wx=>∃ b7 b8,s7=.pointer (some ⟨b7,0,none⟩)∧s8=.pointer (some ⟨b8,0,none⟩)∧Own 184 wx b7 [.slice (some Pa) ma ca,.int .i64 na]∧Own 184 wx b8 [.slice (some Pb) mb cb,.int .i64 nb]∧Below X.heap.size X wx)
 case first =>
  refine wp_region_held_drew (S:=fun W=>W.cell? ⟨h,0,none⟩=some (.slice (some ⟨g,0,none⟩) N c)∧W.cell? ⟨g,i*2,none⟩=some (.slice (some Pa) ma ca)∧W.cell? ⟨g,i*2+1,none⟩=some (.int .i64 na)∧W.cell? ⟨g,j*2,none⟩=some (.slice (some Pb) mb cb)∧W.cell? ⟨g,j*2+1,none⟩=some (.int .i64 nb)) (by kernel_rfl) ⟨c0,p0,p1,q0,q1⟩ (fun hHeld=>?_)
  refine WTH (i:=0) (v:=?vpa0) ?ypa0 hHeld ?rpa0
  case ypa0=>(intro W hW;obtain⟨g0,g1,g2,g3,g4⟩:=hW;go_simp;first | done | with_reducible rfl)
  try simp only[SL,Act.put]
  refine WTH (i:=1) (v:=?vpa1) ?ypa1 hHeld ?rpa1
  case ypa1=>(intro W hW;obtain⟨g0,g1,g2,g3,g4⟩:=hW;go_simp;first | done | with_reducible rfl)
  try simp only[SL,Act.put]
  refine WTH (i:=2) (v:=?vpa2) ?ypa2 hHeld ?rpa2
  case ypa2=>(intro W hW;obtain⟨g0,g1,g2,g3,g4⟩:=hW;go_simp;first | done | with_reducible rfl)
  try simp only[SL,Act.put]
  refine WTH (i:=3) (v:=?vpa3) ?ypa3 hHeld ?rpa3
  case ypa3=>(intro W hW;obtain⟨g0,g1,g2,g3,g4⟩:=hW;go_simp;first | done | with_reducible rfl)
  try simp only[SL,Act.put]
  refine WTH (i:=4) (v:=?vpa4) ?ypa4 hHeld ?rpa4
  case ypa4=>(intro W hW;obtain⟨g0,g1,g2,g3,g4⟩:=hW;go_simp;first | done | with_reducible rfl)
  try simp only[SL,Act.put]
  refine WTH (i:=5) (v:=?vpa5) ?ypa5 hHeld ?rpa5
  case ypa5=>(intro W hW;obtain⟨g0,g1,g2,g3,g4⟩:=hW;go_simp;first | done | with_reducible rfl)
  try simp only[SL,Act.put]
  refine WTH (i:=6) (v:=?vpa6) ?ypa6 hHeld ?rpa6
  case ypa6=>(intro W hW;obtain⟨g0,g1,g2,g3,g4⟩:=hW;go_simp;first | done | with_reducible rfl)
  try simp only[SL,Act.put]
  refine WTH (i:=7) (v:=?vpa7) ?ypa7 hHeld ?rpa7
  case ypa7=>(intro W hW;obtain⟨g0,g1,g2,g3,g4⟩:=hW;go_simp;first | done | with_reducible rfl)
  try simp only[SL,Act.put]
  refine WTH (i:=8) (v:=?vpa8) ?ypa8 hHeld ?rpa8
  case ypa8=>(intro W hW;obtain⟨g0,g1,g2,g3,g4⟩:=hW;go_simp;first | done | with_reducible rfl)
  try simp only[SL,Act.put]
  refine WTH (i:=9) (v:=?vpa9) ?ypa9 hHeld ?rpa9
  case ypa9=>(intro W hW;obtain⟨g0,g1,g2,g3,g4⟩:=hW;go_simp;first | done | with_reducible rfl)
  try simp only[SL,Act.put]
  refine WTH (i:=10) (v:=?vpa10) ?ypa10 hHeld ?rpa10
  case ypa10=>(intro W hW;obtain⟨g0,g1,g2,g3,g4⟩:=hW;go_simp;first | done | with_reducible rfl)
  try simp only[SL,Act.put]
  refine WTH (i:=11) (v:=?vpa11) ?ypa11 hHeld ?rpa11
  case ypa11=>(intro W hW;obtain⟨g0,g1,g2,g3,g4⟩:=hW;go_simp;first | done | with_reducible rfl)
  try simp only[SL,Act.put]
  refine WTH (i:=12) (v:=?vpa12) ?ypa12 hHeld ?rpa12
  case ypa12=>(intro W hW;obtain⟨g0,g1,g2,g3,g4⟩:=hW;go_simp;first | done | with_reducible rfl)
  try simp only[SL,Act.put]
  refine WTH (i:=13) (v:=?vpa13) ?ypa13 hHeld ?rpa13
  case ypa13=>(intro W hW;obtain⟨g0,g1,g2,g3,g4⟩:=hW;go_simp;first | done | with_reducible rfl)
  try simp only[SL,Act.put]
  have hfr:=hHeld
  refine wpAnyH_ready (rs:=[14,15]) (by kernel_rfl) (by simp) ?_
  refine AllReadyH.cons rfl (fun K hK=>?_) (AllReadyH.cons rfl (fun K hK=>?_) AllReadyH.nil)
  ·go_simp
   refine hK.out _ _ (HS5.out _ (HBA.out _)) (fun hHeld=>?_)
   clear hK K
   try simp only[SL,Act.put]
   refine wpAnyH_ready (rs:=[15]) (by kernel_rfl) (by simp) ?_
   refine AllReadyH.cons rfl (fun K hK=>?_) (AllReadyH.nil)
   go_simp
   refine hK.out _ _ (HS5.out _ (two_below _ _ _)) (fun hHeld=>?_)
   clear hK K
   try simp only[SL,Act.put]
   refine wpAnyH_ready (rs:=[16]) (by kernel_rfl) (by simp) ?_
   refine AllReadyH.cons rfl (fun K hK=>?_) (AllReadyH.nil)
   go_simp
   refine hK.out _ _ (HS5.out _ (two_below _ _ _)) (fun hHeld=>?_)
   clear hK K
   try simp only[SL,Act.put]
   refine wpAnyH_ready (rs:=[17]) (by kernel_rfl) (by simp) ?_
   refine AllReadyH.cons rfl (fun K hK=>?_) (AllReadyH.nil)
   go_simp
   refine hK.out _ _ (HS5.out _ (two_below _ _ _)) (fun hHeld=>?_)
   clear hK K
   try simp only[SL,Act.put]
   refine wpAnyH_done (by kernel_rfl) ?_ _
   go_wp2_with fail
   go_meet
   exact⟨_,_,rfl,rfl,(two_boxes _ _ [.slice (some Pa) ma ca,.int .i64 na] [.slice (some Pb) mb cb,.int .i64 nb]).1,(two_boxes _ _ [.slice (some Pa) ma ca,.int .i64 na] [.slice (some Pb) mb cb,.int .i64 nb]).2,two_below _ _ _⟩
  ·go_simp
   refine hK.out _ _ (HS5.out _ (HBA.out _)) (fun hHeld=>?_)
   clear hK K
   try simp only[SL,Act.put]
   refine wpAnyH_ready (rs:=[14]) (by kernel_rfl) (by simp) ?_
   refine AllReadyH.cons rfl (fun K hK=>?_) (AllReadyH.nil)
   go_simp
   refine hK.out _ _ (HS5.out _ (two_below _ _ _)) (fun hHeld=>?_)
   clear hK K
   try simp only[SL,Act.put]
   refine wpAnyH_ready (rs:=[16]) (by kernel_rfl) (by simp) ?_
   refine AllReadyH.cons rfl (fun K hK=>?_) (AllReadyH.nil)
   go_simp
   refine hK.out _ _ (HS5.out _ (two_below _ _ _)) (fun hHeld=>?_)
   clear hK K
   try simp only[SL,Act.put]
   refine wpAnyH_ready (rs:=[17]) (by kernel_rfl) (by simp) ?_
   refine AllReadyH.cons rfl (fun K hK=>?_) (AllReadyH.nil)
   go_simp
   refine hK.out _ _ (HS5.out _ (two_below _ _ _)) (fun hHeld=>?_)
   clear hK K
   try simp only[SL,Act.put]
   refine wpAnyH_done (by kernel_rfl) ?_ _
   go_wp2_with fail
   go_meet
   exact⟨_,_,rfl,rfl,(two_boxes _ _ [.slice (some Pb) mb cb,.int .i64 nb] [.slice (some Pa) ma ca,.int .i64 na]).2,(two_boxes _ _ [.slice (some Pb) mb cb,.int .i64 nb] [.slice (some Pa) ma ca,.int .i64 na]).1,two_below _ _ _⟩
 case rest =>
  obtain⟨b7,b8,rfl,rfl,o7,o8,hb⟩:=hcut
  rename World=>wx
  obtain⟨d1,a0,a1,a2,a3,a4,b0,b1,b2,b3,b4,hcx,hcy⟩:=HSA.out wx hb
  have hSB:∀ W,Below wx.heap.size wx W→W.cell? ⟨h,1,none⟩=some (.func (.func 97) #[] #[]):=fun W hw=>(Keeps.of_below hw) _ _ d1
  obtain⟨e70,e71⟩:=And.intro (o7.cell (i:=0) rfl) (o7.cell (i:=1) rfl)
  obtain⟨e80,e81⟩:=And.intro (o8.cell (i:=0) rfl) (o8.cell (i:=1) rfl)
  have HC:=Lib.hid (fun (W:World) (hw:Keeps wx W)=>mcmp_grow vk vs vn vm uk us un um x y W (hcx.keep hw) (hcy.keep hw) HX1.out HY1.out)
  obtain⟨⟨P1,q1',f1,-⟩,⟨P2,q2,f2,-⟩,⟨P3,q3,f3,-⟩,⟨P4,q4,f4,-⟩⟩:=hcx
  subst f1 f2 f3 f4
  obtain⟨⟨R1,r1,f1,-⟩,⟨R2,r2,f2,-⟩,⟨R3,r3,f3,-⟩,⟨R4,r4,f4,-⟩⟩:=hcy
  subst f1 f2 f3 f4
  have HB:=Lib.hid hb
  clear hb hSB o7 o8 HS5 HSA HBA p0 p1 q0 q1 c0
  obtain⟨xc,exc⟩:∃ z,z=x.cnt:=⟨_,rfl⟩
  obtain⟨yc,eyc⟩:∃ z,z=y.cnt:=⟨_,rfl⟩
  obtain⟨l1,hl1⟩:∃ z,z=x.key.length:=⟨_,rfl⟩
  obtain⟨l2,hl2⟩:∃ z,z=x.sum.length:=⟨_,rfl⟩
  obtain⟨l3,hl3⟩:∃ z,z=x.mn.length:=⟨_,rfl⟩
  obtain⟨l4,hl4⟩:∃ z,z=x.mx.length:=⟨_,rfl⟩
  obtain⟨m1,hm1⟩:∃ z,z=y.key.length:=⟨_,rfl⟩
  obtain⟨m2,hm2⟩:∃ z,z=y.sum.length:=⟨_,rfl⟩
  obtain⟨m3,hm3⟩:∃ z,z=y.mn.length:=⟨_,rfl⟩
  obtain⟨m4,hm4⟩:∃ z,z=y.mx.length:=⟨_,rfl⟩
  rw[← exc,← eyc,← hl1,← hl2,← hl3,← hl4,← hm1,← hm2,← hm3,← hm4] at HC
  rw[← exc] at a1
  rw[← hl1] at a0
  rw[← hl2] at a2
  rw[← hl3] at a3
  rw[← hl4] at a4
  rw[← eyc] at b1
  rw[← hm1] at b0
  rw[← hm2] at b2
  rw[← hm3] at b3
  rw[← hm4] at b4
  clear exc eyc hl1 hl2 hl3 hl4 hm1 hm2 hm3 hm4
  go_upto_region 2 with (fail)
  refine region_P (S:=fun W=>(W.cell? Pa=some (.slice P1 l1 q1')∧W.cell? ⟨Pa.block,Pa.off+1,none⟩=some (.int .i64 xc)∧W.cell? ⟨Pa.block,Pa.off+2,none⟩=some (.slice P2 l2 q2)∧W.cell? ⟨Pa.block,Pa.off+3,none⟩=some (.slice P3 l3 q3)∧W.cell? ⟨Pa.block,Pa.off+4,none⟩=some (.slice P4 l4 q4))∧(W.cell? Pb=some (.slice R1 m1 r1)∧W.cell? ⟨Pb.block,Pb.off+1,none⟩=some (.int .i64 yc)∧W.cell? ⟨Pb.block,Pb.off+2,none⟩=some (.slice R2 m2 r2)∧W.cell? ⟨Pb.block,Pb.off+3,none⟩=some (.slice R3 m3 r3)∧W.cell? ⟨Pb.block,Pb.off+4,none⟩=some (.slice R4 m4 r4))∧W.cell? ⟨h,1,none⟩=some (.func (.func 97) #[] #[])∧W.cell? ⟨b7,0,none⟩=some (.slice (some Pa) ma ca)∧W.cell? ⟨b7,1,none⟩=some (.int .i64 na)∧W.cell? ⟨b8,0,none⟩=some (.slice (some Pb) mb cb)∧W.cell? ⟨b8,1,none⟩=some (.int .i64 nb)) (kill:=[17,18,19,20,21]) (by kernel_rfl) ⟨⟨a0,a1,a2,a3,a4⟩,⟨b0,b1,b2,b3,b4⟩,d1,e70,e71,e80,e81⟩ (fun hHeld=>?_)
  refine WTP (i:=0) (v:=?vpd0) ?ypd0 hHeld ?rpd0
  case ypd0=>(intro W hW;obtain⟨⟨g0,g1,g2,g3,g4⟩,⟨g5,g6,g7,g8,g9⟩,g10,g11,g12,g13,g14⟩:=hW;go_simp;first | done | with_reducible rfl)
  try simp only[SL,Act.put]
  refine WTP (i:=1) (v:=?vpd1) ?ypd1 hHeld ?rpd1
  case ypd1=>(intro W hW;obtain⟨⟨g0,g1,g2,g3,g4⟩,⟨g5,g6,g7,g8,g9⟩,g10,g11,g12,g13,g14⟩:=hW;go_simp;first | done | with_reducible rfl)
  try simp only[SL,Act.put]
  refine WTP (i:=2) (v:=?vpd2) ?ypd2 hHeld ?rpd2
  case ypd2=>(intro W hW;obtain⟨⟨g0,g1,g2,g3,g4⟩,⟨g5,g6,g7,g8,g9⟩,g10,g11,g12,g13,g14⟩:=hW;go_simp;first | done | with_reducible rfl)
  try simp only[SL,Act.put]
  refine WTP (i:=3) (v:=?vpd3) ?ypd3 hHeld ?rpd3
  case ypd3=>(intro W hW;obtain⟨⟨g0,g1,g2,g3,g4⟩,⟨g5,g6,g7,g8,g9⟩,g10,g11,g12,g13,g14⟩:=hW;go_simp;first | done | with_reducible rfl)
  try simp only[SL,Act.put]
  refine WTP (i:=4) (v:=?vpd4) ?ypd4 hHeld ?rpd4
  case ypd4=>(intro W hW;obtain⟨⟨g0,g1,g2,g3,g4⟩,⟨g5,g6,g7,g8,g9⟩,g10,g11,g12,g13,g14⟩:=hW;go_simp;first | done | with_reducible rfl)
  try simp only[SL,Act.put]
  refine WTP (i:=5) (v:=?vpd5) ?ypd5 hHeld ?rpd5
  case ypd5=>(intro W hW;obtain⟨⟨g0,g1,g2,g3,g4⟩,⟨g5,g6,g7,g8,g9⟩,g10,g11,g12,g13,g14⟩:=hW;go_simp;first | done | with_reducible rfl)
  try simp only[SL,Act.put]
  refine WTP (i:=6) (v:=?vpd6) ?ypd6 hHeld ?rpd6
  case ypd6=>(intro W hW;obtain⟨⟨g0,g1,g2,g3,g4⟩,⟨g5,g6,g7,g8,g9⟩,g10,g11,g12,g13,g14⟩:=hW;go_simp;first | done | with_reducible rfl)
  try simp only[SL,Act.put]
  refine WTP (i:=7) (v:=?vpd7) ?ypd7 hHeld ?rpd7
  case ypd7=>(intro W hW;obtain⟨⟨g0,g1,g2,g3,g4⟩,⟨g5,g6,g7,g8,g9⟩,g10,g11,g12,g13,g14⟩:=hW;go_simp;first | done | with_reducible rfl)
  try simp only[SL,Act.put]
  refine WTP (i:=8) (v:=?vpd8) ?ypd8 hHeld ?rpd8
  case ypd8=>(intro W hW;obtain⟨⟨g0,g1,g2,g3,g4⟩,⟨g5,g6,g7,g8,g9⟩,g10,g11,g12,g13,g14⟩:=hW;go_simp;first | done | with_reducible rfl)
  try simp only[SL,Act.put]
  refine WTP (i:=9) (v:=?vpd9) ?ypd9 hHeld ?rpd9
  case ypd9=>(intro W hW;obtain⟨⟨g0,g1,g2,g3,g4⟩,⟨g5,g6,g7,g8,g9⟩,g10,g11,g12,g13,g14⟩:=hW;go_simp;first | done | with_reducible rfl)
  try simp only[SL,Act.put]
  refine WTP (i:=10) (v:=?vpd10) ?ypd10 hHeld ?rpd10
  case ypd10=>(intro W hW;obtain⟨⟨g0,g1,g2,g3,g4⟩,⟨g5,g6,g7,g8,g9⟩,g10,g11,g12,g13,g14⟩:=hW;go_simp;first | done | with_reducible rfl)
  try simp only[SL,Act.put]
  refine WTP (i:=11) (v:=?vpd11) ?ypd11 hHeld ?rpd11
  case ypd11=>(intro W hW;obtain⟨⟨g0,g1,g2,g3,g4⟩,⟨g5,g6,g7,g8,g9⟩,g10,g11,g12,g13,g14⟩:=hW;go_simp;first | done | with_reducible rfl)
  try simp only[SL,Act.put]
  refine WTP (i:=13) (v:=?vpd13) ?ypd13 hHeld ?rpd13
  case ypd13=>(intro W hW;obtain⟨⟨g0,g1,g2,g3,g4⟩,⟨g5,g6,g7,g8,g9⟩,g10,g11,g12,g13,g14⟩:=hW;go_simp;first | done | with_reducible rfl)
  try simp only[SL,Act.put]
  refine WTP (i:=14) (v:=?vpd14) ?ypd14 hHeld ?rpd14
  case ypd14=>(intro W hW;obtain⟨⟨g0,g1,g2,g3,g4⟩,⟨g5,g6,g7,g8,g9⟩,g10,g11,g12,g13,g14⟩:=hW;go_simp;first | done | with_reducible rfl)
  try simp only[SL,Act.put]
  refine WTP (i:=15) (v:=?vpd15) ?ypd15 hHeld ?rpd15
  case ypd15=>(intro W hW;obtain⟨⟨g0,g1,g2,g3,g4⟩,⟨g5,g6,g7,g8,g9⟩,g10,g11,g12,g13,g14⟩:=hW;go_simp;first | done | with_reducible rfl)
  try simp only[SL,Act.put]
  refine WTP (i:=16) (v:=?vpd16) ?ypd16 hHeld ?rpd16
  case ypd16=>(intro W hW;obtain⟨⟨g0,g1,g2,g3,g4⟩,⟨g5,g6,g7,g8,g9⟩,g10,g11,g12,g13,g14⟩:=hW;go_simp;first | done | with_reducible rfl)
  try simp only[SL,Act.put]
  refine anyP_ready (rs:=[12]) (by kernel_rfl) (by simp) ?_
  refine AllP.cons rfl (fun K hK=>?_) (AllP.nil)
  go_simp
  refine (HC.out wx.drew (fun _ _ q=>q)).mono ?_
  rintro e wy ⟨rfl,os,rfl⟩
  have kg:=Keeps.of_below (below_growM wx.drew os)
  refine hK.out _ _ (fun _ hh=>⟨⟨kg _ _ hh.1.1,kg _ _ hh.1.2.1,kg _ _ hh.1.2.2.1,kg _ _ hh.1.2.2.2.1,kg _ _ hh.1.2.2.2.2⟩,⟨kg _ _ hh.2.1.1,kg _ _ hh.2.1.2.1,kg _ _ hh.2.1.2.2.1,kg _ _ hh.2.1.2.2.2.1,kg _ _ hh.2.1.2.2.2.2⟩,kg _ _ hh.2.2.1,kg _ _ hh.2.2.2.1,kg _ _ hh.2.2.2.2.1,kg _ _ hh.2.2.2.2.2.1,kg _ _ hh.2.2.2.2.2.2⟩) ?_
  clear hK K
  try simp only[SL,Act.put]
  refine anyP_ready (rs:=[17]) (by kernel_rfl) (by simp) ?_
  refine AllP.cons rfl (fun K hK=>?_) (AllP.nil)
  go_simp
  refine (cmp_any _ _ _).mono ?_
  rintro e wz ⟨rfl,rfl⟩
  refine hK.out _ _ (fun h=>absurd (by decide) h) ?_
  clear hK K
  try simp only[SL,Act.put]
  refine anyP_ready (rs:=[18]) (by kernel_rfl) (by simp) ?_
  refine AllP.cons rfl (fun K hK=>?_) (AllP.nil)
  go_simp
  refine hK.out _ _ (fun h=>absurd (by decide) h) ?_
  clear hK K
  try simp only[SL,Act.put]
  obtain⟨Wg,hWg⟩:∃ Wg,Wg=grow wx.drew os:=⟨_,rfl⟩
  have bg:Below wx.heap.size wx Wg:=by rw[hWg];exact (Below.refl _ wx).drew.trans (below_growM wx.drew os)
  have sg:wx.heap.size+os.size=Wg.heap.size:=by rw[hWg];simp[grow]
  rw[← hWg,sg]
  obtain⟨cc,hcc⟩:∃ z,z=cmpL x.key y.key:=⟨_,rfl⟩
  obtain⟨nn,hnn⟩:∃ z,z=cmpI na nb:=⟨_,rfl⟩
  rw[← hcc,← hnn]
  have oN:Own 3 (Wg.alloc (.cells #[.int .i64 cc,.int .i64 nn] 3)) Wg.heap.size [.int .i64 cc,.int .i64 nn]:=heap_alloc_new Wg _
  have HO:=Lib.hid (orM_any cc nn Wg.heap.size _ (oN.cell (i:=0) rfl) (oN.cell (i:=1) rfl))
  have HBE:=Lib.hid (HB.out.trans ((bg.alloc (Nat.le_trans bg.size (Nat.le_refl _)) (.cells #[.int .i64 cc,.int .i64 nn] 3)).mono HB.out.size))
  have HF1:=Lib.hid (show orM cc nn<0→leR a b from fun q=>HR1.out (orM_le (x:=na) (y:=nb) (by rw[← hcc,← hnn];exact q)))
  have HF2:=Lib.hid (show ¬ orM cc nn<0→leR b a from fun q=>HR2.out (orM_ge (x:=na) (y:=nb) (by rw[← hcc,← hnn];exact q)))
  obtain⟨oo,hoo⟩:∃ z,z=orM cc nn:=⟨_,rfl⟩
  rw[← hoo] at HO HF1 HF2
  clear hcc hnn hWg sg oN hoo bg kg
  refine anyP_ready (rs:=[19]) (by kernel_rfl) (by simp) ?_
  refine AllP.cons rfl (fun K hK=>?_) (AllP.nil)
  go_simp
  refine HO.out.mono ?_
  rintro e w9 ⟨rfl,hw9⟩
  rw[← hw9]
  clear hw9 w9
  refine hK.out _ _ (fun h=>absurd (by decide) h) ?_
  clear hK K
  try simp only[SL,Act.put]
  refine anyP_pure (i:=20) (v:=?vpd20) rfl (by kernel_rfl) (by kernel_rfl) (by kernel_rfl) (by kernel_rfl) (fun _ _ _ h=>h) (Or.inl ⟨by rfl,?ypd20⟩) ?rpd20
  case ypd20=>(intro W hW;go_simp;first | done | with_reducible rfl)
  try simp only[SL,Act.put]
  refine anyP_pure (i:=21) (v:=?vpd21) rfl (by kernel_rfl) (by kernel_rfl) (by kernel_rfl) (by kernel_rfl) (fun _ _ _ h=>h) (Or.inl ⟨by rfl,?ypd21⟩) ?rpd21
  case ypd21=>(intro W hW;go_simp;first | done | with_reducible rfl)
  try simp only[SL,Act.put]
  refine anyP_done (by kernel_rfl) ?_ _
  go_wp2_with fail
  go_ret
  exact⟨decide (oo<0),rfl,fun q=>HF1.out (by simpa using q),fun q=>HF2.out (by simpa using q),HBE.out⟩
end Go.Proofs.YtnjlkhhcfiedbaaGreatDoor
namespace Go.Proofs.YtnjlkhhcfiedbaaGreatDoor
open Go.RowKit Go.Shelf Go.Sort
attribute [local go_sem] Oper.semAt_some
theorem Hd.row' {w0 X Y:World} {B h g c:Nat} {l l':List Rs} (H:Hd w0 B h X (.slice (some ⟨g,0,none⟩) l.length c) l) (ht:Tch (fun k=>k=g) X Y) (hr:Y.ownsRow B 184 2 (.slice (some ⟨g,0,none⟩) l'.length c) l'.length (flat2 l')) (hl:l'.length=l.length) (hd:∀ e ∈ l',RdR w0 e) (hg:B≤g):Hd w0 B h Y (.slice (some ⟨g,0,none⟩) l.length c) l' :=
 ⟨(ht.block h H.box.lt fun e=>H.ne g rfl e.symm).trans H.box,H.hB,by rw[hl] at hr ⊢;exact hr,hd,H.bw.trans (ht.below (fun k hk=>by rw[hk];exact Nat.le_trans H.wB hg) H.bw.size),H.wB⟩
set_option maxRecDepth 100000 in
set_option maxHeartbeats 4000000 in
theorem hswap_any (w0:World) (B h i j:Nat) (X:World) (v:Value) (l:List Rs) (a b:Rs) (H:Hd w0 B h X v l) (ha:l[i]? = some a) (hb:l[j]? = some b) :
  Calls Tryz.prog 213 #[.pointer (some ⟨h,0,none⟩),.int .i64 (i:Int),.int .i64 (j:Int)] X fun e W=>(∃ u,e=.returned u)∧Hd w0 B h W v (swpL l i j)∧Tch (fun k=>v.ownBlock=some k) X W:=by
 have hil:=(List.getElem?_eq_some_iff.1 ha).1
 have hjl:=(List.getElem?_eq_some_iff.1 hb).1
 obtain⟨g,c,rfl,hlc,hg,hcell⟩:=H.form (by omega)
 have c0:=H.box.cell (i:=0) rfl
 obtain⟨p0,p1⟩:=hcell i a ha
 obtain⟨q0,q1⟩:=hcell j b hb
 obtain⟨Pa,ca,eva,-⟩:=H.rd a (List.mem_of_getElem? ha)
 obtain⟨Pb,cb,evb,-⟩:=H.rd b (List.mem_of_getElem? hb)
 obtain⟨W4,hW4⟩:∃ W4,W4=((X.setCell ⟨g,i*2,none⟩ b.v).setCell ⟨g,i*2+1,none⟩ (.int .i64 b.n)):=⟨_,rfl⟩
 obtain⟨W5,hW5⟩:∃ W5,W5=((W4.setCell ⟨g,j*2,none⟩ a.v).setCell ⟨g,j*2+1,none⟩ (.int .i64 a.n)):=⟨_,rfl⟩
 have s1:=(H.row.stored (i*2) b.v).1
 have s2:=(s1.stored (i*2+1) (.int .i64 b.n)).1
 rw[flat2_set l i b hil,← hW4] at s2
 have s3:=(s2.stored (j*2) a.v).1
 have s4:=(s3.stored (j*2+1) (.int .i64 a.n)).1
 rw[flat2_set (l.set i b) j a (by simpa using hjl),← hW5,← swpL_eq ha hb] at s4
 have hT:Tch (fun k=>k=g) X W5:=by
  rw[hW5,hW4]
  exact (((Tch.setCell (M:=fun k=>k=g) (g:=g) rfl _ _ _).same (Tch.setCell (M:=fun k=>k=g) (g:=g) rfl _ _ _)).same (Tch.setCell (M:=fun k=>k=g) (g:=g) rfl _ _ _)).same (Tch.setCell (M:=fun k=>k=g) (g:=g) rfl _ _ _)
 have hfin:Hd w0 B h W5 (.slice (some ⟨g,0,none⟩) l.length c) (swpL l i j):=H.row' hT (by rw[swpL_len];exact s4) (swpL_len l i j) (fun e he=>H.rd e ((swpL_perm l i j).mem_iff.1 he)) hg
 have z0:∀ k,X.frozen? ⟨g,k,none⟩=false:=fun k=>H.row.frozenAt k
 have z4:∀ k,W4.frozen? ⟨g,k,none⟩=false:=fun k=>s2.frozenAt k
 obtain⟨b',hb'⟩:∃ b',(l.set i b)[j]? = some b':=⟨_,List.getElem?_eq_getElem (by simpa using hjl)⟩
 obtain⟨A4,c4,e4,-,-,hc4⟩:=own_form s2
 cases e4
 obtain⟨g',eg,-,hc4⟩:=hc4 (by omega)
 cases eg
 have r0:=hc4 _ _ (flat2_at hb').1
 have r1:=hc4 _ _ (flat2_at hb').2
 obtain⟨Pc,mc,cc,er⟩:∃ Pc mc cc,b'.v=.slice (some Pc) mc cc:=by
  obtain⟨P',c',e',-⟩:=H.rd b' (by
   rcases List.mem_or_eq_of_mem_set (List.mem_of_getElem? hb') with h1 | h1
   ·exact h1
   ·rw[h1];exact List.mem_of_getElem? hb)
  exact⟨_,_,_,e'⟩
 rw[er] at r0
 obtain⟨ma,ema⟩:∃ z,z=a.J.length:=⟨_,rfl⟩
 obtain⟨mb,emb⟩:∃ z,z=b.J.length:=⟨_,rfl⟩
 obtain⟨na,ena⟩:∃ z,z=a.n:=⟨_,rfl⟩
 obtain⟨nb,enb⟩:∃ z,z=b.n:=⟨_,rfl⟩
 obtain⟨nc,enc⟩:∃ z,z=b'.n:=⟨_,rfl⟩
 rw[← enc] at r1
 rw[eva,← ema] at p0 hW5
 rw[evb,← emb] at q0 hW4
 rw[← ena] at p1 hW5
 rw[← enb] at q1 hW4
 obtain⟨N,hN⟩:∃ N,N=l.length:=⟨_,rfl⟩
 rw[← hN] at hil hjl c0 hfin ⊢
 have i0:(0:Int)≤(i:Int):=by omega
 have i1:(i:Int)<(N:Int):=by omega
 have j0:(0:Int)≤(j:Int):=by omega
 have j1:(j:Int)<(N:Int):=by omega
 have HFIN:=Lib.hid (show Hd w0 B h W5.drew (.slice (some ⟨g,0,none⟩) N c) (swpL l i j)∧Tch (fun k=>(Value.slice (some ⟨g,0,none⟩) N c).ownBlock=some k) X W5.drew from ⟨hfin.below ((Below.refl _ _).drew),(hT.mono fun k _ e=>by rw[e];rfl).same (Tch.of_below _ ((Below.refl _ _).drew))⟩)
 have HW4:=Lib.hid hW4
 have HW5:=Lib.hid hW5
 clear hcell eva evb ema emb ena enb enc hN hlc hg ha hb H s1 s2 s3 s4 hT hfin hW4 hW5 hb' hc4 er
 go_enter Tryz.func213,Tryz.ntmps213
 go_upto_region 0 with (fail)
 refine region_P (S:=fun W=>W.cell? ⟨h,0,none⟩=some (.slice (some ⟨g,0,none⟩) N c)∧W.cell? ⟨g,i*2,none⟩=some (.slice (some Pa) ma ca)∧W.cell? ⟨g,i*2+1,none⟩=some (.int .i64 na)∧W.cell? ⟨g,j*2,none⟩=some (.slice (some Pb) mb cb)∧W.cell? ⟨g,j*2+1,none⟩=some (.int .i64 nb)) (kill:=[25,27]) (by kernel_rfl) ⟨c0,p0,p1,q0,q1⟩ (fun hHeld=>?_)
 refine WTP (i:=0) (v:=?vsa0) ?ysa0 hHeld ?rsa0
 case ysa0=>(intro W hW;obtain⟨g0,g1,g2,g3,g4⟩:=hW;go_simp;first | done | with_reducible rfl)
 try simp only[SL,Act.put]
 refine WTP (i:=1) (v:=?vsa1) ?ysa1 hHeld ?rsa1
 case ysa1=>(intro W hW;obtain⟨g0,g1,g2,g3,g4⟩:=hW;go_simp;first | done | with_reducible rfl)
 try simp only[SL,Act.put]
 refine WTP (i:=2) (v:=?vsa2) ?ysa2 hHeld ?rsa2
 case ysa2=>(intro W hW;obtain⟨g0,g1,g2,g3,g4⟩:=hW;go_simp;first | done | with_reducible rfl)
 try simp only[SL,Act.put]
 refine WTP (i:=3) (v:=?vsa3) ?ysa3 hHeld ?rsa3
 case ysa3=>(intro W hW;obtain⟨g0,g1,g2,g3,g4⟩:=hW;go_simp;first | done | with_reducible rfl)
 try simp only[SL,Act.put]
 refine WTP (i:=4) (v:=?vsa4) ?ysa4 hHeld ?rsa4
 case ysa4=>(intro W hW;obtain⟨g0,g1,g2,g3,g4⟩:=hW;go_simp;first | done | with_reducible rfl)
 try simp only[SL,Act.put]
 refine WTP (i:=5) (v:=?vsa5) ?ysa5 hHeld ?rsa5
 case ysa5=>(intro W hW;obtain⟨g0,g1,g2,g3,g4⟩:=hW;go_simp;first | done | with_reducible rfl)
 try simp only[SL,Act.put]
 refine WTP (i:=6) (v:=?vsa6) ?ysa6 hHeld ?rsa6
 case ysa6=>(intro W hW;obtain⟨g0,g1,g2,g3,g4⟩:=hW;go_simp;first | done | with_reducible rfl)
 try simp only[SL,Act.put]
 refine WTP (i:=7) (v:=?vsa7) ?ysa7 hHeld ?rsa7
 case ysa7=>(intro W hW;obtain⟨g0,g1,g2,g3,g4⟩:=hW;go_simp;first | done | with_reducible rfl)
 try simp only[SL,Act.put]
 refine WTP (i:=8) (v:=?vsa8) ?ysa8 hHeld ?rsa8
 case ysa8=>(intro W hW;obtain⟨g0,g1,g2,g3,g4⟩:=hW;go_simp;first | done | with_reducible rfl)
 try simp only[SL,Act.put]
 refine anyP_pure (i:=9) (v:=?vsa9) rfl (by kernel_rfl) (by kernel_rfl) (by kernel_rfl) (by kernel_rfl) (fun _ _ _ h=>h) (Or.inl ⟨by rfl,?ysa9⟩) ?rsa9
 case ysa9=>(intro W hW;go_simp;first | done | with_reducible rfl)
 try simp only[SL,Act.put]
 refine WTP (i:=10) (v:=?vsa10) ?ysa10 hHeld ?rsa10
 case ysa10=>(intro W hW;obtain⟨g0,g1,g2,g3,g4⟩:=hW;go_simp;first | done | with_reducible rfl)
 try simp only[SL,Act.put]
 refine WTP (i:=11) (v:=?vsa11) ?ysa11 hHeld ?rsa11
 case ysa11=>(intro W hW;obtain⟨g0,g1,g2,g3,g4⟩:=hW;go_simp;first | done | with_reducible rfl)
 try simp only[SL,Act.put]
 refine WTP (i:=12) (v:=?vsa12) ?ysa12 hHeld ?rsa12
 case ysa12=>(intro W hW;obtain⟨g0,g1,g2,g3,g4⟩:=hW;go_simp;first | done | with_reducible rfl)
 try simp only[SL,Act.put]
 refine WTP (i:=13) (v:=?vsa13) ?ysa13 hHeld ?rsa13
 case ysa13=>(intro W hW;obtain⟨g0,g1,g2,g3,g4⟩:=hW;go_simp;first | done | with_reducible rfl)
 try simp only[SL,Act.put]
 refine WTP (i:=14) (v:=?vsa14) ?ysa14 hHeld ?rsa14
 case ysa14=>(intro W hW;obtain⟨g0,g1,g2,g3,g4⟩:=hW;go_simp;first | done | with_reducible rfl)
 try simp only[SL,Act.put]
 refine WTP (i:=15) (v:=?vsa15) ?ysa15 hHeld ?rsa15
 case ysa15=>(intro W hW;obtain⟨g0,g1,g2,g3,g4⟩:=hW;go_simp;first | done | with_reducible rfl)
 try simp only[SL,Act.put]
 refine WTP (i:=16) (v:=?vsa16) ?ysa16 hHeld ?rsa16
 case ysa16=>(intro W hW;obtain⟨g0,g1,g2,g3,g4⟩:=hW;go_simp;first | done | with_reducible rfl)
 try simp only[SL,Act.put]
 refine WTP (i:=17) (v:=?vsa17) ?ysa17 hHeld ?rsa17
 case ysa17=>(intro W hW;obtain⟨g0,g1,g2,g3,g4⟩:=hW;go_simp;first | done | with_reducible rfl)
 try simp only[SL,Act.put]
 refine WTP (i:=18) (v:=?vsa18) ?ysa18 hHeld ?rsa18
 case ysa18=>(intro W hW;obtain⟨g0,g1,g2,g3,g4⟩:=hW;go_simp;first | done | with_reducible rfl)
 try simp only[SL,Act.put]
 refine WTP (i:=19) (v:=?vsa19) ?ysa19 hHeld ?rsa19
 case ysa19=>(intro W hW;obtain⟨g0,g1,g2,g3,g4⟩:=hW;go_simp;first | done | with_reducible rfl)
 try simp only[SL,Act.put]
 refine WTP (i:=20) (v:=?vsa20) ?ysa20 hHeld ?rsa20
 case ysa20=>(intro W hW;obtain⟨g0,g1,g2,g3,g4⟩:=hW;go_simp;first | done | with_reducible rfl)
 try simp only[SL,Act.put]
 refine WTP (i:=21) (v:=?vsa21) ?ysa21 hHeld ?rsa21
 case ysa21=>(intro W hW;obtain⟨g0,g1,g2,g3,g4⟩:=hW;go_simp;first | done | with_reducible rfl)
 try simp only[SL,Act.put]
 refine WTP (i:=22) (v:=?vsa22) ?ysa22 hHeld ?rsa22
 case ysa22=>(intro W hW;obtain⟨g0,g1,g2,g3,g4⟩:=hW;go_simp;first | done | with_reducible rfl)
 try simp only[SL,Act.put]
 refine WTP (i:=23) (v:=?vsa23) ?ysa23 hHeld ?rsa23
 case ysa23=>(intro W hW;obtain⟨g0,g1,g2,g3,g4⟩:=hW;go_simp;first | done | with_reducible rfl)
 try simp only[SL,Act.put]
 refine WTP (i:=24) (v:=?vsa24) ?ysa24 hHeld ?rsa24
 case ysa24=>(intro W hW;obtain⟨g0,g1,g2,g3,g4⟩:=hW;go_simp;first | done | with_reducible rfl)
 try simp only[SL,Act.put]
 refine anyP_ready (rs:=[25]) (by kernel_rfl) (by simp) ?_
 refine AllP.cons rfl (fun K hK=>?_) (AllP.nil)
 go_simp
 rw[← HW4.out]
 refine hK.out _ _ (fun h=>absurd (by decide) h) ?_
 clear hK K
 try simp only[SL,Act.put]
 clear z0 p0 p1 q0 q1
 refine anyP_pure (i:=26) (v:=?vsa26) rfl (by kernel_rfl) (by kernel_rfl) (by kernel_rfl) (by kernel_rfl) (fun _ _ _ h=>h) (Or.inl ⟨by rfl,?ysa26⟩) ?rsa26
 case ysa26=>(intro W hW;go_simp;first | done | with_reducible rfl)
 try simp only[SL,Act.put]
 refine anyP_ready (rs:=[27]) (by kernel_rfl) (by simp) ?_
 refine AllP.cons rfl (fun K hK=>?_) (AllP.nil)
 go_simp
 rw[← HW5.out]
 refine hK.out _ _ (fun h=>absurd (by decide) h) ?_
 clear hK K
 try simp only[SL,Act.put]
 refine anyP_done (by kernel_rfl) ?_ _
 clear z4 r0 r1
 go_wp2
 go_end0
 exact⟨⟨_,rfl⟩,HFIN.out⟩
end Go.Proofs.YtnjlkhhcfiedbaaGreatDoor
namespace Go.Proofs.YtnjlkhhcfiedbaaGreatDoor
open Go.RowKit Go.Shelf Go.Sort
attribute [local go_sem] Oper.semAt_some
theorem meth_hlen (f : Nat) (x : Value) (w : World) : Sem.run Tryz.prog (method (f + 1) 149 x "Len") w = .ok (118, x) w := by kernel_rfl
theorem meth_hless (f : Nat) (x : Value) (w : World) : Sem.run Tryz.prog (method (f + 1) 149 x "Less") w = .ok (210, x) w := by kernel_rfl
theorem meth_hswap (f : Nat) (x : Value) (w : World) : Sem.run Tryz.prog (method (f + 1) 149 x "Swap") w = .ok (213, x) w := by kernel_rfl
theorem meth_hpush (f : Nat) (x : Value) (w : World) : Sem.run Tryz.prog (method (f + 1) 149 x "Push") w = .ok (212, x) w := by kernel_rfl
theorem meth_hpop (f : Nat) (x : Value) (w : World) : Sem.run Tryz.prog (method (f + 1) 149 x "Pop") w = .ok (211, x) w := by kernel_rfl
set_option maxRecDepth 100000 in
set_option maxHeartbeats 4000000 in
theorem hup_any (w0:World) (B h j:Nat) (X:World) (v:Value) (l:List Rs) (H:Hd w0 B h X v l) (hj:j<l.length) (hl:l.length≤1000000) (hU:UpI leR j l) (hne:∀ e ∈ l,e.J ≠ []) :
  Calls Tryz.prog 166 #[.iface 149 (.pointer (some ⟨h,0,none⟩)),.int .i64 (j:Int)] X fun e W=>(∃ u,e=.returned u)∧(∃ l',Hd w0 B h W v l'∧l'.Perm l∧HepN leR l'.length l')∧Tch (fun k=>v.ownBlock=some k) X W:=by
 have HU:=Lib.hid hU
 have HJ:=Lib.hid hj
 have H0:=Lib.hid H
 obtain⟨N,hN⟩:∃ N,N=l.length:=⟨_,rfl⟩
 have HN:=Lib.hid hN
 have HNE:=Lib.hid hne
 clear hU hj H hN hne
 go_enter Tryz.func166,Tryz.ntmps166
 go_wp2_with fail
 go_loopw [1] (fun p wr=>∃ (jj:Nat) (l':List Rs),p=.int .i64 (jj:Int)∧jj<N∧l'.length=N∧Hd w0 B h wr v l'∧l'.Perm l∧UpI leR jj l'∧Tch (fun k=>v.ownBlock=some k) X wr) (fun p _=>(intOf p).toNat)
 case atStart=>exact⟨j,l,rfl,by rw[HN.out];exact HJ.out,HN.out.symm,H0.out,List.Perm.refl _,HU.out,Tch.refl _ _⟩
 case round =>
  obtain⟨jj,l',rfl,hjj,hln,HH,hp,hU,ht⟩:=hrel
  rename World=>wr
  have HP:=Lib.hid hp
  have HUU:=Lib.hid hU
  have HT:=Lib.hid ht
  have HHH:=Lib.hid HH
  have HLN:=Lib.hid hln
  clear hp hU ht HH hln
  rcases Nat.eq_zero_or_pos jj with rfl | h0
  ·have e1:IntKind.i64.wrap ((((0:Nat):Int) - 1))=-1:=by decide
   have e2:IntKind.i64.wrap ((-1:Int).tdiv 2)=0:=by decide
   go_wp2_with fail
   go_end0
   exact⟨⟨_,rfl⟩,⟨l',HHH.out,HP.out,HUU.out.top⟩,HT.out⟩
  ·obtain⟨jp,hjp⟩:∃ jp,jp=jj - 1:=⟨_,rfl⟩
   obtain⟨p,hpp⟩:∃ p,p=(jj - 1) / 2:=⟨_,rfl⟩
   have hjm:jj<1000000:=by have:=HN.out;omega
   have e1:IntKind.i64.wrap ((jj:Int) - 1)=(jp:Int):=by rw[IntWalk.i64_in _ (by omega)];omega
   have e2:IntKind.i64.wrap ((jp:Int).tdiv 2)=(p:Int):=by
    rw[Int.tdiv_eq_ediv_of_nonneg (by omega),show (jp:Int) / 2=(p:Int) by omega];exact IntWalk.i64_in _ (by omega)
   have e5:wrap64 ((jp:Int) / 2)=(p:Int):=by rw[show (jp:Int) / 2=(p:Int) by omega];exact IntWalk.wrap64_in _ (by omega)
   have hlt:p<jj:=by omega
   have e3:decide ((p:Int)=(jj:Int))=false:=by simp;omega
   have e4:¬ ((p:Int)=(jj:Int)):=by omega
   obtain⟨a,ha⟩:∃ a,l'[jj]? = some a:=⟨_,List.getElem?_eq_getElem (by rw[HLN.out];exact hjj)⟩
   obtain⟨b,hb⟩:∃ b,l'[p]? = some b:=⟨_,List.getElem?_eq_getElem (by rw[HLN.out];omega)⟩
   have HLE:=Lib.hid (hless_any w0 B h jj p wr v l' a b HHH.out ha hb (HNE.out _ (HP.out.mem_iff.1 (List.mem_of_getElem? ha))) (HNE.out _ (HP.out.mem_iff.1 (List.mem_of_getElem? hb))))
   have HA:=Lib.hid ha
   have HBB:=Lib.hid hb
   have HPP:=Lib.hid (And.intro hpp hlt)
   clear hjp hpp ha hb hlt
   go_wp2_with fail
   rw[meth_hless]
   go_simp
   refine HLE.out.mono ?_
   rintro e w1 ⟨r,rfl,hr1,hr2,hb1⟩
   have HR1:=Lib.hid hr1
   have HR2:=Lib.hid hr2
   have HB1:=Lib.hid hb1
   have HH1:=HHH.out.below hb1
   clear hr1 hr2 hb1
   cases r with
   | false =>
    have HF:=Lib.hid (show (∃ l',Hd w0 B h w1 v l'∧l'.Perm l∧HepN leR l'.length l')∧Tch (fun k=>v.ownBlock=some k) X w1 from ⟨⟨l',HH1,HP.out,HUU.out.done (by rw[← HPP.out.1];exact HBB.out) HA.out (HR2.out rfl)⟩,HT.out.same (Tch.of_below _ HB1.out)⟩)
    clear HH1
    go_wp2_with fail
    go_end0
    exact⟨⟨_,rfl⟩,HF.out⟩
   | true =>
    have HSW:=Lib.hid (hswap_any w0 B h p jj w1 v l' b a HH1 HBB.out HA.out)
    have HU2:=Lib.hid (UpI.swap (le:=leR) (fun {a b c} q r=>leR_trans q r) HUU.out h0 (by rw[← HPP.out.1];exact HBB.out) HA.out (HR1.out rfl))
    clear HH1
    go_wp2_with fail
    rw[meth_hswap]
    go_simp
    refine HSW.out.mono ?_
    rintro e w2 ⟨⟨u,rfl⟩,hh2,ht2⟩
    have HE:=Lib.hid (show p<N∧(swpL l' p jj).length=N∧Hd w0 B h w2 v (swpL l' p jj)∧(swpL l' p jj).Perm l∧UpI leR p (swpL l' p jj)∧Tch (fun k=>v.ownBlock=some k) X w2 from ⟨Nat.lt_trans HPP.out.2 hjj,by rw[swpL_len];exact HLN.out,hh2,(swpL_perm _ _ _).trans HP.out,by have q:=HU2.out;rw[← HPP.out.1] at q;exact q,(HT.out.same (Tch.of_below _ HB1.out)).same ht2⟩)
    clear hh2 ht2
    go_wp2_with fail
    go_roundw
    case rel=>exact⟨p,_,rfl,HE.out⟩
    case measure=>simp[intOf];exact HPP.out.2
end Go.Proofs.YtnjlkhhcfiedbaaGreatDoor

import Derived.ScopeJumps
import Derived.WalkMore
import Derived.IntWalk
import Derived.Test.YtnjlkhhcfiedbaaGreatDoorSl
import Derived.Test.YtnjlkhhcfiedbaaGreatDoorHsh5
import Derived.Test.YtnjlkhhcfiedbaaGreatDoorExQ
import Derived.Test.YtnjlkhhcfiedbaaGreatDoorCel9
namespace Go.Proofs.YtnjlkhhcfiedbaaGreatDoor
open Go.RowKit
attribute [local go_sem] Oper.semAt_some
def SlotAt (w:World) (g i:Nat):Option Cel→Prop
 | none=>w.cell? ⟨g,i*6+5,none⟩=some (.bool false)
 | some x=>w.cell? ⟨g,i*6+5,none⟩=some (.bool true)∧CellAt w ⟨g,i*6,none⟩ x
def TabR (w:World) (g:Nat) (ts:List (Option Cel)):Prop:=∀ i t,ts[i]? = some t→SlotAt w g i t
theorem SlotAt.keep {w w':World} {g i:Nat} {t:Option Cel} (h:SlotAt w g i t) (hk:Keeps w w'):SlotAt w' g i t:=by
 cases t with
 | none=>exact hk _ _ h
 | some x=>exact⟨hk _ _ h.1,h.2.keep hk⟩
def meas (n:Nat) (a:Act):Nat:=n - ((intOf (a.tmps.getD 6 undef) - intOf (a.tmps.getD 5 undef)) % (n:Int)).toNat
theorem meas_at {P n i:Nat} (hP:P<n) (hi:i<n):((((P+i) % n:Nat):Int) - (P:Int)) % (n:Int)=(i:Int):=by
 rcases Nat.lt_or_ge (P+i) n with h | h
 ·rw[Nat.mod_eq_of_lt h,show ((P+i:Nat):Int) - (P:Int)=(i:Int) by omega,Int.emod_eq_of_lt (by omega) (by omega)]
 ·rw[Nat.mod_eq_sub_mod h,Nat.mod_eq_of_lt (by omega),show ((P+i - n:Nat):Int) - (P:Int)=(i:Int)+(n:Int)*(-1) by omega,Int.add_mul_emod_self_left,Int.emod_eq_of_lt (by omega) (by omega)]
theorem meth_place (f : Nat) (x : Value) (w : World) : Sem.run Tryz.prog (method (f + 1) 163 x "hypercube/hash.place") w = .ok (216, x) w := by kernel_rfl
theorem meth_like (f : Nat) (x : Value) (w : World) : Sem.run Tryz.prog (method (f + 1) 163 x "hypercube/hash.like") w = .ok (215, x) w := by kernel_rfl
set_option maxRecDepth 100000 in
set_option maxHeartbeats 4000000 in
theorem seek_any (T g n c:Nat) (ts:List (Option Cel)) (k s nn m:Value) (x:Cel) (w:World) (hln:ts.length=n) (hR:TabR w g ts) (hky:∀ (i:Nat) (y:Cel),ts[i]? = some (some y)→y.key.length≤1000) (hT:w.cell? ⟨T,0,none⟩=some (.slice (some ⟨g,0,none⟩) n c)) (hn1:1≤n) (hn2:n≤10000) (hx:CR w k s nn m x) (hl:x.key.length≤1000) (hok:okK x.key=true) :
  Calls Tryz.prog 155 #[.pointer (some ⟨T,0,none⟩),.agg #[k,.int .i64 x.cnt,s,nn,m]] w fun e w'=>e=.returned (.pointer ((seekT ts x.key).map fun i=>⟨g,i*6,none⟩))∧Below w.heap.size w w':=by
 have HLK:=Lib.hid (fun (W:World) (hk:Keeps w W) (kk ss n2 mm:Value) (y:Cel) (hy:CR W kk ss n2 mm y) (h1:y.key.length≤1000)=>like_any kk ss n2 mm k s nn m y x W hy (hx.keep hk) (by omega) (by omega))
 have HPL:=Lib.hid (fun (W:World) (hk:Keeps w W)=>hplace_any k s nn m x W (hx.keep hk) hl hok)
 obtain⟨⟨Pk,ck,rfl,-⟩,⟨Ps,cs,rfl,-⟩,⟨Pn,cn,rfl,-⟩,⟨Pm,cm,rfl,-⟩⟩:=hx
 obtain⟨c1,e1⟩:∃ z,z=x.cnt:=⟨_,rfl⟩
 obtain⟨l1,f1⟩:∃ z,z=x.key.length:=⟨_,rfl⟩
 obtain⟨l2,f2⟩:∃ z,z=x.sum.length:=⟨_,rfl⟩
 obtain⟨l3,f3⟩:∃ z,z=x.mn.length:=⟨_,rfl⟩
 obtain⟨l4,f4⟩:∃ z,z=x.mx.length:=⟨_,rfl⟩
 rw[← e1,← f1,← f2,← f3,← f4] at HPL HLK ⊢
 clear e1 f1 f2 f3 f4
 have o1:Own 163 (w.alloc (.cells #[.slice Pk l1 ck,.int .i64 c1,.slice Ps l2 cs,.slice Pn l3 cn,.slice Pm l4 cm] 163)) w.heap.size [.slice Pk l1 ck,.int .i64 c1,.slice Ps l2 cs,.slice Pn l3 cn,.slice Pm l4 cm]:=heap_alloc_new w _
 have hb1:Below w.heap.size w (w.alloc (.cells #[.slice Pk l1 ck,.int .i64 c1,.slice Ps l2 cs,.slice Pn l3 cn,.slice Pm l4 cm] 163)):=(Below.refl _ w).alloc (Nat.le_refl _) _
 have hn0:((n:Int) == 0)=false:=by simp;omega
 have hnz:¬ n=0:=by omega
 obtain⟨P,hP⟩:∃ P,P=plcN x.key n:=⟨_,rfl⟩
 have hPn:P<n:=by rw[hP];exact plcN_lt _ (by omega)
 have hPm:(hashI x.key).tmod (n:Int)=(P:Int):=by rw[Int.tmod_eq_emod_of_nonneg (hashI_in x.key).1,hP,plcN_mod]
 have HR:=Lib.hid hR
 have HKY:=Lib.hid hky
 have HSK:Hid (∀ i,i<n→∃ t,ts[(P+i) % n]? = some t∧seekF ts x.key ((P+i) % n) (n - i)=match t with
  | none=>some ((P+i) % n)
  | some y=>if y.key=x.key then some ((P+i) % n) else seekF ts x.key ((P+(i+1)) % n) (n - (i+1))):=Lib.hid (fun i hi=>by
  have:=seek_step ts x.key i (by rw[hln];exact hi)
  rw[hln,← hP] at this
  exact this)
 have HST:Hid (seekF ts x.key ((P+0) % n) (n - 0)=seekT ts x.key):=Lib.hid (by
  have:=seek_start ts x.key (by rw[hln];exact hn1)
  rw[hln,← hP] at this
  exact this)
 clear hP hR hky hln
 go_enter Tryz.func155,Tryz.ntmps155
 go_wp2_with fail
 generalize w.alloc (.cells #[.slice Pk l1 ck,.int .i64 c1,.slice Ps l2 cs,.slice Pn l3 cn,.slice Pm l4 cm] 163)=w1 at o1 hb1 ⊢
 have hT1:=Keeps.of_below hb1 _ _ hT
 have HB1:=Lib.hid hb1
 obtain⟨b,eb⟩:∃ b,b=w.heap.size:=⟨_,rfl⟩
 rw[← eb] at o1 ⊢
 have bx:=o1.bx
 have Eb:=Lib.hid eb
 clear hb1 o1 hT eb
 refine wp_scope_jumps 0 (fun a' w'=>∃ (i:Nat) (u7 u8 u9 u10 u11 u12 u13 u14 u15 u16 u17 u18 u19 u20 u21 u22 u23 u24 u25 u26 u27 u28 u29 u30 u31 u32 u33 u34 u35 u36 u37 u38 u39 u40 u41 u42 u43 u44 u45 u46 u47 u48 u49 u50 u51 u52 u53 u54 u55:Value),i<n∧a'={ tmps:=#[Value.pointer (some ⟨T,0,none⟩),Value.agg #[.slice Pk l1 ck,.int .i64 c1,.slice Ps l2 cs,.slice Pn l3 cn,.slice Pm l4 cm],undef,Value.pointer (some ⟨b,0,none⟩),Value.pointer none,Value.int .i64 (P:Int),Value.int .i64 (((P+i) % n:Nat):Int),u7,u8,u9,u10,u11,u12,u13,u14,u15,u16,u17,u18,u19,u20,u21,u22,u23,u24,u25,u26,u27,u28,u29,u30,u31,u32,u33,u34,u35,u36,u37,u38,u39,u40,u41,u42,u43,u44,u45,u46,u47,u48,u49,u50,u51,u52,u53,u54,u55],defers:=[] }∧seekF ts x.key ((P+i) % n) (n - i)=seekT ts x.key∧Below w1.heap.size w1 w') (fun a' _=>meas n a') rfl ?first ?pass
 case pass =>
  rintro a' wj ⟨i,u7,u8,u9,u10,u11,u12,u13,u14,u15,u16,u17,u18,u19,u20,u21,u22,u23,u24,u25,u26,u27,u28,u29,u30,u31,u32,u33,u34,u35,u36,u37,u38,u39,u40,u41,u42,u43,u44,u45,u46,u47,u48,u49,u50,u51,u52,u53,u54,u55,hi,rfl,hsk,hbj⟩
  have HBJ:=Lib.hid hbj
  clear hbj
  obtain⟨t,ht,hstep⟩:=HSK.out (i) hi
  rw[hsk] at hstep
  have hst:=((HR.out _ t ht).keep (Keeps.of_below HB1.out)).keep (Keeps.of_below HBJ.out)
  have hT2:=Keeps.of_below HBJ.out _ _ hT1
  have bx2:=bx.keep (Keeps.of_below HBJ.out)
  have hlt:(P+(i)) % n<n:=Nat.mod_lt _ (by omega)
  obtain⟨A,hA⟩:∃ A,A=(P+(i)) % n:=⟨_,rfl⟩
  rw[← hA] at hstep hst hlt ht ⊢
  have HA:=Lib.hid hA
  have A0:(0:Int)≤(A:Int):=by omega
  have A1:(A:Int)<(n:Int):=by omega
  clear hA
  go_wp2_with fail
  cases t with
  | none =>
   have hs:wj.cell? ⟨g,A*6+5,none⟩=some (.bool false):=hst
   simp only at hstep
   clear hst
   refine wp_region_held_drew (S:=fun W=>W.cell? ⟨g,A*6+5,none⟩=some (.bool false)) (by kernel_rfl) hs (fun hHeld=>?_)
   refine WTH (i:=0) (v:=?vpa0) ?ypa0 hHeld ?rpa0
   case ypa0=>(intro W hW;obtain hW0:=hW;go_simp;first | done | with_reducible rfl)
   try simp only[SL,Act.put]
   refine WTH (i:=1) (v:=?vpa1) ?ypa1 hHeld ?rpa1
   case ypa1=>(intro W hW;obtain hW0:=hW;go_simp;first | done | with_reducible rfl)
   try simp only[SL,Act.put]
   refine WTH (i:=2) (v:=?vpa2) ?ypa2 hHeld ?rpa2
   case ypa2=>(intro W hW;obtain hW0:=hW;go_simp;first | done | with_reducible rfl)
   try simp only[SL,Act.put]
   refine WTH (i:=3) (v:=?vpa3) ?ypa3 hHeld ?rpa3
   case ypa3=>(intro W hW;obtain hW0:=hW;go_simp;first | done | with_reducible rfl)
   try simp only[SL,Act.put]
   refine WTH (i:=4) (v:=?vpa4) ?ypa4 hHeld ?rpa4
   case ypa4=>(intro W hW;obtain hW0:=hW;go_simp;first | done | with_reducible rfl)
   try simp only[SL,Act.put]
   refine WTH (i:=5) (v:=?vpa5) ?ypa5 hHeld ?rpa5
   case ypa5=>(intro W hW;obtain hW0:=hW;go_simp;first | done | with_reducible rfl)
   try simp only[SL,Act.put]
   refine wpAnyH_take (i:=6) (v:=undef) rfl (by kernel_rfl) (by kernel_rfl) (by kernel_rfl) (fun _ _ _ h=>h) (Or.inr ⟨by rfl,rfl⟩) hHeld ?rpa6
   try simp only[SL,Act.put]
   refine wpAnyH_take (i:=7) (v:=undef) rfl (by kernel_rfl) (by kernel_rfl) (by kernel_rfl) (fun _ _ _ h=>h) (Or.inr ⟨by rfl,rfl⟩) hHeld ?rpa7
   try simp only[SL,Act.put]
   refine wpAnyH_take (i:=8) (v:=undef) rfl (by kernel_rfl) (by kernel_rfl) (by kernel_rfl) (fun _ _ _ h=>h) (Or.inr ⟨by rfl,rfl⟩) hHeld ?rpa8
   try simp only[SL,Act.put]
   refine wpAnyH_take (i:=9) (v:=undef) rfl (by kernel_rfl) (by kernel_rfl) (by kernel_rfl) (fun _ _ _ h=>h) (Or.inr ⟨by rfl,rfl⟩) hHeld ?rpa9
   try simp only[SL,Act.put]
   refine wpAnyH_take (i:=10) (v:=undef) rfl (by kernel_rfl) (by kernel_rfl) (by kernel_rfl) (fun _ _ _ h=>h) (Or.inr ⟨by rfl,rfl⟩) hHeld ?rpa10
   try simp only[SL,Act.put]
   refine wpAnyH_take (i:=11) (v:=undef) rfl (by kernel_rfl) (by kernel_rfl) (by kernel_rfl) (fun _ _ _ h=>h) (Or.inr ⟨by rfl,rfl⟩) hHeld ?rpa11
   try simp only[SL,Act.put]
   refine wpAnyH_take (i:=12) (v:=undef) rfl (by kernel_rfl) (by kernel_rfl) (by kernel_rfl) (fun _ _ _ h=>h) (Or.inr ⟨by rfl,rfl⟩) hHeld ?rpa12
   try simp only[SL,Act.put]
   refine WTH (i:=13) (v:=?vpa13) ?ypa13 hHeld ?rpa13
   case ypa13=>(intro W hW;obtain hW0:=hW;go_simp;first | done | with_reducible rfl)
   try simp only[SL,Act.put]
   refine wpAnyH_done (by kernel_rfl) ?_ _
   clear hHeld
   have HS:=Lib.hid hstep
   clear hstep
   go_wp2
   simp only[Exit.jump]
   go_ret
   exact⟨by rw[HS.out];rfl,HB1.out.trans ((HBJ.out.drew).mono HB1.out.size)⟩
  | some y =>
   obtain⟨hs,kk,ss,n2,mm,q0,q1,q2,q3,q4,hcr,-⟩:=hst
   have hl2:=HKY.out _ y ht
   have kall:=(Keeps.of_below HB1.out).trans (Keeps.of_below HBJ.out)
   have HLL:=Lib.hid (HLK.out wj.drew kall kk ss n2 mm y (hcr.keep (Keeps.of_below (Below.refl _ _).drew)) hl2)
   simp only at hstep
   clear ht hcr kall hl2
   by_cases hyx:y.key=x.key
   ·rw[if_pos hyx] at hstep
    rw[decide_eq_true hyx] at HLL
    clear hyx
    refine wp_region_held_drew (S:=fun W=>W.cell? ⟨g,A*6+5,none⟩=some (.bool true)∧W.cell? ⟨g,A*6,none⟩=some kk∧W.cell? ⟨g,A*6+1,none⟩=some (.int .i64 y.cnt)∧W.cell? ⟨g,A*6+2,none⟩=some ss∧W.cell? ⟨g,A*6+3,none⟩=some n2∧W.cell? ⟨g,A*6+4,none⟩=some mm∧Bx W b (.slice Pk l1 ck) (.int .i64 c1) (.slice Ps l2 cs) (.slice Pn l3 cn) (.slice Pm l4 cm)) (by kernel_rfl) ⟨hs,q0,q1,q2,q3,q4,bx2⟩ (fun hHeld=>?_)
    refine WTH (i:=0) (v:=?vpb0) ?ypb0 hHeld ?rpb0
    case ypb0=>(intro W hW;obtain⟨hW0,p0,p1,p2,p3,p4,h0,h1,h2,h3,h4⟩:=hW;go_simp;first | done | with_reducible rfl)
    try simp only[SL,Act.put]
    refine WTH (i:=1) (v:=?vpb1) ?ypb1 hHeld ?rpb1
    case ypb1=>(intro W hW;obtain⟨hW0,p0,p1,p2,p3,p4,h0,h1,h2,h3,h4⟩:=hW;go_simp;first | done | with_reducible rfl)
    try simp only[SL,Act.put]
    refine WTH (i:=2) (v:=?vpb2) ?ypb2 hHeld ?rpb2
    case ypb2=>(intro W hW;obtain⟨hW0,p0,p1,p2,p3,p4,h0,h1,h2,h3,h4⟩:=hW;go_simp;first | done | with_reducible rfl)
    try simp only[SL,Act.put]
    refine WTH (i:=3) (v:=?vpb3) ?ypb3 hHeld ?rpb3
    case ypb3=>(intro W hW;obtain⟨hW0,p0,p1,p2,p3,p4,h0,h1,h2,h3,h4⟩:=hW;go_simp;first | done | with_reducible rfl)
    try simp only[SL,Act.put]
    refine WTH (i:=4) (v:=?vpb4) ?ypb4 hHeld ?rpb4
    case ypb4=>(intro W hW;obtain⟨hW0,p0,p1,p2,p3,p4,h0,h1,h2,h3,h4⟩:=hW;go_simp;first | done | with_reducible rfl)
    try simp only[SL,Act.put]
    refine WTH (i:=5) (v:=?vpb5) ?ypb5 hHeld ?rpb5
    case ypb5=>(intro W hW;obtain⟨hW0,p0,p1,p2,p3,p4,h0,h1,h2,h3,h4⟩:=hW;go_simp;first | done | with_reducible rfl)
    try simp only[SL,Act.put]
    refine WTH (i:=6) (v:=?vpb6) ?ypb6 hHeld ?rpb6
    case ypb6=>(intro W hW;obtain⟨hW0,p0,p1,p2,p3,p4,h0,h1,h2,h3,h4⟩:=hW;go_simp;first | done | with_reducible rfl)
    try simp only[SL,Act.put]
    refine WTH (i:=7) (v:=?vpb7) ?ypb7 hHeld ?rpb7
    case ypb7=>(intro W hW;obtain⟨hW0,p0,p1,p2,p3,p4,h0,h1,h2,h3,h4⟩:=hW;go_simp;first | done | with_reducible rfl)
    try simp only[SL,Act.put]
    refine WTH (i:=8) (v:=?vpb8) ?ypb8 hHeld ?rpb8
    case ypb8=>(intro W hW;obtain⟨hW0,p0,p1,p2,p3,p4,h0,h1,h2,h3,h4⟩:=hW;go_simp;first | done | with_reducible rfl)
    try simp only[SL,Act.put]
    refine WTH (i:=9) (v:=?vpb9) ?ypb9 hHeld ?rpb9
    case ypb9=>(intro W hW;obtain⟨hW0,p0,p1,p2,p3,p4,h0,h1,h2,h3,h4⟩:=hW;go_simp;first | done | with_reducible rfl)
    try simp only[SL,Act.put]
    refine WTH (i:=10) (v:=?vpb10) ?ypb10 hHeld ?rpb10
    case ypb10=>(intro W hW;obtain⟨hW0,p0,p1,p2,p3,p4,h0,h1,h2,h3,h4⟩:=hW;go_simp;first | done | with_reducible rfl)
    try simp only[SL,Act.put]
    refine WTH (i:=11) (v:=?vpb11) ?ypb11 hHeld ?rpb11
    case ypb11=>(intro W hW;obtain⟨hW0,p0,p1,p2,p3,p4,h0,h1,h2,h3,h4⟩:=hW;go_simp;first | done | with_reducible rfl)
    try simp only[SL,Act.put]
    refine wpAnyH_ready (rs:=[12]) (by kernel_rfl) (by simp) ?_
    refine AllReadyH.cons rfl (fun K hK=>?_) (AllReadyH.nil)
    go_simp
    first | rw[meth_like] | rw[meth_like 148] | rw[meth_like 252]
    go_simp
    refine HLL.out.mono ?_
    rintro e9 w3 ⟨rfl,hb3⟩
    have k3:=Keeps.of_below hb3
    have HB3:=Lib.hid (HBJ.out.drew.trans (hb3.mono HBJ.out.size))
    have hT3:=k3 _ _ hT2
    clear hb3
    refine hK.out _ _ (⟨k3 _ _ hHeld.1,k3 _ _ hHeld.2.1,k3 _ _ hHeld.2.2.1,k3 _ _ hHeld.2.2.2.1,k3 _ _ hHeld.2.2.2.2.1,k3 _ _ hHeld.2.2.2.2.2.1,hHeld.2.2.2.2.2.2.keep k3⟩) (fun hHeld=>?_)
    clear hK K
    try simp only[SL,Act.put]
    refine WTH (i:=13) (v:=?vpb13) ?ypb13 hHeld ?rpb13
    case ypb13=>(intro W hW;obtain⟨hW0,p0,p1,p2,p3,p4,h0,h1,h2,h3,h4⟩:=hW;go_simp;first | done | with_reducible rfl)
    try simp only[SL,Act.put]
    refine wpAnyH_done (by kernel_rfl) ?_ _
    clear hHeld
    have HS:=Lib.hid hstep
    clear hstep
    go_wp2
    simp only[Exit.jump]
    go_ret
    exact⟨by rw[HS.out];rfl,HB1.out.trans (HB3.out.mono HB1.out.size)⟩
   ·rw[if_neg hyx] at hstep
    rw[decide_eq_false hyx] at HLL
    clear hyx
    refine wp_region_held_drew (S:=fun W=>W.cell? ⟨g,A*6+5,none⟩=some (.bool true)∧W.cell? ⟨g,A*6,none⟩=some kk∧W.cell? ⟨g,A*6+1,none⟩=some (.int .i64 y.cnt)∧W.cell? ⟨g,A*6+2,none⟩=some ss∧W.cell? ⟨g,A*6+3,none⟩=some n2∧W.cell? ⟨g,A*6+4,none⟩=some mm∧Bx W b (.slice Pk l1 ck) (.int .i64 c1) (.slice Ps l2 cs) (.slice Pn l3 cn) (.slice Pm l4 cm)) (by kernel_rfl) ⟨hs,q0,q1,q2,q3,q4,bx2⟩ (fun hHeld=>?_)
    refine WTH (i:=0) (v:=?vpc0) ?ypc0 hHeld ?rpc0
    case ypc0=>(intro W hW;obtain⟨hW0,p0,p1,p2,p3,p4,h0,h1,h2,h3,h4⟩:=hW;go_simp;first | done | with_reducible rfl)
    try simp only[SL,Act.put]
    refine WTH (i:=1) (v:=?vpc1) ?ypc1 hHeld ?rpc1
    case ypc1=>(intro W hW;obtain⟨hW0,p0,p1,p2,p3,p4,h0,h1,h2,h3,h4⟩:=hW;go_simp;first | done | with_reducible rfl)
    try simp only[SL,Act.put]
    refine WTH (i:=2) (v:=?vpc2) ?ypc2 hHeld ?rpc2
    case ypc2=>(intro W hW;obtain⟨hW0,p0,p1,p2,p3,p4,h0,h1,h2,h3,h4⟩:=hW;go_simp;first | done | with_reducible rfl)
    try simp only[SL,Act.put]
    refine WTH (i:=3) (v:=?vpc3) ?ypc3 hHeld ?rpc3
    case ypc3=>(intro W hW;obtain⟨hW0,p0,p1,p2,p3,p4,h0,h1,h2,h3,h4⟩:=hW;go_simp;first | done | with_reducible rfl)
    try simp only[SL,Act.put]
    refine WTH (i:=4) (v:=?vpc4) ?ypc4 hHeld ?rpc4
    case ypc4=>(intro W hW;obtain⟨hW0,p0,p1,p2,p3,p4,h0,h1,h2,h3,h4⟩:=hW;go_simp;first | done | with_reducible rfl)
    try simp only[SL,Act.put]
    refine WTH (i:=5) (v:=?vpc5) ?ypc5 hHeld ?rpc5
    case ypc5=>(intro W hW;obtain⟨hW0,p0,p1,p2,p3,p4,h0,h1,h2,h3,h4⟩:=hW;go_simp;first | done | with_reducible rfl)
    try simp only[SL,Act.put]
    refine WTH (i:=6) (v:=?vpc6) ?ypc6 hHeld ?rpc6
    case ypc6=>(intro W hW;obtain⟨hW0,p0,p1,p2,p3,p4,h0,h1,h2,h3,h4⟩:=hW;go_simp;first | done | with_reducible rfl)
    try simp only[SL,Act.put]
    refine WTH (i:=7) (v:=?vpc7) ?ypc7 hHeld ?rpc7
    case ypc7=>(intro W hW;obtain⟨hW0,p0,p1,p2,p3,p4,h0,h1,h2,h3,h4⟩:=hW;go_simp;first | done | with_reducible rfl)
    try simp only[SL,Act.put]
    refine WTH (i:=8) (v:=?vpc8) ?ypc8 hHeld ?rpc8
    case ypc8=>(intro W hW;obtain⟨hW0,p0,p1,p2,p3,p4,h0,h1,h2,h3,h4⟩:=hW;go_simp;first | done | with_reducible rfl)
    try simp only[SL,Act.put]
    refine WTH (i:=9) (v:=?vpc9) ?ypc9 hHeld ?rpc9
    case ypc9=>(intro W hW;obtain⟨hW0,p0,p1,p2,p3,p4,h0,h1,h2,h3,h4⟩:=hW;go_simp;first | done | with_reducible rfl)
    try simp only[SL,Act.put]
    refine WTH (i:=10) (v:=?vpc10) ?ypc10 hHeld ?rpc10
    case ypc10=>(intro W hW;obtain⟨hW0,p0,p1,p2,p3,p4,h0,h1,h2,h3,h4⟩:=hW;go_simp;first | done | with_reducible rfl)
    try simp only[SL,Act.put]
    refine WTH (i:=11) (v:=?vpc11) ?ypc11 hHeld ?rpc11
    case ypc11=>(intro W hW;obtain⟨hW0,p0,p1,p2,p3,p4,h0,h1,h2,h3,h4⟩:=hW;go_simp;first | done | with_reducible rfl)
    try simp only[SL,Act.put]
    refine wpAnyH_ready (rs:=[12]) (by kernel_rfl) (by simp) ?_
    refine AllReadyH.cons rfl (fun K hK=>?_) (AllReadyH.nil)
    go_simp
    first | rw[meth_like] | rw[meth_like 148] | rw[meth_like 252]
    go_simp
    refine HLL.out.mono ?_
    rintro e9 w3 ⟨rfl,hb3⟩
    have k3:=Keeps.of_below hb3
    have HB3:=Lib.hid (HBJ.out.drew.trans (hb3.mono HBJ.out.size))
    have hT3:=k3 _ _ hT2
    clear hb3
    refine hK.out _ _ (⟨k3 _ _ hHeld.1,k3 _ _ hHeld.2.1,k3 _ _ hHeld.2.2.1,k3 _ _ hHeld.2.2.2.1,k3 _ _ hHeld.2.2.2.2.1,k3 _ _ hHeld.2.2.2.2.2.1,hHeld.2.2.2.2.2.2.keep k3⟩) (fun hHeld=>?_)
    clear hK K
    try simp only[SL,Act.put]
    refine WTH (i:=13) (v:=?vpc13) ?ypc13 hHeld ?rpc13
    case ypc13=>(intro W hW;obtain⟨hW0,p0,p1,p2,p3,p4,h0,h1,h2,h3,h4⟩:=hW;go_simp;first | done | with_reducible rfl)
    try simp only[SL,Act.put]
    refine wpAnyH_done (by kernel_rfl) ?_ _
    clear hHeld
    have HS:=Lib.hid hstep
    obtain⟨A2,hA2⟩:∃ A2,A2=(P+(i+1)) % n:=⟨_,rfl⟩
    have hnext:((A:Int)+1).tmod (n:Int)=(A2:Int):=by
     rw[hA2,Int.tmod_eq_emod_of_nonneg (by omega),← round_next P (i) n,← HA.out];push_cast;rfl
    have HA2:=Lib.hid hA2
    have hwr:IntKind.i64.wrap ((A:Int)+1)=(A:Int)+1:=IntWalk.i64_in _ (by omega)
    clear hstep hs q0 q1 q2 q3 q4 k3 hA2
    by_cases hin:i+1<n
    ·have hne:((A2:Int) != (P:Int))=true:=by
      rw[bne_iff_ne]
      intro e
      exact round_ne hPn (show 0<i+1 by omega) hin (by rw[← HA2.out];omega)
     go_wp2
     go_step3
     obtain rfl:=HA2.out
     refine⟨rfl,⟨i+1,_,_,_,_,_,_,_,_,_,_,_,_,_,_,_,_,_,_,_,_,_,_,_,_,_,_,_,_,_,_,_,_,_,_,_,_,_,_,_,_,_,_,_,_,_,_,_,_,_,hin,rfl,HS.out.symm,HB3.out⟩,?_⟩
     have e1:=meas_at hPn hin
     have e2:=meas_at hPn hi
     rw[← HA.out] at e2
     show n - (((((P+(i+1)) % n:Nat):Int) - (P:Int)) % (n:Int)).toNat<n - (((A:Int) - (P:Int)) % (n:Int)).toNat
     rw[e1,e2]
     omega
    ·have hie:i+1=n:=by omega
     have hne:((A2:Int) != (P:Int))=false:=by
      rw[HA2.out,hie,round_eq hPn];simp
     have HNO:Hid (seekT ts x.key=none):=Lib.hid (by rw[HS.out,hie,Nat.sub_self];rfl)
     clear hie
     go_wp2
     simp only[Exit.jump]
     go_ret
     exact⟨by rw[HNO.out];rfl,HB1.out.trans (HB3.out.mono HB1.out.size)⟩
 case first =>
  go_wp2_with fail
  refine wp_region_held_drew (S:=fun W=>W.cell? ⟨T,0,none⟩=some (.slice (some ⟨g,0,none⟩) n c)∧Bx W b (.slice Pk l1 ck) (.int .i64 c1) (.slice Ps l2 cs) (.slice Pn l3 cn) (.slice Pm l4 cm)) (by kernel_rfl) ⟨hT1,bx⟩ (fun hHeld=>?_)
  refine WTH (i:=0) (v:=?va0) ?ya0 hHeld ?ra0
  case ya0=>(intro W hW;obtain⟨hW0,h0,h1,h2,h3,h4⟩:=hW;go_simp;first | done | with_reducible rfl)
  try simp only[SL,Act.put]
  refine WTH (i:=1) (v:=?va1) ?ya1 hHeld ?ra1
  case ya1=>(intro W hW;obtain⟨hW0,h0,h1,h2,h3,h4⟩:=hW;go_simp;first | done | with_reducible rfl)
  try simp only[SL,Act.put]
  refine WTH (i:=3) (v:=?va3) ?ya3 hHeld ?ra3
  case ya3=>(intro W hW;obtain⟨hW0,h0,h1,h2,h3,h4⟩:=hW;go_simp;first | done | with_reducible rfl)
  try simp only[SL,Act.put]
  refine WTH (i:=4) (v:=?va4) ?ya4 hHeld ?ra4
  case ya4=>(intro W hW;obtain⟨hW0,h0,h1,h2,h3,h4⟩:=hW;go_simp;first | done | with_reducible rfl)
  try simp only[SL,Act.put]
  refine WTH (i:=5) (v:=?va5) ?ya5 hHeld ?ra5
  case ya5=>(intro W hW;obtain⟨hW0,h0,h1,h2,h3,h4⟩:=hW;go_simp;first | done | with_reducible rfl)
  try simp only[SL,Act.put]
  refine WTH (i:=6) (v:=?va6) ?ya6 hHeld ?ra6
  case ya6=>(intro W hW;obtain⟨hW0,h0,h1,h2,h3,h4⟩:=hW;go_simp;first | done | with_reducible rfl)
  try simp only[SL,Act.put]
  refine WTH (i:=7) (v:=?va7) ?ya7 hHeld ?ra7
  case ya7=>(intro W hW;obtain⟨hW0,h0,h1,h2,h3,h4⟩:=hW;go_simp;first | done | with_reducible rfl)
  try simp only[SL,Act.put]
  refine wpAnyH_ready (rs:=[2]) (by kernel_rfl) (by simp) ?_
  refine AllReadyH.cons rfl (fun K hK=>?_) (AllReadyH.nil)
  go_simp
  first | rw[meth_place] | rw[meth_place 148] | rw[meth_place 252]
  go_simp
  refine (HPL.out w1.drew (Keeps.of_below HB1.out.drew)).mono ?_
  rintro e9 w2 ⟨rfl,hb2⟩
  have HB2:=Lib.hid ((Below.refl w1.heap.size w1).drew.trans hb2)
  have k2:=Keeps.of_below HB2.out
  have hT2:=k2 _ _ hT1
  have bx2:=bx.keep k2
  clear hb2 k2
  refine hK.out _ _ (⟨hT2,bx2⟩) (fun hHeld=>?_)
  clear hK K
  try simp only[SL,Act.put]
  refine WTH (i:=8) (v:=?va8) ?ya8 hHeld ?ra8
  case ya8=>(intro W hW;obtain⟨hW0,h0,h1,h2,h3,h4⟩:=hW;go_simp;first | done | with_reducible rfl)
  try simp only[SL,Act.put]
  refine WTH (i:=9) (v:=?va9) ?ya9 hHeld ?ra9
  case ya9=>(intro W hW;obtain⟨hW0,h0,h1,h2,h3,h4⟩:=hW;go_simp;first | done | with_reducible rfl)
  try simp only[SL,Act.put]
  refine wpAnyH_done (by kernel_rfl) ?_ _
  clear hHeld hT2 bx2
  have HBJ:=Lib.hid HB2.out
  have hi:0<n:=by omega
  have hsk:=HST.out
  have hP0:P=(P+0) % n:=by rw[Nat.add_zero,Nat.mod_eq_of_lt hPn]
  go_wp2_with fail
  go_step3
  obtain⟨t,ht,hstep⟩:=HSK.out (0) hi
  rw[hsk] at hstep
  have hst:=((HR.out _ t ht).keep (Keeps.of_below HB1.out)).keep (Keeps.of_below HBJ.out)
  have hT2:=Keeps.of_below HBJ.out _ _ hT1
  have bx2:=bx.keep (Keeps.of_below HBJ.out)
  have hlt:(P+(0)) % n<n:=Nat.mod_lt _ (by omega)
  have hA:P=(P+(0)) % n:=hP0
  rw[← hA] at hstep hst hlt ht
  have HA:=Lib.hid hA
  have A0:(0:Int)≤(P:Int):=by omega
  have A1:(P:Int)<(n:Int):=by omega
  clear hA hP0
  go_wp2_with fail
  cases t with
  | none =>
   have hs:w2.cell? ⟨g,P*6+5,none⟩=some (.bool false):=hst
   simp only at hstep
   clear hst
   refine wp_region_held_drew (S:=fun W=>W.cell? ⟨g,P*6+5,none⟩=some (.bool false)) (by kernel_rfl) hs (fun hHeld=>?_)
   refine WTH (i:=0) (v:=?vfa0) ?yfa0 hHeld ?rfa0
   case yfa0=>(intro W hW;obtain hW0:=hW;go_simp;first | done | with_reducible rfl)
   try simp only[SL,Act.put]
   refine WTH (i:=1) (v:=?vfa1) ?yfa1 hHeld ?rfa1
   case yfa1=>(intro W hW;obtain hW0:=hW;go_simp;first | done | with_reducible rfl)
   try simp only[SL,Act.put]
   refine WTH (i:=2) (v:=?vfa2) ?yfa2 hHeld ?rfa2
   case yfa2=>(intro W hW;obtain hW0:=hW;go_simp;first | done | with_reducible rfl)
   try simp only[SL,Act.put]
   refine WTH (i:=3) (v:=?vfa3) ?yfa3 hHeld ?rfa3
   case yfa3=>(intro W hW;obtain hW0:=hW;go_simp;first | done | with_reducible rfl)
   try simp only[SL,Act.put]
   refine WTH (i:=4) (v:=?vfa4) ?yfa4 hHeld ?rfa4
   case yfa4=>(intro W hW;obtain hW0:=hW;go_simp;first | done | with_reducible rfl)
   try simp only[SL,Act.put]
   refine WTH (i:=5) (v:=?vfa5) ?yfa5 hHeld ?rfa5
   case yfa5=>(intro W hW;obtain hW0:=hW;go_simp;first | done | with_reducible rfl)
   try simp only[SL,Act.put]
   refine wpAnyH_take (i:=6) (v:=undef) rfl (by kernel_rfl) (by kernel_rfl) (by kernel_rfl) (fun _ _ _ h=>h) (Or.inr ⟨by rfl,rfl⟩) hHeld ?rfa6
   try simp only[SL,Act.put]
   refine wpAnyH_take (i:=7) (v:=undef) rfl (by kernel_rfl) (by kernel_rfl) (by kernel_rfl) (fun _ _ _ h=>h) (Or.inr ⟨by rfl,rfl⟩) hHeld ?rfa7
   try simp only[SL,Act.put]
   refine wpAnyH_take (i:=8) (v:=undef) rfl (by kernel_rfl) (by kernel_rfl) (by kernel_rfl) (fun _ _ _ h=>h) (Or.inr ⟨by rfl,rfl⟩) hHeld ?rfa8
   try simp only[SL,Act.put]
   refine wpAnyH_take (i:=9) (v:=undef) rfl (by kernel_rfl) (by kernel_rfl) (by kernel_rfl) (fun _ _ _ h=>h) (Or.inr ⟨by rfl,rfl⟩) hHeld ?rfa9
   try simp only[SL,Act.put]
   refine wpAnyH_take (i:=10) (v:=undef) rfl (by kernel_rfl) (by kernel_rfl) (by kernel_rfl) (fun _ _ _ h=>h) (Or.inr ⟨by rfl,rfl⟩) hHeld ?rfa10
   try simp only[SL,Act.put]
   refine wpAnyH_take (i:=11) (v:=undef) rfl (by kernel_rfl) (by kernel_rfl) (by kernel_rfl) (fun _ _ _ h=>h) (Or.inr ⟨by rfl,rfl⟩) hHeld ?rfa11
   try simp only[SL,Act.put]
   refine wpAnyH_take (i:=12) (v:=undef) rfl (by kernel_rfl) (by kernel_rfl) (by kernel_rfl) (fun _ _ _ h=>h) (Or.inr ⟨by rfl,rfl⟩) hHeld ?rfa12
   try simp only[SL,Act.put]
   refine WTH (i:=13) (v:=?vfa13) ?yfa13 hHeld ?rfa13
   case yfa13=>(intro W hW;obtain hW0:=hW;go_simp;first | done | with_reducible rfl)
   try simp only[SL,Act.put]
   refine wpAnyH_done (by kernel_rfl) ?_ _
   clear hHeld
   have HS:=Lib.hid hstep
   clear hstep
   go_wp2
   simp only[Exit.jump]
   go_ret
   exact⟨by rw[HS.out];rfl,HB1.out.trans ((HBJ.out.drew).mono HB1.out.size)⟩
  | some y =>
   obtain⟨hs,kk,ss,n2,mm,q0,q1,q2,q3,q4,hcr,-⟩:=hst
   have hl2:=HKY.out _ y ht
   have kall:=(Keeps.of_below HB1.out).trans (Keeps.of_below HBJ.out)
   have HLL:=Lib.hid (HLK.out w2.drew kall kk ss n2 mm y (hcr.keep (Keeps.of_below (Below.refl _ _).drew)) hl2)
   simp only at hstep
   clear ht hcr kall hl2
   by_cases hyx:y.key=x.key
   ·rw[if_pos hyx] at hstep
    rw[decide_eq_true hyx] at HLL
    clear hyx
    refine wp_region_held_drew (S:=fun W=>W.cell? ⟨g,P*6+5,none⟩=some (.bool true)∧W.cell? ⟨g,P*6,none⟩=some kk∧W.cell? ⟨g,P*6+1,none⟩=some (.int .i64 y.cnt)∧W.cell? ⟨g,P*6+2,none⟩=some ss∧W.cell? ⟨g,P*6+3,none⟩=some n2∧W.cell? ⟨g,P*6+4,none⟩=some mm∧Bx W b (.slice Pk l1 ck) (.int .i64 c1) (.slice Ps l2 cs) (.slice Pn l3 cn) (.slice Pm l4 cm)) (by kernel_rfl) ⟨hs,q0,q1,q2,q3,q4,bx2⟩ (fun hHeld=>?_)
    refine WTH (i:=0) (v:=?vfb0) ?yfb0 hHeld ?rfb0
    case yfb0=>(intro W hW;obtain⟨hW0,p0,p1,p2,p3,p4,h0,h1,h2,h3,h4⟩:=hW;go_simp;first | done | with_reducible rfl)
    try simp only[SL,Act.put]
    refine WTH (i:=1) (v:=?vfb1) ?yfb1 hHeld ?rfb1
    case yfb1=>(intro W hW;obtain⟨hW0,p0,p1,p2,p3,p4,h0,h1,h2,h3,h4⟩:=hW;go_simp;first | done | with_reducible rfl)
    try simp only[SL,Act.put]
    refine WTH (i:=2) (v:=?vfb2) ?yfb2 hHeld ?rfb2
    case yfb2=>(intro W hW;obtain⟨hW0,p0,p1,p2,p3,p4,h0,h1,h2,h3,h4⟩:=hW;go_simp;first | done | with_reducible rfl)
    try simp only[SL,Act.put]
    refine WTH (i:=3) (v:=?vfb3) ?yfb3 hHeld ?rfb3
    case yfb3=>(intro W hW;obtain⟨hW0,p0,p1,p2,p3,p4,h0,h1,h2,h3,h4⟩:=hW;go_simp;first | done | with_reducible rfl)
    try simp only[SL,Act.put]
    refine WTH (i:=4) (v:=?vfb4) ?yfb4 hHeld ?rfb4
    case yfb4=>(intro W hW;obtain⟨hW0,p0,p1,p2,p3,p4,h0,h1,h2,h3,h4⟩:=hW;go_simp;first | done | with_reducible rfl)
    try simp only[SL,Act.put]
    refine WTH (i:=5) (v:=?vfb5) ?yfb5 hHeld ?rfb5
    case yfb5=>(intro W hW;obtain⟨hW0,p0,p1,p2,p3,p4,h0,h1,h2,h3,h4⟩:=hW;go_simp;first | done | with_reducible rfl)
    try simp only[SL,Act.put]
    refine WTH (i:=6) (v:=?vfb6) ?yfb6 hHeld ?rfb6
    case yfb6=>(intro W hW;obtain⟨hW0,p0,p1,p2,p3,p4,h0,h1,h2,h3,h4⟩:=hW;go_simp;first | done | with_reducible rfl)
    try simp only[SL,Act.put]
    refine WTH (i:=7) (v:=?vfb7) ?yfb7 hHeld ?rfb7
    case yfb7=>(intro W hW;obtain⟨hW0,p0,p1,p2,p3,p4,h0,h1,h2,h3,h4⟩:=hW;go_simp;first | done | with_reducible rfl)
    try simp only[SL,Act.put]
    refine WTH (i:=8) (v:=?vfb8) ?yfb8 hHeld ?rfb8
    case yfb8=>(intro W hW;obtain⟨hW0,p0,p1,p2,p3,p4,h0,h1,h2,h3,h4⟩:=hW;go_simp;first | done | with_reducible rfl)
    try simp only[SL,Act.put]
    refine WTH (i:=9) (v:=?vfb9) ?yfb9 hHeld ?rfb9
    case yfb9=>(intro W hW;obtain⟨hW0,p0,p1,p2,p3,p4,h0,h1,h2,h3,h4⟩:=hW;go_simp;first | done | with_reducible rfl)
    try simp only[SL,Act.put]
    refine WTH (i:=10) (v:=?vfb10) ?yfb10 hHeld ?rfb10
    case yfb10=>(intro W hW;obtain⟨hW0,p0,p1,p2,p3,p4,h0,h1,h2,h3,h4⟩:=hW;go_simp;first | done | with_reducible rfl)
    try simp only[SL,Act.put]
    refine WTH (i:=11) (v:=?vfb11) ?yfb11 hHeld ?rfb11
    case yfb11=>(intro W hW;obtain⟨hW0,p0,p1,p2,p3,p4,h0,h1,h2,h3,h4⟩:=hW;go_simp;first | done | with_reducible rfl)
    try simp only[SL,Act.put]
    refine wpAnyH_ready (rs:=[12]) (by kernel_rfl) (by simp) ?_
    refine AllReadyH.cons rfl (fun K hK=>?_) (AllReadyH.nil)
    go_simp
    first | rw[meth_like] | rw[meth_like 148] | rw[meth_like 252]
    go_simp
    refine HLL.out.mono ?_
    rintro e9 w3 ⟨rfl,hb3⟩
    have k3:=Keeps.of_below hb3
    have HB3:=Lib.hid (HBJ.out.drew.trans (hb3.mono HBJ.out.size))
    have hT3:=k3 _ _ hT2
    clear hb3
    refine hK.out _ _ (⟨k3 _ _ hHeld.1,k3 _ _ hHeld.2.1,k3 _ _ hHeld.2.2.1,k3 _ _ hHeld.2.2.2.1,k3 _ _ hHeld.2.2.2.2.1,k3 _ _ hHeld.2.2.2.2.2.1,hHeld.2.2.2.2.2.2.keep k3⟩) (fun hHeld=>?_)
    clear hK K
    try simp only[SL,Act.put]
    refine WTH (i:=13) (v:=?vfb13) ?yfb13 hHeld ?rfb13
    case yfb13=>(intro W hW;obtain⟨hW0,p0,p1,p2,p3,p4,h0,h1,h2,h3,h4⟩:=hW;go_simp;first | done | with_reducible rfl)
    try simp only[SL,Act.put]
    refine wpAnyH_done (by kernel_rfl) ?_ _
    clear hHeld
    have HS:=Lib.hid hstep
    clear hstep
    go_wp2
    simp only[Exit.jump]
    go_ret
    exact⟨by rw[HS.out];rfl,HB1.out.trans (HB3.out.mono HB1.out.size)⟩
   ·rw[if_neg hyx] at hstep
    rw[decide_eq_false hyx] at HLL
    clear hyx
    refine wp_region_held_drew (S:=fun W=>W.cell? ⟨g,P*6+5,none⟩=some (.bool true)∧W.cell? ⟨g,P*6,none⟩=some kk∧W.cell? ⟨g,P*6+1,none⟩=some (.int .i64 y.cnt)∧W.cell? ⟨g,P*6+2,none⟩=some ss∧W.cell? ⟨g,P*6+3,none⟩=some n2∧W.cell? ⟨g,P*6+4,none⟩=some mm∧Bx W b (.slice Pk l1 ck) (.int .i64 c1) (.slice Ps l2 cs) (.slice Pn l3 cn) (.slice Pm l4 cm)) (by kernel_rfl) ⟨hs,q0,q1,q2,q3,q4,bx2⟩ (fun hHeld=>?_)
    refine WTH (i:=0) (v:=?vfc0) ?yfc0 hHeld ?rfc0
    case yfc0=>(intro W hW;obtain⟨hW0,p0,p1,p2,p3,p4,h0,h1,h2,h3,h4⟩:=hW;go_simp;first | done | with_reducible rfl)
    try simp only[SL,Act.put]
    refine WTH (i:=1) (v:=?vfc1) ?yfc1 hHeld ?rfc1
    case yfc1=>(intro W hW;obtain⟨hW0,p0,p1,p2,p3,p4,h0,h1,h2,h3,h4⟩:=hW;go_simp;first | done | with_reducible rfl)
    try simp only[SL,Act.put]
    refine WTH (i:=2) (v:=?vfc2) ?yfc2 hHeld ?rfc2
    case yfc2=>(intro W hW;obtain⟨hW0,p0,p1,p2,p3,p4,h0,h1,h2,h3,h4⟩:=hW;go_simp;first | done | with_reducible rfl)
    try simp only[SL,Act.put]
    refine WTH (i:=3) (v:=?vfc3) ?yfc3 hHeld ?rfc3
    case yfc3=>(intro W hW;obtain⟨hW0,p0,p1,p2,p3,p4,h0,h1,h2,h3,h4⟩:=hW;go_simp;first | done | with_reducible rfl)
    try simp only[SL,Act.put]
    refine WTH (i:=4) (v:=?vfc4) ?yfc4 hHeld ?rfc4
    case yfc4=>(intro W hW;obtain⟨hW0,p0,p1,p2,p3,p4,h0,h1,h2,h3,h4⟩:=hW;go_simp;first | done | with_reducible rfl)
    try simp only[SL,Act.put]
    refine WTH (i:=5) (v:=?vfc5) ?yfc5 hHeld ?rfc5
    case yfc5=>(intro W hW;obtain⟨hW0,p0,p1,p2,p3,p4,h0,h1,h2,h3,h4⟩:=hW;go_simp;first | done | with_reducible rfl)
    try simp only[SL,Act.put]
    refine WTH (i:=6) (v:=?vfc6) ?yfc6 hHeld ?rfc6
    case yfc6=>(intro W hW;obtain⟨hW0,p0,p1,p2,p3,p4,h0,h1,h2,h3,h4⟩:=hW;go_simp;first | done | with_reducible rfl)
    try simp only[SL,Act.put]
    refine WTH (i:=7) (v:=?vfc7) ?yfc7 hHeld ?rfc7
    case yfc7=>(intro W hW;obtain⟨hW0,p0,p1,p2,p3,p4,h0,h1,h2,h3,h4⟩:=hW;go_simp;first | done | with_reducible rfl)
    try simp only[SL,Act.put]
    refine WTH (i:=8) (v:=?vfc8) ?yfc8 hHeld ?rfc8
    case yfc8=>(intro W hW;obtain⟨hW0,p0,p1,p2,p3,p4,h0,h1,h2,h3,h4⟩:=hW;go_simp;first | done | with_reducible rfl)
    try simp only[SL,Act.put]
    refine WTH (i:=9) (v:=?vfc9) ?yfc9 hHeld ?rfc9
    case yfc9=>(intro W hW;obtain⟨hW0,p0,p1,p2,p3,p4,h0,h1,h2,h3,h4⟩:=hW;go_simp;first | done | with_reducible rfl)
    try simp only[SL,Act.put]
    refine WTH (i:=10) (v:=?vfc10) ?yfc10 hHeld ?rfc10
    case yfc10=>(intro W hW;obtain⟨hW0,p0,p1,p2,p3,p4,h0,h1,h2,h3,h4⟩:=hW;go_simp;first | done | with_reducible rfl)
    try simp only[SL,Act.put]
    refine WTH (i:=11) (v:=?vfc11) ?yfc11 hHeld ?rfc11
    case yfc11=>(intro W hW;obtain⟨hW0,p0,p1,p2,p3,p4,h0,h1,h2,h3,h4⟩:=hW;go_simp;first | done | with_reducible rfl)
    try simp only[SL,Act.put]
    refine wpAnyH_ready (rs:=[12]) (by kernel_rfl) (by simp) ?_
    refine AllReadyH.cons rfl (fun K hK=>?_) (AllReadyH.nil)
    go_simp
    first | rw[meth_like] | rw[meth_like 148] | rw[meth_like 252]
    go_simp
    refine HLL.out.mono ?_
    rintro e9 w3 ⟨rfl,hb3⟩
    have k3:=Keeps.of_below hb3
    have HB3:=Lib.hid (HBJ.out.drew.trans (hb3.mono HBJ.out.size))
    have hT3:=k3 _ _ hT2
    clear hb3
    refine hK.out _ _ (⟨k3 _ _ hHeld.1,k3 _ _ hHeld.2.1,k3 _ _ hHeld.2.2.1,k3 _ _ hHeld.2.2.2.1,k3 _ _ hHeld.2.2.2.2.1,k3 _ _ hHeld.2.2.2.2.2.1,hHeld.2.2.2.2.2.2.keep k3⟩) (fun hHeld=>?_)
    clear hK K
    try simp only[SL,Act.put]
    refine WTH (i:=13) (v:=?vfc13) ?yfc13 hHeld ?rfc13
    case yfc13=>(intro W hW;obtain⟨hW0,p0,p1,p2,p3,p4,h0,h1,h2,h3,h4⟩:=hW;go_simp;first | done | with_reducible rfl)
    try simp only[SL,Act.put]
    refine wpAnyH_done (by kernel_rfl) ?_ _
    clear hHeld
    have HS:=Lib.hid hstep
    obtain⟨A2,hA2⟩:∃ A2,A2=(P+(0+1)) % n:=⟨_,rfl⟩
    have hnext:((P:Int)+1).tmod (n:Int)=(A2:Int):=by
     rw[hA2,Int.tmod_eq_emod_of_nonneg (by omega),← round_next P (0) n,← HA.out];push_cast;rfl
    have HA2:=Lib.hid hA2
    have hwr:IntKind.i64.wrap ((P:Int)+1)=(P:Int)+1:=IntWalk.i64_in _ (by omega)
    clear hstep hs q0 q1 q2 q3 q4 k3 hA2
    by_cases hin:0+1<n
    ·have hne:((A2:Int) != (P:Int))=true:=by
      rw[bne_iff_ne]
      intro e
      exact round_ne hPn (show 0<0+1 by omega) hin (by rw[← HA2.out];omega)
     go_wp2
     go_step3
     obtain rfl:=HA2.out
     exact⟨rfl,0+1,_,_,_,_,_,_,_,_,_,_,_,_,_,_,_,_,_,_,_,_,_,_,_,_,_,_,_,_,_,_,_,_,_,_,_,_,_,_,_,_,_,_,_,_,_,_,_,_,_,hin,rfl,HS.out.symm,HB3.out⟩
    ·have hie:0+1=n:=by omega
     have hne:((A2:Int) != (P:Int))=false:=by
      rw[HA2.out,hie,round_eq hPn];simp
     have HNO:Hid (seekT ts x.key=none):=Lib.hid (by rw[HS.out,hie,Nat.sub_self];rfl)
     clear hie
     go_wp2
     simp only[Exit.jump]
     go_ret
     exact⟨by rw[HNO.out];rfl,HB1.out.trans (HB3.out.mono HB1.out.size)⟩
end Go.Proofs.YtnjlkhhcfiedbaaGreatDoor

import Derived.IntWalk
import Derived.Test.YtnjlkhhcfiedbaaGreatDoorSl
import Derived.Test.YtnjlkhhcfiedbaaGreatDoorHsh5
import Derived.Test.YtnjlkhhcfiedbaaGreatDoorExA
import Derived.Test.YtnjlkhhcfiedbaaGreatDoorHsh7
namespace Go.Proofs.YtnjlkhhcfiedbaaGreatDoor
open Go.RowKit
attribute [local go_sem] Oper.semAt_some
def PutC (B:Nat) (w:World) (T g l mm:Nat) (ts:List (Option Cel)) (x:Cel) (e:Ending) (w':World):Prop :=
 match putT ts x with
 | none=>e=.returned (.bool false)∧Below w.heap.size w w'
 | some ts'=>e=.returned (.bool true)∧∃ vs',Tb B w' T g l mm vs' ts'∧Tch (fun b=>b=g∨b=T) w w'
theorem PutB.reads {B T g:Nat} {w:World} {d me:Int} {ts:List (Option Cel)} {x:Cel} {e:Ending} {w':World} (h:PutB B w T g d me ts x e w'):(∃ ts',putT ts x=some ts'∧e=.returned (.bool true)∧∃ vs',Tb B w' T g d me vs' ts'∧Tch (fun b=>b=g∨b=T) w w')∨putT ts x=none∧e=.returned (.bool false)∧Below w.heap.size w w':=by
 unfold PutB at h
 cases hp:putT ts x with
 | none=>rw[hp] at h;exact .inr ⟨rfl,h⟩
 | some ts'=>rw[hp] at h;exact .inl ⟨ts',rfl,h⟩
set_option maxRecDepth 100000 in
set_option maxHeartbeats 4000000 in
theorem hPut_any (B T g:Nat) (d me:Int) (mm:Nat) (vs:List (Option V5)) (ts:List (Option Cel)) (k s n m:Value) (x:Cel) (w:World) (hB:Tb B w T g d me vs ts) (hN1:1≤ts.length) (hN2:ts.length≤10000)
  (hev:∀ (i:Nat) (y:Cel),ts[i]? = some (some y)→y.key.length≤1000∧EvenC mm y) (hd:(cellsT ts).length=0∨(d=x.key.length∧me=mm)) (hx:CR w k s n m x) (hix:inK .i64 x.cnt) (hl:x.key.length≤1000) (hok:okK x.key=true) (ex:EvenC mm x) (hmm:mm≤1000000) :
  Calls Tryz.prog 102 #[.pointer (some ⟨T,0,none⟩),.agg #[k,.int .i64 x.cnt,s,n,m]] w fun e w'=>PutC B w T g x.key.length mm ts x e w':=by
 have hBw:B≤w.heap.size:=Nat.le_of_lt (Nat.lt_of_le_of_lt hB.hT hB.bx.lt)
 have HPT:Hid (∀ (W:World),Below w.heap.size w W→∀ (kk kc kn km:Value),CO B W kk kc kn km x→Calls Tryz.prog 124 #[.pointer (some ⟨T,0,none⟩),.agg #[kk,.int .i64 x.cnt,kc,kn,km]] W fun e w'=>PutB B W T g d me ts x e w') :=
  Lib.hid (fun W hb kk kc kn km hco=>hput_any B T g d me mm vs ts kk kc kn km x W (hB.below hb) hN1 hN2 hev ⟨rfl,hco,hix⟩ hl hok ex hmm)
 obtain⟨e1,e2,e3⟩:=ex
 have HCL:=Lib.hid (fun (W:World) (hb:Below w.heap.size w W)=>hcloned_any k s n m x W (hx.keep (Keeps.of_below hb)) (by omega) (by omega) (by omega) (by omega))
 obtain⟨⟨Pk,ck,rfl,hk,-⟩,⟨Ps,cs,rfl,-⟩,⟨Pn,cn,rfl,-⟩,⟨Pm,cm,rfl,-⟩⟩:=hx
 rw[e1,e2,e3] at HCL ⊢
 obtain⟨c1,f1⟩:∃ z,z=x.cnt:=⟨_,rfl⟩
 obtain⟨l1,f2⟩:∃ z,z=x.key.length:=⟨_,rfl⟩
 have hpr:=fun (W:World) (hb:Below w.heap.size w W)=>hproper_any Pk Ps Pn Pm x.key.length ck mm cs cn cm x.cnt x.key W (hk.keep (Keeps.of_below hb)) (by omega)
 rw[hok] at hpr
 have hsh:=fun (W:World)=>hshape_any Pk Ps Pn Pm x.key.length ck mm cs mm cn mm cm x.cnt W
 have hu:(cellsT ts).length≤10000:=Nat.le_trans (cells_le ts) hN2
 have hBx:=hB.bx
 obtain⟨u,eu⟩:∃ u,u=(cellsT ts).length:=⟨_,rfl⟩
 rw[← eu] at hd hu hBx
 rw[← f1] at HPT
 rw[← f1,← f2] at HCL hpr hsh ⊢
 rw[← f2] at hd
 have HPR:=Lib.hid hpr
 have HSH:=Lib.hid hsh
 have HB:=Lib.hid hB
 have HBX:=Lib.hid hBx
 have EU:=Lib.hid eu
 clear f1 f2 hpr hsh hk hl hok e1 e2 e3 hB hev hBx eu hN1 hN2
 obtain⟨w1,hw1⟩:∃ w1,w1=w.alloc (.cells #[.slice Pk l1 ck,.int .i64 c1,.slice Ps mm cs,.slice Pn mm cn,.slice Pm mm cm] 46):=⟨_,rfl⟩
 have o1:Own 46 w1 w.heap.size [.slice Pk l1 ck,.int .i64 c1,.slice Ps mm cs,.slice Pn mm cn,.slice Pm mm cm]:=by rw[hw1];exact heap_alloc_new w _
 have hb1:Below w.heap.size w w1:=by rw[hw1];exact (Below.refl _ w).alloc (Nat.le_refl _) _
 obtain⟨b,eb⟩:∃ b,b=w.heap.size:=⟨_,rfl⟩
 rw[← eb] at o1
 have O1:=Lib.hid o1
 have HB1:=Lib.hid hb1
 clear hb1 o1
 go_enter Tryz.func102,Tryz.ntmps102
 go_upto_region 1 with (fail)
 rw[← hw1,← eb]
 have Eb:=Lib.hid eb
 clear hw1 eb
 obtain⟨b0,b1,b2,b3,b4⟩:=O1.out.bx
 go_wp2_with fail
 clear b0 b1 b2 b3 b4
 refine (HSH.out w1).mono ?_
 rintro e w2 ⟨rfl,hb2⟩
 have hb02:=HB1.out.trans (hb2.mono HB1.out.size)
 have O2:=Lib.hid (O1.out.below hb2 O1.out.lt)
 have Hb02:=Lib.hid hb02
 clear hb2 hb02
 go_upto_region 2 with (fail)
 obtain⟨w3,hw3⟩:∃ w3,w3=w2.alloc (.cells #[.int .i64 (l1:Int),.int .i64 (mm:Int)] 126):=⟨_,rfl⟩
 have o3:Own 126 w3 w2.heap.size [.int .i64 (l1:Int),.int .i64 (mm:Int)]:=by rw[hw3];exact heap_alloc_new w2 _
 have hb3:Below w2.heap.size w2 w3:=by rw[hw3];exact (Below.refl _ w2).alloc (Nat.le_refl _) _
 rw[← hw3]
 clear hw3
 have Hb03:=Lib.hid (Hb02.out.trans (hb3.mono Hb02.out.size))
 have hTlt:=HBX.out.lt
 have hglt:=HB.out.tab.blk.lt
 have hszz:=Hb02.out.size
 have HB2T:Hid (w2.heap.size ≠ T):=Lib.hid (by omega)
 have HB2g:Hid (w2.heap.size ≠ g):=Lib.hid (by omega)
 obtain⟨b2,eb2⟩:∃ b2,b2=w2.heap.size:=⟨_,rfl⟩
 rw[← eb2] at o3 HB2T HB2g ⊢
 have r0:=o3.cell (i:=0) rfl
 have r1:=o3.cell (i:=1) rfl
 obtain⟨t0,t1,t2,t3,t4⟩:=O2.out.bx.keep (Keeps.of_below hb3)
 have hB3:=HBX.out.below Hb03.out hTlt
 have v1:=hB3.cell (i:=1) rfl
 have v2:=hB3.cell (i:=2) rfl
 have v3:=hB3.cell (i:=3) rfl
 clear hTlt hglt hszz o3 hb3 O2 hB3 eb2
 by_cases hu0:u=0
 ·obtain rfl:=hu0
  have d0:decide ((0:Int)<0)=false:=rfl
  have hS:(fun W:World=>W.cell? ⟨b,0,none⟩=some (.slice Pk l1 ck)∧W.cell? ⟨b,1,none⟩=some (.int .i64 c1)∧W.cell? ⟨b,2,none⟩=some (.slice Ps mm cs)∧W.cell? ⟨b,3,none⟩=some (.slice Pn mm cn)∧W.cell? ⟨b,4,none⟩=some (.slice Pm mm cm)∧W.cell? ⟨T,1,none⟩=some (.int .i64 (0:Int))∧W.cell? ⟨T,2,none⟩=some (.int .i64 (d:Int))∧W.cell? ⟨T,3,none⟩=some (.int .i64 (me:Int))∧W.cell? ⟨b2,0,none⟩=some (.int .i64 (l1:Int))∧W.cell? ⟨b2,1,none⟩=some (.int .i64 (mm:Int))) w3.drew:=⟨t0,t1,t2,t3,t4,v1,v2,v3,r0,r1⟩
  have HSK:Hid (∀ (W W':World),Keeps W W'→(fun W:World=>W.cell? ⟨b,0,none⟩=some (.slice Pk l1 ck)∧W.cell? ⟨b,1,none⟩=some (.int .i64 c1)∧W.cell? ⟨b,2,none⟩=some (.slice Ps mm cs)∧W.cell? ⟨b,3,none⟩=some (.slice Pn mm cn)∧W.cell? ⟨b,4,none⟩=some (.slice Pm mm cm)∧W.cell? ⟨T,1,none⟩=some (.int .i64 (0:Int))∧W.cell? ⟨T,2,none⟩=some (.int .i64 (d:Int))∧W.cell? ⟨T,3,none⟩=some (.int .i64 (me:Int))∧W.cell? ⟨b2,0,none⟩=some (.int .i64 (l1:Int))∧W.cell? ⟨b2,1,none⟩=some (.int .i64 (mm:Int))) W→(fun W:World=>W.cell? ⟨b,0,none⟩=some (.slice Pk l1 ck)∧W.cell? ⟨b,1,none⟩=some (.int .i64 c1)∧W.cell? ⟨b,2,none⟩=some (.slice Ps mm cs)∧W.cell? ⟨b,3,none⟩=some (.slice Pn mm cn)∧W.cell? ⟨b,4,none⟩=some (.slice Pm mm cm)∧W.cell? ⟨T,1,none⟩=some (.int .i64 (0:Int))∧W.cell? ⟨T,2,none⟩=some (.int .i64 (d:Int))∧W.cell? ⟨T,3,none⟩=some (.int .i64 (me:Int))∧W.cell? ⟨b2,0,none⟩=some (.int .i64 (l1:Int))∧W.cell? ⟨b2,1,none⟩=some (.int .i64 (mm:Int))) W'):=Lib.hid (fun W W' hk h=>⟨hk _ _ h.1,hk _ _ h.2.1,hk _ _ h.2.2.1,hk _ _ h.2.2.2.1,hk _ _ h.2.2.2.2.1,hk _ _ h.2.2.2.2.2.1,hk _ _ h.2.2.2.2.2.2.1,hk _ _ h.2.2.2.2.2.2.2.1,hk _ _ h.2.2.2.2.2.2.2.2.1,hk _ _ h.2.2.2.2.2.2.2.2.2⟩)
  clear t0 t1 t2 t3 t4 v1 v2 v3 r0 r1
  refine region_P (S:=(fun W:World=>W.cell? ⟨b,0,none⟩=some (.slice Pk l1 ck)∧W.cell? ⟨b,1,none⟩=some (.int .i64 c1)∧W.cell? ⟨b,2,none⟩=some (.slice Ps mm cs)∧W.cell? ⟨b,3,none⟩=some (.slice Pn mm cn)∧W.cell? ⟨b,4,none⟩=some (.slice Pm mm cm)∧W.cell? ⟨T,1,none⟩=some (.int .i64 (0:Int))∧W.cell? ⟨T,2,none⟩=some (.int .i64 (d:Int))∧W.cell? ⟨T,3,none⟩=some (.int .i64 (me:Int))∧W.cell? ⟨b2,0,none⟩=some (.int .i64 (l1:Int))∧W.cell? ⟨b2,1,none⟩=some (.int .i64 (mm:Int)))) (kill:=[25]) (by kernel_rfl) hS (fun hHeld=>?_)
  refine WTP (i:=0) (v:=?vz0) ?yz0 hHeld ?rz0
  case yz0=>(intro W hW;obtain⟨h0,h1,h2,h3,h4,q1,q2,q3,s0,s1⟩:=hW;go_simp;first | done | with_reducible rfl)
  try simp only[SL,Act.put]
  refine anyP_ready (rs:=[1]) (by kernel_rfl) (by simp) ?_
  refine AllP.cons rfl (fun K hK=>?_) (AllP.nil)
  go_simp
  refine (HPR.out w3.drew Hb03.out.drew).mono ?_
  rintro e4 w4 ⟨rfl,hb4⟩
  have kp4:=Keeps.of_below hb4
  have hb04:=Hb03.out.trans (((Below.refl _ w3).drew.trans hb4).mono Hb03.out.size)
  have Hb04:=Lib.hid hb04
  have K4:=Lib.hid kp4
  clear hb4 hb04 kp4
  refine hK.out _ _ (fun _=>HSK.out _ _ K4.out) ?_
  clear hK K
  try simp only[SL,Act.put]
  replace hHeld:=HSK.out _ _ K4.out hHeld
  refine WTP (i:=2) (v:=?vz2) ?yz2 hHeld ?rz2
  case yz2=>(intro W hW;obtain⟨h0,h1,h2,h3,h4,q1,q2,q3,s0,s1⟩:=hW;go_simp;first | done | with_reducible rfl)
  try simp only[SL,Act.put]
  refine WTP (i:=3) (v:=?vz3) ?yz3 hHeld ?rz3
  case yz3=>(intro W hW;obtain⟨h0,h1,h2,h3,h4,q1,q2,q3,s0,s1⟩:=hW;go_simp;first | done | with_reducible rfl)
  try simp only[SL,Act.put]
  refine WTP (i:=4) (v:=?vz4) ?yz4 hHeld ?rz4
  case yz4=>(intro W hW;obtain⟨h0,h1,h2,h3,h4,q1,q2,q3,s0,s1⟩:=hW;go_simp;first | done | with_reducible rfl)
  try simp only[SL,Act.put]
  refine WTP (i:=5) (v:=?vz5) ?yz5 hHeld ?rz5
  case yz5=>(intro W hW;obtain⟨h0,h1,h2,h3,h4,q1,q2,q3,s0,s1⟩:=hW;go_simp;first | done | with_reducible rfl)
  try simp only[SL,Act.put]
  refine WTP (i:=6) (v:=?vz6) ?yz6 hHeld ?rz6
  case yz6=>(intro W hW;obtain⟨h0,h1,h2,h3,h4,q1,q2,q3,s0,s1⟩:=hW;go_simp;first | done | with_reducible rfl)
  try simp only[SL,Act.put]
  refine WTP (i:=7) (v:=?vz7) ?yz7 hHeld ?rz7
  case yz7=>(intro W hW;obtain⟨h0,h1,h2,h3,h4,q1,q2,q3,s0,s1⟩:=hW;go_simp;first | done | with_reducible rfl)
  try simp only[SL,Act.put]
  refine WTP (i:=8) (v:=?vz8) ?yz8 hHeld ?rz8
  case yz8=>(intro W hW;obtain⟨h0,h1,h2,h3,h4,q1,q2,q3,s0,s1⟩:=hW;go_simp;first | done | with_reducible rfl)
  try simp only[SL,Act.put]
  refine WTP (i:=9) (v:=?vz9) ?yz9 hHeld ?rz9
  case yz9=>(intro W hW;obtain⟨h0,h1,h2,h3,h4,q1,q2,q3,s0,s1⟩:=hW;go_simp;first | done | with_reducible rfl)
  try simp only[SL,Act.put]
  refine WTP (i:=10) (v:=?vz10) ?yz10 hHeld ?rz10
  case yz10=>(intro W hW;obtain⟨h0,h1,h2,h3,h4,q1,q2,q3,s0,s1⟩:=hW;go_simp;first | done | with_reducible rfl)
  try simp only[SL,Act.put]
  refine anyP_take (i:=11) (v:=undef) rfl (by kernel_rfl) (by kernel_rfl) (by kernel_rfl) (by kernel_rfl) (by kernel_rfl) (fun _ _ _ h=>h) (Or.inr ⟨by rfl,rfl⟩) hHeld ?rz11
  try simp only[SL,Act.put]
  refine anyP_take (i:=12) (v:=undef) rfl (by kernel_rfl) (by kernel_rfl) (by kernel_rfl) (by kernel_rfl) (by kernel_rfl) (fun _ _ _ h=>h) (Or.inr ⟨by rfl,rfl⟩) hHeld ?rz12
  try simp only[SL,Act.put]
  refine anyP_take (i:=13) (v:=undef) rfl (by kernel_rfl) (by kernel_rfl) (by kernel_rfl) (by kernel_rfl) (by kernel_rfl) (fun _ _ _ h=>h) (Or.inr ⟨by rfl,rfl⟩) hHeld ?rz13
  try simp only[SL,Act.put]
  refine anyP_take (i:=14) (v:=undef) rfl (by kernel_rfl) (by kernel_rfl) (by kernel_rfl) (by kernel_rfl) (by kernel_rfl) (fun _ _ _ h=>h) (Or.inr ⟨by rfl,rfl⟩) hHeld ?rz14
  try simp only[SL,Act.put]
  refine anyP_take (i:=15) (v:=undef) rfl (by kernel_rfl) (by kernel_rfl) (by kernel_rfl) (by kernel_rfl) (by kernel_rfl) (fun _ _ _ h=>h) (Or.inr ⟨by rfl,rfl⟩) hHeld ?rz15
  try simp only[SL,Act.put]
  refine anyP_take (i:=16) (v:=undef) rfl (by kernel_rfl) (by kernel_rfl) (by kernel_rfl) (by kernel_rfl) (by kernel_rfl) (fun _ _ _ h=>h) (Or.inr ⟨by rfl,rfl⟩) hHeld ?rz16
  try simp only[SL,Act.put]
  refine WTP (i:=17) (v:=?vz17) ?yz17 hHeld ?rz17
  case yz17=>(intro W hW;obtain⟨h0,h1,h2,h3,h4,q1,q2,q3,s0,s1⟩:=hW;go_simp;first | done | with_reducible rfl)
  try simp only[SL,Act.put]
  refine WTP (i:=18) (v:=?vz18) ?yz18 hHeld ?rz18
  case yz18=>(intro W hW;obtain⟨h0,h1,h2,h3,h4,q1,q2,q3,s0,s1⟩:=hW;go_simp;first | done | with_reducible rfl)
  try simp only[SL,Act.put]
  refine WTP (i:=19) (v:=?vz19) ?yz19 hHeld ?rz19
  case yz19=>(intro W hW;obtain⟨h0,h1,h2,h3,h4,q1,q2,q3,s0,s1⟩:=hW;go_simp;first | done | with_reducible rfl)
  try simp only[SL,Act.put]
  refine WTP (i:=20) (v:=?vz20) ?yz20 hHeld ?rz20
  case yz20=>(intro W hW;obtain⟨h0,h1,h2,h3,h4,q1,q2,q3,s0,s1⟩:=hW;go_simp;first | done | with_reducible rfl)
  try simp only[SL,Act.put]
  refine WTP (i:=21) (v:=?vz21) ?yz21 hHeld ?rz21
  case yz21=>(intro W hW;obtain⟨h0,h1,h2,h3,h4,q1,q2,q3,s0,s1⟩:=hW;go_simp;first | done | with_reducible rfl)
  try simp only[SL,Act.put]
  refine WTP (i:=22) (v:=?vz22) ?yz22 hHeld ?rz22
  case yz22=>(intro W hW;obtain⟨h0,h1,h2,h3,h4,q1,q2,q3,s0,s1⟩:=hW;go_simp;first | done | with_reducible rfl)
  try simp only[SL,Act.put]
  refine WTP (i:=23) (v:=?vz23) ?yz23 hHeld ?rz23
  case yz23=>(intro W hW;obtain⟨h0,h1,h2,h3,h4,q1,q2,q3,s0,s1⟩:=hW;go_simp;first | done | with_reducible rfl)
  try simp only[SL,Act.put]
  refine anyP_ready (rs:=[24]) (by kernel_rfl) (by simp) ?_
  refine AllP.cons rfl (fun K hK=>?_) (AllP.nil)
  go_simp
  refine (HCL.out w4 Hb04.out).mono ?_
  rintro e5 w5 ⟨k5,s5,n5,m5,rfl,hco5,-,hb5⟩
  have kp5:=Keeps.of_below hb5
  have hb05:=Hb04.out.trans (hb5.mono Hb04.out.size)
  have Hb05:=Lib.hid hb05
  have K5:=Lib.hid kp5
  have HPP:=Lib.hid (HPT.out w5 hb05 k5 s5 n5 m5 (hco5.mono (Nat.le_trans hBw Hb04.out.size)))
  clear hb5 hb05 kp5 hco5
  refine hK.out _ _ (fun _=>HSK.out _ _ K5.out) ?_
  clear hK K
  try simp only[SL,Act.put]
  replace hHeld:=HSK.out _ _ K5.out hHeld
  clear HPT HCL HPR HSH
  refine anyP_ready (rs:=[25]) (by kernel_rfl) (by simp) ?_
  refine AllP.cons rfl (fun K hK=>?_) (AllP.nil)
  go_simp
  refine HPP.out.mono ?_
  intro e6 w6 hp6
  clear HPP
  rcases hp6.reads with ⟨ts',hp,rfl,vs',htb,htch⟩ | ⟨hp,rfl,hb6⟩
  ·have sz:w5.heap.size≤w6.heap.size:=htch.size
   have s0:=hHeld.2.2.2.2.2.2.2.2.1
   have s1:=hHeld.2.2.2.2.2.2.2.2.2
   have lt5:=block_lt s0
   have kS:∀ i v,w5.cell? ⟨b2,i,none⟩=some v→w6.cell? ⟨b2,i,none⟩=some v:=fun i v h=>by
    rw[World.cell?_of_block (htch.block b2 lt5 (fun h=>by rcases h with h | h;exact HB2g.out h;exact HB2T.out h))];exact h
   have s0':=kS _ _ s0
   have s1':=kS _ _ s1
   have y2:=htb.bx.cell (i:=2) rfl
   have y3:=htb.bx.cell (i:=3) rfl
   have z2:=htb.bx.frozen 2
   have z3:=htb.bx.frozen 3
   have ho7:Only T w6 ((w6.setCell ⟨T,2,none⟩ (.int .i64 (l1:Int))).setCell ⟨T,3,none⟩ (.int .i64 (mm:Int))):=((Only.refl T w6).setCell _ _).setCell _ _
   have hbx7:=(htb.bx.set_ 2 (.int .i64 (l1:Int))).set_ 3 (.int .i64 (mm:Int))
   have hfin:Tb B ((w6.setCell ⟨T,2,none⟩ (.int .i64 (l1:Int))).setCell ⟨T,3,none⟩ (.int .i64 (mm:Int))) T g (l1:Int) (mm:Int) vs' ts':=⟨hbx7,htb.tab.only ho7 htb.bx (by decide) (by decide),htb.hT,htb.hg⟩
   have htf:Tch (fun b=>b=g∨b=T) w ((w6.setCell ⟨T,2,none⟩ (.int .i64 (l1:Int))).setCell ⟨T,3,none⟩ (.int .i64 (mm:Int))):=(Tch.of_below _ Hb05.out).same (htch.same (Tch.of_only ho7 (.inr rfl)))
   have Hfin:=Lib.hid hfin
   have Htf:=Lib.hid htf
   have HP:=Lib.hid hp
   clear hfin htf hp htb htch hbx7 ho7 kS s0 s1 lt5 sz hHeld hp6
   refine hK.out _ _ (fun h=>absurd (by decide) h) ?_
   clear hK K
   try simp only[SL,Act.put]
   refine anyP_pure (i:=26) (v:=?vzx26) rfl (by kernel_rfl) (by kernel_rfl) (by kernel_rfl) (by kernel_rfl) (fun _ _ _ h=>h) (Or.inl ⟨by rfl,?yzx26⟩) ?rzx26
   case yzx26=>(intro W hW;go_simp;first | done | with_reducible rfl)
   try simp only[SL,Act.put]
   refine anyP_pure (i:=27) (v:=?vzx27) rfl (by kernel_rfl) (by kernel_rfl) (by kernel_rfl) (by kernel_rfl) (fun _ _ _ h=>h) (Or.inl ⟨by rfl,?yzx27⟩) ?rzx27
   case yzx27=>(intro W hW;go_simp;first | done | with_reducible rfl)
   try simp only[SL,Act.put]
   refine anyP_done (by kernel_rfl) ?_ _
   go_wp2
   go_ret
   unfold PutC
   rw[HP.out]
   exact⟨rfl,_,Hfin.out,Htf.out⟩
  ·have hbf:Below w.heap.size w w6:=Hb05.out.trans (hb6.mono Hb05.out.size)
   have Hbf:=Lib.hid hbf
   have HP:=Lib.hid hp
   clear hbf hp hb6 hHeld hp6
   refine hK.out _ _ (fun h=>absurd (by decide) h) ?_
   clear hK K
   try simp only[SL,Act.put]
   refine anyP_pure (i:=26) (v:=?vzy26) rfl (by kernel_rfl) (by kernel_rfl) (by kernel_rfl) (by kernel_rfl) (fun _ _ _ h=>h) (Or.inl ⟨by rfl,?yzy26⟩) ?rzy26
   case yzy26=>(intro W hW;go_simp;first | done | with_reducible rfl)
   try simp only[SL,Act.put]
   refine anyP_pure (i:=27) (v:=?vzy27) rfl (by kernel_rfl) (by kernel_rfl) (by kernel_rfl) (by kernel_rfl) (fun _ _ _ h=>h) (Or.inl ⟨by rfl,?yzy27⟩) ?rzy27
   case yzy27=>(intro W hW;go_simp;first | done | with_reducible rfl)
   try simp only[SL,Act.put]
   refine anyP_done (by kernel_rfl) ?_ _
   go_wp2
   go_ret
   unfold PutC
   rw[HP.out]
   exact⟨rfl,Hbf.out⟩
 ·obtain⟨rfl,rfl⟩:=hd.resolve_left hu0
  have d0:decide ((0:Int)<(u:Int))=true:=decide_eq_true (by omega)
  have d1:decide (0<u)=true:=decide_eq_true (by omega)
  have hS:(fun W:World=>W.cell? ⟨b,0,none⟩=some (.slice Pk l1 ck)∧W.cell? ⟨b,1,none⟩=some (.int .i64 c1)∧W.cell? ⟨b,2,none⟩=some (.slice Ps mm cs)∧W.cell? ⟨b,3,none⟩=some (.slice Pn mm cn)∧W.cell? ⟨b,4,none⟩=some (.slice Pm mm cm)∧W.cell? ⟨T,1,none⟩=some (.int .i64 (u:Int))∧W.cell? ⟨T,2,none⟩=some (.int .i64 (l1:Int))∧W.cell? ⟨T,3,none⟩=some (.int .i64 (mm:Int))∧W.cell? ⟨b2,0,none⟩=some (.int .i64 (l1:Int))∧W.cell? ⟨b2,1,none⟩=some (.int .i64 (mm:Int))) w3.drew:=⟨t0,t1,t2,t3,t4,v1,v2,v3,r0,r1⟩
  have HSK:Hid (∀ (W W':World),Keeps W W'→(fun W:World=>W.cell? ⟨b,0,none⟩=some (.slice Pk l1 ck)∧W.cell? ⟨b,1,none⟩=some (.int .i64 c1)∧W.cell? ⟨b,2,none⟩=some (.slice Ps mm cs)∧W.cell? ⟨b,3,none⟩=some (.slice Pn mm cn)∧W.cell? ⟨b,4,none⟩=some (.slice Pm mm cm)∧W.cell? ⟨T,1,none⟩=some (.int .i64 (u:Int))∧W.cell? ⟨T,2,none⟩=some (.int .i64 (l1:Int))∧W.cell? ⟨T,3,none⟩=some (.int .i64 (mm:Int))∧W.cell? ⟨b2,0,none⟩=some (.int .i64 (l1:Int))∧W.cell? ⟨b2,1,none⟩=some (.int .i64 (mm:Int))) W→(fun W:World=>W.cell? ⟨b,0,none⟩=some (.slice Pk l1 ck)∧W.cell? ⟨b,1,none⟩=some (.int .i64 c1)∧W.cell? ⟨b,2,none⟩=some (.slice Ps mm cs)∧W.cell? ⟨b,3,none⟩=some (.slice Pn mm cn)∧W.cell? ⟨b,4,none⟩=some (.slice Pm mm cm)∧W.cell? ⟨T,1,none⟩=some (.int .i64 (u:Int))∧W.cell? ⟨T,2,none⟩=some (.int .i64 (l1:Int))∧W.cell? ⟨T,3,none⟩=some (.int .i64 (mm:Int))∧W.cell? ⟨b2,0,none⟩=some (.int .i64 (l1:Int))∧W.cell? ⟨b2,1,none⟩=some (.int .i64 (mm:Int))) W'):=Lib.hid (fun W W' hk h=>⟨hk _ _ h.1,hk _ _ h.2.1,hk _ _ h.2.2.1,hk _ _ h.2.2.2.1,hk _ _ h.2.2.2.2.1,hk _ _ h.2.2.2.2.2.1,hk _ _ h.2.2.2.2.2.2.1,hk _ _ h.2.2.2.2.2.2.2.1,hk _ _ h.2.2.2.2.2.2.2.2.1,hk _ _ h.2.2.2.2.2.2.2.2.2⟩)
  clear t0 t1 t2 t3 t4 v1 v2 v3 r0 r1
  refine region_P (S:=(fun W:World=>W.cell? ⟨b,0,none⟩=some (.slice Pk l1 ck)∧W.cell? ⟨b,1,none⟩=some (.int .i64 c1)∧W.cell? ⟨b,2,none⟩=some (.slice Ps mm cs)∧W.cell? ⟨b,3,none⟩=some (.slice Pn mm cn)∧W.cell? ⟨b,4,none⟩=some (.slice Pm mm cm)∧W.cell? ⟨T,1,none⟩=some (.int .i64 (u:Int))∧W.cell? ⟨T,2,none⟩=some (.int .i64 (l1:Int))∧W.cell? ⟨T,3,none⟩=some (.int .i64 (mm:Int))∧W.cell? ⟨b2,0,none⟩=some (.int .i64 (l1:Int))∧W.cell? ⟨b2,1,none⟩=some (.int .i64 (mm:Int)))) (kill:=[25]) (by kernel_rfl) hS (fun hHeld=>?_)
  refine WTP (i:=0) (v:=?vn0) ?yn0 hHeld ?rn0
  case yn0=>(intro W hW;obtain⟨h0,h1,h2,h3,h4,q1,q2,q3,s0,s1⟩:=hW;go_simp;first | done | with_reducible rfl)
  try simp only[SL,Act.put]
  refine anyP_ready (rs:=[1]) (by kernel_rfl) (by simp) ?_
  refine AllP.cons rfl (fun K hK=>?_) (AllP.nil)
  go_simp
  refine (HPR.out w3.drew Hb03.out.drew).mono ?_
  rintro e4 w4 ⟨rfl,hb4⟩
  have kp4:=Keeps.of_below hb4
  have hb04:=Hb03.out.trans (((Below.refl _ w3).drew.trans hb4).mono Hb03.out.size)
  have Hb04:=Lib.hid hb04
  have K4:=Lib.hid kp4
  clear hb4 hb04 kp4
  refine hK.out _ _ (fun _=>HSK.out _ _ K4.out) ?_
  clear hK K
  try simp only[SL,Act.put]
  replace hHeld:=HSK.out _ _ K4.out hHeld
  refine WTP (i:=2) (v:=?vn2) ?yn2 hHeld ?rn2
  case yn2=>(intro W hW;obtain⟨h0,h1,h2,h3,h4,q1,q2,q3,s0,s1⟩:=hW;go_simp;first | done | with_reducible rfl)
  try simp only[SL,Act.put]
  refine WTP (i:=3) (v:=?vn3) ?yn3 hHeld ?rn3
  case yn3=>(intro W hW;obtain⟨h0,h1,h2,h3,h4,q1,q2,q3,s0,s1⟩:=hW;go_simp;first | done | with_reducible rfl)
  try simp only[SL,Act.put]
  refine WTP (i:=4) (v:=?vn4) ?yn4 hHeld ?rn4
  case yn4=>(intro W hW;obtain⟨h0,h1,h2,h3,h4,q1,q2,q3,s0,s1⟩:=hW;go_simp;first | done | with_reducible rfl)
  try simp only[SL,Act.put]
  refine WTP (i:=5) (v:=?vn5) ?yn5 hHeld ?rn5
  case yn5=>(intro W hW;obtain⟨h0,h1,h2,h3,h4,q1,q2,q3,s0,s1⟩:=hW;go_simp;first | done | with_reducible rfl)
  try simp only[SL,Act.put]
  refine WTP (i:=6) (v:=?vn6) ?yn6 hHeld ?rn6
  case yn6=>(intro W hW;obtain⟨h0,h1,h2,h3,h4,q1,q2,q3,s0,s1⟩:=hW;go_simp;first | done | with_reducible rfl)
  try simp only[SL,Act.put]
  refine WTP (i:=7) (v:=?vn7) ?yn7 hHeld ?rn7
  case yn7=>(intro W hW;obtain⟨h0,h1,h2,h3,h4,q1,q2,q3,s0,s1⟩:=hW;go_simp;first | done | with_reducible rfl)
  try simp only[SL,Act.put]
  refine WTP (i:=8) (v:=?vn8) ?yn8 hHeld ?rn8
  case yn8=>(intro W hW;obtain⟨h0,h1,h2,h3,h4,q1,q2,q3,s0,s1⟩:=hW;go_simp;first | done | with_reducible rfl)
  try simp only[SL,Act.put]
  refine WTP (i:=9) (v:=?vn9) ?yn9 hHeld ?rn9
  case yn9=>(intro W hW;obtain⟨h0,h1,h2,h3,h4,q1,q2,q3,s0,s1⟩:=hW;go_simp;first | done | with_reducible rfl)
  try simp only[SL,Act.put]
  refine WTP (i:=10) (v:=?vn10) ?yn10 hHeld ?rn10
  case yn10=>(intro W hW;obtain⟨h0,h1,h2,h3,h4,q1,q2,q3,s0,s1⟩:=hW;go_simp;first | done | with_reducible rfl)
  try simp only[SL,Act.put]
  refine WTP (i:=11) (v:=?vn11) ?yn11 hHeld ?rn11
  case yn11=>(intro W hW;obtain⟨h0,h1,h2,h3,h4,q1,q2,q3,s0,s1⟩:=hW;go_simp;first | done | with_reducible rfl)
  try simp only[SL,Act.put]
  refine WTP (i:=12) (v:=?vn12) ?yn12 hHeld ?rn12
  case yn12=>(intro W hW;obtain⟨h0,h1,h2,h3,h4,q1,q2,q3,s0,s1⟩:=hW;go_simp;first | done | with_reducible rfl)
  try simp only[SL,Act.put]
  refine WTP (i:=13) (v:=?vn13) ?yn13 hHeld ?rn13
  case yn13=>(intro W hW;obtain⟨h0,h1,h2,h3,h4,q1,q2,q3,s0,s1⟩:=hW;go_simp;first | done | with_reducible rfl)
  try simp only[SL,Act.put]
  refine WTP (i:=14) (v:=?vn14) ?yn14 hHeld ?rn14
  case yn14=>(intro W hW;obtain⟨h0,h1,h2,h3,h4,q1,q2,q3,s0,s1⟩:=hW;go_simp;first | done | with_reducible rfl)
  try simp only[SL,Act.put]
  refine WTP (i:=15) (v:=?vn15) ?yn15 hHeld ?rn15
  case yn15=>(intro W hW;obtain⟨h0,h1,h2,h3,h4,q1,q2,q3,s0,s1⟩:=hW;go_simp;first | done | with_reducible rfl)
  try simp only[SL,Act.put]
  refine WTP (i:=16) (v:=?vn16) ?yn16 hHeld ?rn16
  case yn16=>(intro W hW;obtain⟨h0,h1,h2,h3,h4,q1,q2,q3,s0,s1⟩:=hW;go_simp;first | done | with_reducible rfl)
  try simp only[SL,Act.put]
  refine WTP (i:=17) (v:=?vn17) ?yn17 hHeld ?rn17
  case yn17=>(intro W hW;obtain⟨h0,h1,h2,h3,h4,q1,q2,q3,s0,s1⟩:=hW;go_simp;first | done | with_reducible rfl)
  try simp only[SL,Act.put]
  refine WTP (i:=18) (v:=?vn18) ?yn18 hHeld ?rn18
  case yn18=>(intro W hW;obtain⟨h0,h1,h2,h3,h4,q1,q2,q3,s0,s1⟩:=hW;go_simp;first | done | with_reducible rfl)
  try simp only[SL,Act.put]
  refine WTP (i:=19) (v:=?vn19) ?yn19 hHeld ?rn19
  case yn19=>(intro W hW;obtain⟨h0,h1,h2,h3,h4,q1,q2,q3,s0,s1⟩:=hW;go_simp;first | done | with_reducible rfl)
  try simp only[SL,Act.put]
  refine WTP (i:=20) (v:=?vn20) ?yn20 hHeld ?rn20
  case yn20=>(intro W hW;obtain⟨h0,h1,h2,h3,h4,q1,q2,q3,s0,s1⟩:=hW;go_simp;first | done | with_reducible rfl)
  try simp only[SL,Act.put]
  refine WTP (i:=21) (v:=?vn21) ?yn21 hHeld ?rn21
  case yn21=>(intro W hW;obtain⟨h0,h1,h2,h3,h4,q1,q2,q3,s0,s1⟩:=hW;go_simp;first | done | with_reducible rfl)
  try simp only[SL,Act.put]
  refine WTP (i:=22) (v:=?vn22) ?yn22 hHeld ?rn22
  case yn22=>(intro W hW;obtain⟨h0,h1,h2,h3,h4,q1,q2,q3,s0,s1⟩:=hW;go_simp;first | done | with_reducible rfl)
  try simp only[SL,Act.put]
  refine WTP (i:=23) (v:=?vn23) ?yn23 hHeld ?rn23
  case yn23=>(intro W hW;obtain⟨h0,h1,h2,h3,h4,q1,q2,q3,s0,s1⟩:=hW;go_simp;first | done | with_reducible rfl)
  try simp only[SL,Act.put]
  refine anyP_ready (rs:=[24]) (by kernel_rfl) (by simp) ?_
  refine AllP.cons rfl (fun K hK=>?_) (AllP.nil)
  go_simp
  refine (HCL.out w4 Hb04.out).mono ?_
  rintro e5 w5 ⟨k5,s5,n5,m5,rfl,hco5,-,hb5⟩
  have kp5:=Keeps.of_below hb5
  have hb05:=Hb04.out.trans (hb5.mono Hb04.out.size)
  have Hb05:=Lib.hid hb05
  have K5:=Lib.hid kp5
  have HPP:=Lib.hid (HPT.out w5 hb05 k5 s5 n5 m5 (hco5.mono (Nat.le_trans hBw Hb04.out.size)))
  clear hb5 hb05 kp5 hco5
  refine hK.out _ _ (fun _=>HSK.out _ _ K5.out) ?_
  clear hK K
  try simp only[SL,Act.put]
  replace hHeld:=HSK.out _ _ K5.out hHeld
  clear HPT HCL HPR HSH
  refine anyP_ready (rs:=[25]) (by kernel_rfl) (by simp) ?_
  refine AllP.cons rfl (fun K hK=>?_) (AllP.nil)
  go_simp
  refine HPP.out.mono ?_
  intro e6 w6 hp6
  clear HPP
  rcases hp6.reads with ⟨ts',hp,rfl,vs',htb,htch⟩ | ⟨hp,rfl,hb6⟩
  ·have sz:w5.heap.size≤w6.heap.size:=htch.size
   have s0:=hHeld.2.2.2.2.2.2.2.2.1
   have s1:=hHeld.2.2.2.2.2.2.2.2.2
   have lt5:=block_lt s0
   have kS:∀ i v,w5.cell? ⟨b2,i,none⟩=some v→w6.cell? ⟨b2,i,none⟩=some v:=fun i v h=>by
    rw[World.cell?_of_block (htch.block b2 lt5 (fun h=>by rcases h with h | h;exact HB2g.out h;exact HB2T.out h))];exact h
   have s0':=kS _ _ s0
   have s1':=kS _ _ s1
   have y2:=htb.bx.cell (i:=2) rfl
   have y3:=htb.bx.cell (i:=3) rfl
   have z2:=htb.bx.frozen 2
   have z3:=htb.bx.frozen 3
   have ho7:Only T w6 ((w6.setCell ⟨T,2,none⟩ (.int .i64 (l1:Int))).setCell ⟨T,3,none⟩ (.int .i64 (mm:Int))):=((Only.refl T w6).setCell _ _).setCell _ _
   have hbx7:=(htb.bx.set_ 2 (.int .i64 (l1:Int))).set_ 3 (.int .i64 (mm:Int))
   have hfin:Tb B ((w6.setCell ⟨T,2,none⟩ (.int .i64 (l1:Int))).setCell ⟨T,3,none⟩ (.int .i64 (mm:Int))) T g (l1:Int) (mm:Int) vs' ts':=⟨hbx7,htb.tab.only ho7 htb.bx (by decide) (by decide),htb.hT,htb.hg⟩
   have htf:Tch (fun b=>b=g∨b=T) w ((w6.setCell ⟨T,2,none⟩ (.int .i64 (l1:Int))).setCell ⟨T,3,none⟩ (.int .i64 (mm:Int))):=(Tch.of_below _ Hb05.out).same (htch.same (Tch.of_only ho7 (.inr rfl)))
   have Hfin:=Lib.hid hfin
   have Htf:=Lib.hid htf
   have HP:=Lib.hid hp
   clear hfin htf hp htb htch hbx7 ho7 kS s0 s1 lt5 sz hHeld hp6
   refine hK.out _ _ (fun h=>absurd (by decide) h) ?_
   clear hK K
   try simp only[SL,Act.put]
   refine anyP_pure (i:=26) (v:=?vnx26) rfl (by kernel_rfl) (by kernel_rfl) (by kernel_rfl) (by kernel_rfl) (fun _ _ _ h=>h) (Or.inl ⟨by rfl,?ynx26⟩) ?rnx26
   case ynx26=>(intro W hW;go_simp;first | done | with_reducible rfl)
   try simp only[SL,Act.put]
   refine anyP_pure (i:=27) (v:=?vnx27) rfl (by kernel_rfl) (by kernel_rfl) (by kernel_rfl) (by kernel_rfl) (fun _ _ _ h=>h) (Or.inl ⟨by rfl,?ynx27⟩) ?rnx27
   case ynx27=>(intro W hW;go_simp;first | done | with_reducible rfl)
   try simp only[SL,Act.put]
   refine anyP_done (by kernel_rfl) ?_ _
   go_wp2
   go_ret
   unfold PutC
   rw[HP.out]
   exact⟨rfl,_,Hfin.out,Htf.out⟩
  ·have hbf:Below w.heap.size w w6:=Hb05.out.trans (hb6.mono Hb05.out.size)
   have Hbf:=Lib.hid hbf
   have HP:=Lib.hid hp
   clear hbf hp hb6 hHeld hp6
   refine hK.out _ _ (fun h=>absurd (by decide) h) ?_
   clear hK K
   try simp only[SL,Act.put]
   refine anyP_pure (i:=26) (v:=?vny26) rfl (by kernel_rfl) (by kernel_rfl) (by kernel_rfl) (by kernel_rfl) (fun _ _ _ h=>h) (Or.inl ⟨by rfl,?yny26⟩) ?rny26
   case yny26=>(intro W hW;go_simp;first | done | with_reducible rfl)
   try simp only[SL,Act.put]
   refine anyP_pure (i:=27) (v:=?vny27) rfl (by kernel_rfl) (by kernel_rfl) (by kernel_rfl) (by kernel_rfl) (fun _ _ _ h=>h) (Or.inl ⟨by rfl,?yny27⟩) ?rny27
   case yny27=>(intro W hW;go_simp;first | done | with_reducible rfl)
   try simp only[SL,Act.put]
   refine anyP_done (by kernel_rfl) ?_ _
   go_wp2
   go_ret
   unfold PutC
   rw[HP.out]
   exact⟨rfl,Hbf.out⟩
end Go.Proofs.YtnjlkhhcfiedbaaGreatDoor
namespace Go.Proofs.YtnjlkhhcfiedbaaGreatDoor
open Go.RowKit
attribute [local go_sem] Oper.semAt_some
end Go.Proofs.YtnjlkhhcfiedbaaGreatDoor
namespace Go.Proofs.YtnjlkhhcfiedbaaGreatDoor
open Go.RowKit
attribute [local go_sem] Oper.semAt_some
theorem infoKd:(Tryz.prog.info? 163).map (fun i=>(i.zero,i.size,i.bytes))=some (some (.agg #[.slice none 0 0,.int .i64 0,.slice none 0 0,.slice none 0 0,.slice none 0 0]),5,104):=by kernel_rfl
theorem OI.rowK {B B':Nat} {X Y:World} {v w:Value} {xs:List Int} {n:Nat} {ys:List Value} (h:OI B X w xs) (ho:X.ownsRow B' 163 5 v n ys) (hg:X.grownBy Y v.ownBlock):OI B Y w xs :=
 ⟨own_stay h.1 fun k hk=>hg.block k (h.1.lt k hk).2 fun e=>by
  rcases own_apart h.1 ho (by decide) with h0 | h0
  ·rw[h0] at hk;cases hk
  ·exact h0 (by rw[hk,e]),h.2⟩
theorem append_kd {B B1:Nat} {X:World} {v:Value} {us:List V5} {J:List Cel} {u:V5} {x:Cel} (ho:X.ownsRow B1 163 5 v us.length (flatV us)) (h:OwnL B X us J) (h2:OwnC B X u x) (hl:us.length+1≤1000000) (hB:B1≤X.heap.size) :
  ∃ v' X3,(Builtin.append_ #[165,165] 165 #[v,.slice (some ⟨X.heap.size,0,none⟩) 1 1]).run Tryz.prog (X.alloc (.cells #[u.a,u.b,u.c,u.d,u.e] 163))=.ok v' X3∧X3.ownsRow B1 163 5 v' (us ++ [u]).length (flatV (us ++ [u]))∧OwnL B X3 (us ++ [u]) (J ++ [x]) ∧
   (∀ B0,B0≤B1→Below B0 X X3):=by
 have hb:Below X.heap.size X (X.alloc (.cells #[u.a,u.b,u.c,u.d,u.e] 163)):=(Below.refl _ _).alloc (Nat.le_refl _) _
 obtain⟨i0,hi,hz0,hz1,hz2⟩:=info_parts infoKd
 have ho2:=own_below ho hb (Nat.le_refl _)
 have hL2:OwnL B (X.alloc (.cells #[u.a,u.b,u.c,u.d,u.e] 163)) (us ++ [u]) (J ++ [x]):=(h.append (OwnL.one h2)).below hb
 obtain⟨v',X3,hrun,hr,hg,-,-⟩:=run_append_own_at (P:=Tryz.prog) (X.alloc (.cells #[u.a,u.b,u.c,u.d,u.e] 163)) B1 165 165 163 i0 _ 5 104 Tryz.underlying165 hi hz0 hz1 hz2 rfl (by omega) v us.length (flatV us) ho2 ⟨X.heap.size,0,none⟩ 1 1 (flatV [u]) (by simp[flatV,V5.l])
  (fun j w hw=>by
   rw[add0,show (X.alloc (.cells #[u.a,u.b,u.c,u.d,u.e] 163)).cell? ⟨X.heap.size,j,none⟩=#[u.a,u.b,u.c,u.d,u.e][j]? from cell_of_row _ _ _ _ 163 (0,0) (heap_alloc_new X _)]
   rw[flatV_one] at hw
   simpa [V5.l] using hw) (OwnL.one h2).reads.one (by simp only[maxLen];omega) (by omega) (by simp;omega)
 refine⟨v',X3,hrun,?_,hL2.stay fun o=>o.rowK ho2 hg,fun B0 hB0=>?_⟩
 ·rw[List.length_append,flatV_append]
  exact hr
 ·refine ((hb.mono (show B0≤X.heap.size by omega))).grown hg (by simp;omega) fun j e=>?_
  have:=(ho.lt j e).1
  omega
theorem cells_take {ts:List (Option Cel)} {k:Nat} {t:Option Cel} (h:ts[k]? = some t):cellsT (ts.take (k+1))=cellsT (ts.take k) ++ t.toList:=by
 unfold cellsT
 rw[List.take_add_one,h,List.filterMap_append]
 cases t <;> rfl
theorem cells_take_len (ts:List (Option Cel)) (k:Nat):(cellsT (ts.take k)).length≤k:=by
 have:=cells_le (ts.take k)
 rw[List.length_take] at this
 omega
set_option maxRecDepth 100000 in
set_option maxHeartbeats 4000000 in
theorem hentries_any (B T g:Nat) (d me:Int) (vs:List (Option V5)) (ts:List (Option Cel)) (w:World) (hB:Tb B w T g d me vs ts) (hN2:ts.length≤10000) :
  Calls Tryz.prog 126 #[.pointer (some ⟨T,0,none⟩)] w fun e w'=>∃ v us,e=.returned v∧w'.ownsRow w.heap.size 163 5 v us.length (flatV us)∧OwnL B w' us (cellsT ts)∧Below w.heap.size w w':=by
 obtain⟨N,hN⟩:∃ N,N=ts.length:=⟨_,rfl⟩
 have y0:w.cell? ⟨T,0,none⟩=some (.slice (some ⟨g,0,none⟩) N N):=hB.bx.cell (by rw[hN];rfl)
 rw[← hN] at hN2
 have HB:=Lib.hid hB
 have HN:=Lib.hid hN
 clear hB hN
 go_enter Tryz.func126,Tryz.ntmps126
 go_wp2
 clear y0
 go_loopw [3,11] (fun l i wr=>∃ (k:Nat) (us:List V5),i=.int .i64 k∧k≤N∧wr.ownsRow w.heap.size 163 5 l us.length (flatV us)∧OwnL B wr us (cellsT (ts.take k))∧Below w.heap.size w wr) (fun _ i _=>N - (intOf i).toNat)
 case atStart=>exact⟨0,[],rfl,Nat.zero_le _,World.ownsRow_nil _ _ _ _,⟨rfl,fun i u x h=>by simp at h⟩,Below.refl _ _⟩
 case round =>
  obtain⟨k,us,rfl,hk,ho,hL,hb⟩:=hrel
  rename World=>wr
  by_cases hkN:k<N
  ·have hkt:k<ts.length:=by rw[← HN.out];exact hkN
   obtain⟨t,ht⟩:∃ t,ts[k]? = some t:=⟨_,List.getElem?_eq_getElem hkt⟩
   obtain⟨v,hv,hsl,hcl⟩:=((HB.out.below hb).tab.slot ht)
   have k0:(0:Int)≤(k:Int):=by omega
   have k1:(k:Int)<(N:Int):=by omega
   have k2:decide ((k:Int)<(N:Int))=true:=decide_eq_true k1
   have htk:=cells_take ht
   have hlen:=hL.1
   have htl:=cells_take_len ts k
   have Ho:=Lib.hid ho
   have HL:=Lib.hid hL
   have Hb:=Lib.hid hb
   have HT:=Lib.hid htk
   match t,v,hsl with
   | none,none,hsl =>
    have q0:wr.cell? ⟨g,k*6,none⟩=some (.slice none 0 0):=hcl 0 (by omega) _ rfl
    have q1:wr.cell? ⟨g,k*6+1,none⟩=some (.int .i64 0):=hcl 1 (by omega) _ rfl
    have q2:wr.cell? ⟨g,k*6+2,none⟩=some (.slice none 0 0):=hcl 2 (by omega) _ rfl
    have q3:wr.cell? ⟨g,k*6+3,none⟩=some (.slice none 0 0):=hcl 3 (by omega) _ rfl
    have q4:wr.cell? ⟨g,k*6+4,none⟩=some (.slice none 0 0):=hcl 4 (by omega) _ rfl
    have q5:wr.cell? ⟨g,k*6+5,none⟩=some (.bool false):=hcl 5 (by omega) _ rfl
    have hb1:Below wr.heap.size wr (wr.alloc (.cells #[.slice none 0 0,.int .i64 0,.slice none 0 0,.slice none 0 0,.slice none 0 0,.bool false] 192)):=(Below.refl _ _).alloc (Nat.le_refl _) _
    have Hb1:=Lib.hid hb1
    clear hb1 hcl hsl hv ht hkt htk hlen htl ho hL hb
    go_wp2
    go_roundw
    case rel=>exact⟨k+1,us,by go_num,by omega,own_below Ho.out Hb1.out (Nat.le_refl _),by rw[HT.out];simpa using HL.out.below Hb1.out,Hb.out.trans (Hb1.out.mono Hb.out.size)⟩
    case measure=>simp[intOf];omega
   | some x,some ⟨ka,kb,kc,kd,ke⟩,hsl =>
    obtain⟨e0,hco,hix⟩:=(show OwnC B wr ⟨ka,kb,kc,kd,ke⟩ x from hsl)
    dsimp only at e0 hco
    subst e0
    have q0:wr.cell? ⟨g,k*6,none⟩=some ka:=hcl 0 (by omega) _ rfl
    have q1:wr.cell? ⟨g,k*6+1,none⟩=some (.int .i64 x.cnt):=hcl 1 (by omega) _ rfl
    have q2:wr.cell? ⟨g,k*6+2,none⟩=some kc:=hcl 2 (by omega) _ rfl
    have q3:wr.cell? ⟨g,k*6+3,none⟩=some kd:=hcl 3 (by omega) _ rfl
    have q4:wr.cell? ⟨g,k*6+4,none⟩=some ke:=hcl 4 (by omega) _ rfl
    have q5:wr.cell? ⟨g,k*6+5,none⟩=some (.bool true):=hcl 5 (by omega) _ rfl
    have hx:OwnC B wr ⟨ka,.int .i64 x.cnt,kc,kd,ke⟩ x:=⟨rfl,hco,hix⟩
    obtain⟨P1,d1,f1,-⟩:=hco.key.form
    obtain⟨P2,d2,f2,-⟩:=hco.sum.form
    obtain⟨P3,d3,f3,-⟩:=hco.mn.form
    obtain⟨P4,d4,f4,-⟩:=hco.mx.form
    generalize x.key.length=m1 at f1
    generalize x.sum.length=m2 at f2
    generalize x.mn.length=m3 at f3
    generalize x.mx.length=m4 at f4
    subst f1 f2 f3 f4
    obtain⟨xc,exc⟩:∃ z,z=x.cnt:=⟨_,rfl⟩
    rw[← exc] at q1 hx
    obtain⟨w5,hw5⟩:∃ w5,w5=wr.alloc (.cells #[.slice P1 m1 d1,.int .i64 xc,.slice P2 m2 d2,.slice P3 m3 d3,.slice P4 m4 d4,.bool true] 192):=⟨_,rfl⟩
    have o5:Own 192 w5 wr.heap.size [.slice P1 m1 d1,.int .i64 xc,.slice P2 m2 d2,.slice P3 m3 d3,.slice P4 m4 d4,.bool true]:=by rw[hw5];exact heap_alloc_new wr _
    have hb5:Below wr.heap.size wr w5:=by rw[hw5];exact (Below.refl _ _).alloc (Nat.le_refl _) _
    have r0:=o5.cell (i:=0) rfl
    have r1:=o5.cell (i:=1) rfl
    have r2:=o5.cell (i:=2) rfl
    have r3:=o5.cell (i:=3) rfl
    have r4:=o5.cell (i:=4) rfl
    have r5:=o5.cell (i:=5) rfl
    obtain⟨v',X3,hrun,hr,hL3,hb3⟩:=append_kd (own_below ho hb5 (Nat.le_refl _)) (hL.below hb5) (OwnC.stay hx fun o=>o.below hb5) (by omega) (Nat.le_trans hb.size hb5.size)
    dsimp only at hrun
    have Hrun:=Lib.hid hrun
    have Hr:=Lib.hid hr
    have HL3:=Lib.hid hL3
    have Hb3:=Lib.hid ((hb.trans (hb5.mono hb.size)).trans (hb3 _ (Nat.le_refl _)))
    have HW5:=Lib.hid hw5
    clear hcl hsl hv ht hkt htk hlen htl ho hL hb hx hco hix exc hw5 o5 hb5 hrun hr hL3 hb3
    go_upto_region 5 with (fail)
    rw[← HW5.out]
    clear q0 q1 q2 q3 q4 q5
    go_wp2_with (at_builtin;have _t:=Hrun;refine wpList_append_eq rfl (.tmp 17) (.tmp 20) 165 rfl _ _ _ _ rfl rfl Hrun.out ?_;clear _t Hrun)
    go_roundw
    case rel=>exact⟨k+1,_,by go_num,by omega,Hr.out,by rw[HT.out];exact HL3.out,Hb3.out⟩
    case measure=>simp[intOf];omega
  ·obtain rfl:k=N:=by omega
   rw[List.take_of_length_le (Nat.le_of_eq HN.out.symm)] at hL
   have k2:decide ((k:Int)<(k:Int))=false:=by simp
   have Ho:=Lib.hid ho
   have HL:=Lib.hid hL
   have Hb:=Lib.hid hb
   clear ho hL hb
   go_wp2
   go_ret
   exact⟨_,us,rfl,Ho.out,HL.out,Hb.out⟩
end Go.Proofs.YtnjlkhhcfiedbaaGreatDoor

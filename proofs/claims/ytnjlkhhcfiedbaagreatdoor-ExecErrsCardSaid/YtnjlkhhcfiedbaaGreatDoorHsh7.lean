import Derived.IntWalk
import Derived.Test.YtnjlkhhcfiedbaaGreatDoorSl
import Derived.Test.YtnjlkhhcfiedbaaGreatDoorHsh5
import Derived.Test.YtnjlkhhcfiedbaaGreatDoorWaysP
import Derived.Test.YtnjlkhhcfiedbaaGreatDoorRegP
namespace Go.Proofs.YtnjlkhhcfiedbaaGreatDoor
open Go.RowKit
attribute [local go_sem] Oper.semAt_some
theorem meth_with (f : Nat) (x : Value) (w : World) : Sem.run Tryz.prog (method (f + 1) 163 x "hypercube/hash.with") w = .ok (217, x) w := by kernel_rfl
structure Tb (B:Nat) (w:World) (T g:Nat) (d me:Int) (vs:List (Option V5)) (ts:List (Option Cel)):Prop where
 bx:Own 161 w T [.slice (some ⟨g,0,none⟩) ts.length ts.length,.int .i64 (cellsT ts).length,.int .i64 d,.int .i64 me]
 tab:TabO B w g vs ts
 hT:B≤T
 hg:B≤g
section
variable {B B' T g:Nat} {w w':World} {d me:Int} {vs:List (Option V5)} {ts:List (Option Cel)}
theorem Tb.below (h:Tb B w T g d me vs ts) (hb:Below w.heap.size w w'):Tb B w' T g d me vs ts:=⟨h.bx.below hb h.bx.lt,h.tab.below hb,h.hT,h.hg⟩
theorem Tb.mono (h:Tb B w T g d me vs ts) (hb:B'≤B):Tb B' w T g d me vs ts:=⟨h.bx,h.tab.mono hb,Nat.le_trans hb h.hT,Nat.le_trans hb h.hg⟩
theorem Tb.ne (h:Tb B w T g d me vs ts):T ≠ g:=fun e=>by
 subst e
 have h1:=h.bx
 have h2:=h.tab.blk
 unfold Own at h1 h2
 rw[h1] at h2
 injection h2 with h2
 injection h2 with _ h3
 exact absurd h3 (by decide)
end
theorem TabO.six {B g i:Nat} {w:World} {vs:List (Option V5)} {ts:List (Option Cel)} (h:TabO B w g vs ts) (hi:i<ts.length):∃ u0 u1 u2 u3 u4 u5,w.cell? ⟨g,i*6,none⟩=some u0∧w.cell? ⟨g,i*6+1,none⟩=some u1∧w.cell? ⟨g,i*6+2,none⟩=some u2∧w.cell? ⟨g,i*6+3,none⟩=some u3∧w.cell? ⟨g,i*6+4,none⟩=some u4∧w.cell? ⟨g,i*6+5,none⟩=some u5:=by
 have hi2:i<vs.length:=by rw[h.len];exact hi
 have hv:vs[i]? = some vs[i]:=List.getElem?_eq_getElem hi2
 have hc:∀ j,(hj:j<6)→w.cell? ⟨g,i*6+j,none⟩=some ((slotL vs[i])[j]'(by rw[slotL_len];exact hj)):=fun j hj=>h.blk.cell (by rw[flatS_at hv j hj];exact List.getElem?_eq_getElem _)
 exact⟨_,_,_,_,_,_,hc 0 (by omega),hc 1 (by omega),hc 2 (by omega),hc 3 (by omega),hc 4 (by omega),hc 5 (by omega)⟩
def PutB (B:Nat) (w:World) (T g:Nat) (d me:Int) (ts:List (Option Cel)) (x:Cel) (e:Ending) (w':World):Prop :=
 match putT ts x with
 | none=>e=.returned (.bool false)∧Below w.heap.size w w'
 | some ts'=>e=.returned (.bool true)∧∃ vs',Tb B w' T g d me vs' ts'∧Tch (fun b=>b=g∨b=T) w w'
theorem cells_new_len {ts:List (Option Cel)} {k:Nat} (h:ts[k]? = some none) (x:Cel):(cellsT (ts.set k (some x))).length=(cellsT ts).length+1:=by
 obtain⟨a,b,h1,h2⟩:=cellsT_split h
 rw[h1,h2];simp
 omega
theorem cells_old_len {ts:List (Option Cel)} {k:Nat} {y:Cel} (h:ts[k]? = some (some y)) (x:Cel):(cellsT (ts.set k (some x))).length=(cellsT ts).length:=by
 obtain⟨a,b,h1,h2⟩:=cellsT_split h
 rw[h1,h2];simp
theorem cells_lt {ts:List (Option Cel)} {k:Nat} (h:ts[k]? = some none):(cellsT ts).length<ts.length:=by
 have h1:=cells_new_len h ⟨[],0,[],[],[]⟩
 have h2:=cells_le (ts.set k (some ⟨[],0,[],[],[]⟩))
 rw[List.length_set] at h2
 omega
set_option maxRecDepth 100000 in
set_option maxHeartbeats 4000000 in
theorem hput_any (B T g:Nat) (d me:Int) (mm:Nat) (vs:List (Option V5)) (ts:List (Option Cel)) (k s n m:Value) (x:Cel) (w:World) (hB:Tb B w T g d me vs ts) (hN1:1≤ts.length) (hN2:ts.length≤10000)
  (hev:∀ (i:Nat) (y:Cel),ts[i]? = some (some y)→y.key.length≤1000∧EvenC mm y) (hx:OwnC B w ⟨k,.int .i64 x.cnt,s,n,m⟩ x) (hl:x.key.length≤1000) (hok:okK x.key=true) (ex:EvenC mm x) (hmm:mm≤1000000) :
  Calls Tryz.prog 124 #[.pointer (some ⟨T,0,none⟩),.agg #[k,.int .i64 x.cnt,s,n,m]] w fun e w'=>PutB B w T g d me ts x e w':=by
 obtain⟨-,hco,hix⟩:=hx
 dsimp only at hco
 have hcr:=hco.cr
 obtain⟨N,hN⟩:∃ N,N=ts.length:=⟨_,rfl⟩
 rw[← hN] at hN1 hN2
 have hne:=hB.ne
 have HSK:=Lib.hid (fun (W:World) (hb:Below w.heap.size w W)=>seek_any T g N N ts k s n m x W hN.symm (hB.tab.below hb).read (fun i y hy=>(hev i y hy).1) ((hB.below hb).bx.cell (i:=0) (by rw[hN];rfl)) hN1 hN2 (hcr.keep (Keeps.of_below hb)) hl hok)
 have HWI:Hid (∀ (W:World),Below w.heap.size w W→∀ (kk kc kn km:Value) (y:Cel),CR W kk kc kn km y→y.key=x.key→EvenC mm y→inK .i64 y.cnt→Calls Tryz.prog 217 #[.agg #[kk,.int .i64 y.cnt,kc,kn,km],.agg #[k,.int .i64 x.cnt,s,n,m]] W fun e w'=>∃ k s n m,e=.returned (.agg #[k,.int .i64 (join2 y x).cnt,s,n,m])∧CO W.heap.size w' k s n m (join2 y x)∧Below W.heap.size W w'):=Lib.hid (fun W hb kk kc kn km y hy hyx ey hiy=>by
  have hx2:=hcr.keep (Keeps.of_below hb)
  obtain⟨⟨Pk,ck,e1,a1⟩,⟨Ps,cs,e2,a2⟩,⟨Pn,cn,e3,a3⟩,⟨Pm,cm,e4,a4⟩⟩:=hy
  obtain⟨⟨Qk,dk,f1,b1⟩,⟨Qs,ds,f2,b2⟩,⟨Qn,dn,f3,b3⟩,⟨Qm,dm,f4,b4⟩⟩:=hx2
  subst e1 e2 e3 e4 f1 f2 f3 f4
  exact hwith_any Pk Ps Pn Pm Qk Qs Qn Qm _ ck _ cs _ cn _ cm _ dk _ ds _ dn _ dm y x mm W ⟨⟨_,_,rfl,a1⟩,⟨_,_,rfl,a2⟩,⟨_,_,rfl,a3⟩,⟨_,_,rfl,a4⟩⟩ ⟨⟨_,_,rfl,b1⟩,⟨_,_,rfl,b2⟩,⟨_,_,rfl,b3⟩,⟨_,_,rfl,b4⟩⟩ hyx ey ex (by rw[hyx];omega) hmm hiy hix)
 obtain⟨⟨Pk,ck,rfl,-⟩,⟨Ps,cs,rfl,-⟩,⟨Pn,cn,rfl,-⟩,⟨Pm,cm,rfl,-⟩⟩:=hcr
 obtain⟨c1,e1⟩:∃ z,z=x.cnt:=⟨_,rfl⟩
 obtain⟨l1,f1⟩:∃ z,z=x.key.length:=⟨_,rfl⟩
 obtain⟨l2,f2⟩:∃ z,z=x.sum.length:=⟨_,rfl⟩
 obtain⟨l3,f3⟩:∃ z,z=x.mn.length:=⟨_,rfl⟩
 obtain⟨l4,f4⟩:∃ z,z=x.mx.length:=⟨_,rfl⟩
 have HX:Hid (OwnC B w ⟨.slice Pk x.key.length ck,.int .i64 x.cnt,.slice Ps x.sum.length cs,.slice Pn x.mn.length cn,.slice Pm x.mx.length cm⟩ x):=Lib.hid ⟨rfl,hco,hix⟩
 rw[← e1,← f1,← f2,← f3,← f4] at HX HSK HWI ⊢
 clear e1 f1 f2 f3 f4 hco hix hl hok
 obtain⟨w1,hw1⟩:∃ w1,w1=w.alloc (.cells #[.slice Pk l1 ck,.int .i64 c1,.slice Ps l2 cs,.slice Pn l3 cn,.slice Pm l4 cm] 163):=⟨_,rfl⟩
 have o1:Own 163 w1 w.heap.size [.slice Pk l1 ck,.int .i64 c1,.slice Ps l2 cs,.slice Pn l3 cn,.slice Pm l4 cm]:=by rw[hw1];exact heap_alloc_new w _
 have hb1:Below w.heap.size w w1:=by rw[hw1];exact (Below.refl _ w).alloc (Nat.le_refl _) _
 have hBw:B≤w.heap.size:=Nat.le_of_lt (Nat.lt_of_le_of_lt hB.hT hB.bx.lt)
 have HS:=HSK.out w1 hb1
 have HS1:=Lib.hid HS
 have HB:=Lib.hid hB
 have HB1:=Lib.hid hb1
 have HEV:=Lib.hid hev
 have HN:=Lib.hid hN
 obtain⟨b,eb⟩:∃ b,b=w.heap.size:=⟨_,rfl⟩
 rw[← eb] at o1
 have O1:=Lib.hid o1
 have Eb:=Lib.hid eb
 clear hB hb1 hev HS HSK o1 hN
 go_enter Tryz.func124,Tryz.ntmps124
 go_upto_region 1 with (fail)
 rw[← hw1,← eb]
 clear hw1 eb
 obtain⟨b0,b1,b2,b3,b4⟩:=O1.out.bx
 go_wp2_with fail
 clear b0 b1 b2 b3 b4
 refine HS1.out.mono ?_
 rintro e w2 ⟨rfl,hb2⟩
 have hb02:=HB1.out.trans (hb2.mono HB1.out.size)
 have hB2:=HB.out.below hb02
 have bx2:=O1.out.bx.keep (Keeps.of_below hb2)
 have HB2:=Lib.hid hB2
 have Hb02:=Lib.hid hb02
 clear hb2 hb02 HS1
 cases hsk:seekT ts x.key with
 | none =>
  have hp:putT ts x=none:=by unfold putT;rw[hsk]
  have HP:=Lib.hid hp
  clear hp hB2 bx2 hsk
  simp only[Option.map_none]
  go_wp2
  go_ret
  unfold PutB
  rw[HP.out]
  exact⟨rfl,Hb02.out⟩
 | some q =>
  simp only[Option.map_some]
  have hq:=seekF_has (show seekF ts x.key _ _=some q from hsk)
  rcases hq with hq | ⟨y,hq,hyx⟩
  ·have hp:putT ts x=some (ts.set q (some x)):=by unfold putT;rw[hsk];simp only[hq]
   have hqN:q<ts.length:=(List.getElem?_eq_some_iff.1 hq).1
   have hs:w2.cell? ⟨g,q*6+5,none⟩=some (.bool false):=hB2.tab.read q none hq
   have hfz:=hB2.tab.blk.frozen
   obtain⟨u0,u1,u2,u3,u4,u5,j0,j1,j2,j3,j4,j5⟩:=hB2.tab.six hqN
   have hN3:=HN.out
   have z0:=hfz (q*6)
   have z1:=hfz (q*6+1)
   have z2:=hfz (q*6+2)
   have z3:=hfz (q*6+3)
   have z4:=hfz (q*6+4)
   have z5:=hfz (q*6+5)
   have y1:=hB2.bx.cell (i:=1) rfl
   have yz:=hB2.bx.frozen 1
   have hlt:=cells_lt hq
   have hln:=cells_new_len hq x
   have hl3:(cellsT ts).length<10000:=by omega
   obtain⟨u,hu⟩:∃ u,u=(cellsT ts).length:=⟨_,rfl⟩
   rw[← hu] at y1 hln hl3
   obtain⟨W3,hW3⟩:∃ W3,W3=((((((w2.setCell ⟨g,q*6,none⟩ (.slice Pk l1 ck)).setCell ⟨g,q*6+1,none⟩ (.int .i64 c1)).setCell ⟨g,q*6+2,none⟩ (.slice Ps l2 cs)).setCell ⟨g,q*6+3,none⟩ (.slice Pn l3 cn)).setCell ⟨g,q*6+4,none⟩ (.slice Pm l4 cm)).setCell ⟨g,q*6+5,none⟩ (.bool true)):=⟨_,rfl⟩
   have hx2:OwnC B w2 ⟨.slice Pk l1 ck,.int .i64 c1,.slice Ps l2 cs,.slice Pn l3 cn,.slice Pm l4 cm⟩ x:=OwnC.stay HX.out fun o=>o.below Hb02.out
   have hT3:=hB2.tab.put_new hqN hx2
   dsimp only at hT3
   rw[← hW3] at hT3
   have ho3:Only g w2 W3:=by rw[hW3];exact ((((((Only.refl g w2).setCell _ _).setCell _ _).setCell _ _).setCell _ _).setCell _ _).setCell _ _
   have hbx3:=hB2.bx.only ho3 hne
   have hbx4:=hbx3.set_ 1 (.int .i64 ((u:Int)+1))
   have ho4:Only T W3 (W3.setCell ⟨T,1,none⟩ (.int .i64 ((u:Int)+1))):=(Only.refl T W3).setCell _ _
   have hT4:=hT3.only ho4 hbx3 (by decide) (by decide)
   have hfin:Tb B (W3.setCell ⟨T,1,none⟩ (.int .i64 ((u:Int)+1))) T g d me (vs.set q (some ⟨.slice Pk l1 ck,.int .i64 c1,.slice Ps l2 cs,.slice Pn l3 cn,.slice Pm l4 cm⟩)) (ts.set q (some x)):=by
    refine⟨?_,hT4,HB.out.hT,HB.out.hg⟩
    rw[List.length_set,hln]
    simpa [List.set,← hu] using hbx4
   have htch:Tch (fun b=>b=g∨b=T) w (W3.setCell ⟨T,1,none⟩ (.int .i64 ((u:Int)+1))):=(Tch.of_below _ Hb02.out).same ((Tch.of_only ho3 (.inl rfl)).same (Tch.of_only ho4 (.inr rfl)))
   have y1':W3.cell? ⟨T,1,none⟩=some (.int .i64 (u:Int)):=hbx3.cell (by simp[← hu])
   have yz':=hbx3.frozen 1
   have hwr:IntKind.i64.wrap ((u:Int)+1)=(u:Int)+1:=IntWalk.i64_in _ (by omega)
   have Hfin:=Lib.hid hfin
   have Htch:=Lib.hid htch
   have HP:=Lib.hid hp
   have hz:w2.frozen? ⟨g,q*6,none⟩=false:=z0
   clear hN3 hp hB2 hsk hq hqN hfz hlt hln hl3 hu hx2 hT3 ho3 hbx3 hbx4 ho4 hT4 hfin htch y1 yz hN1 hN2
   go_upto_region 7 with (fail)
   have t0:=bx2.1
   have t1:=bx2.2.1
   have t2:=bx2.2.2.1
   have t3:=bx2.2.2.2.1
   have t4:=bx2.2.2.2.2
   go_upto_region 8 with (fail)
   rw[← hW3]
   clear hW3 bx2 z0 z1 z2 z3 z4 z5 hz hs t0 t1 t2 t3 t4 j0 j1 j2 j3 j4 j5
   go_wp2
   go_ret
   unfold PutB
   rw[HP.out]
   exact⟨rfl,_,Hfin.out,Htch.out⟩
  ·have hp:putT ts x=some (ts.set q (some (join2 y x))):=by unfold putT;rw[hsk];simp only[hq]
   obtain⟨hky,hey⟩:=HEV.out q y hq
   obtain⟨hs,kk,ks,kn,km,q0,q1,q2,q3,q4,hcy,hiy⟩:=hB2.tab.read q (some y) hq
   dsimp only at q0 q1 q2 q3 q4
   have HJ:=Lib.hid (HWI.out w2.drew Hb02.out.drew kk ks kn km y (hcy.keep (Keeps.of_below (Below.refl _ _).drew)) hyx hey hiy)
   have HP:=Lib.hid hp
   have HQ:=Lib.hid hq
   obtain⟨yc,eyc⟩:∃ z,z=y.cnt:=⟨_,rfl⟩
   obtain⟨J,eJ⟩:∃ z,z=join2 y x:=⟨_,rfl⟩
   rw[← eyc] at q1
   rw[← eyc,← eJ] at HJ
   rw[← eJ] at HP
   have hJ:inK .i64 J.cnt:=by rw[eJ];exact join2_ok
   have HIJ:=Lib.hid hJ
   have z0:=hB2.tab.blk.frozen (q*6)
   clear hp hq hsk hky hey hcy hiy eyc eJ hJ hB2 HX HWI hN1 hN2
   go_upto_region 5 with (fail)
   refine region_P (S:=fun W=>W.cell? ⟨g,q*6,none⟩=some kk∧W.cell? ⟨g,q*6+1,none⟩=some (.int .i64 yc)∧W.cell? ⟨g,q*6+2,none⟩=some ks∧W.cell? ⟨g,q*6+3,none⟩=some kn∧W.cell? ⟨g,q*6+4,none⟩=some km∧Bx W b (.slice Pk l1 ck) (.int .i64 c1) (.slice Ps l2 cs) (.slice Pn l3 cn) (.slice Pm l4 cm)) (kill:=[10]) (by kernel_rfl) ⟨q0,q1,q2,q3,q4,bx2⟩ (fun hHeld=>?_)
   refine WTP (i:=0) (v:=?vpa0) ?ypa0 hHeld ?rpa0
   case ypa0=>(intro W hW;obtain⟨p0,p1,p2,p3,p4,h0,h1,h2,h3,h4⟩:=hW;go_simp;first | done | with_reducible rfl)
   try simp only[SL,Act.put]
   refine WTP (i:=1) (v:=?vpa1) ?ypa1 hHeld ?rpa1
   case ypa1=>(intro W hW;obtain⟨p0,p1,p2,p3,p4,h0,h1,h2,h3,h4⟩:=hW;go_simp;first | done | with_reducible rfl)
   try simp only[SL,Act.put]
   refine WTP (i:=2) (v:=?vpa2) ?ypa2 hHeld ?rpa2
   case ypa2=>(intro W hW;obtain⟨p0,p1,p2,p3,p4,h0,h1,h2,h3,h4⟩:=hW;go_simp;first | done | with_reducible rfl)
   try simp only[SL,Act.put]
   refine WTP (i:=3) (v:=?vpa3) ?ypa3 hHeld ?rpa3
   case ypa3=>(intro W hW;obtain⟨p0,p1,p2,p3,p4,h0,h1,h2,h3,h4⟩:=hW;go_simp;first | done | with_reducible rfl)
   try simp only[SL,Act.put]
   refine WTP (i:=4) (v:=?vpa4) ?ypa4 hHeld ?rpa4
   case ypa4=>(intro W hW;obtain⟨p0,p1,p2,p3,p4,h0,h1,h2,h3,h4⟩:=hW;go_simp;first | done | with_reducible rfl)
   try simp only[SL,Act.put]
   refine WTP (i:=5) (v:=?vpa5) ?ypa5 hHeld ?rpa5
   case ypa5=>(intro W hW;obtain⟨p0,p1,p2,p3,p4,h0,h1,h2,h3,h4⟩:=hW;go_simp;first | done | with_reducible rfl)
   try simp only[SL,Act.put]
   refine WTP (i:=6) (v:=?vpa6) ?ypa6 hHeld ?rpa6
   case ypa6=>(intro W hW;obtain⟨p0,p1,p2,p3,p4,h0,h1,h2,h3,h4⟩:=hW;go_simp;first | done | with_reducible rfl)
   try simp only[SL,Act.put]
   refine anyP_ready (rs:=[7]) (by kernel_rfl) (by simp) ?_
   refine AllP.cons rfl (fun K hK=>?_) (AllP.nil)
   go_simp
   first | rw[meth_with] | rw[meth_with 148] | rw[meth_with 252]
   go_simp
   refine HJ.out.mono ?_
   rintro e9 w3 ⟨k3,s3,n3,m3,rfl,hco3,hb3⟩
   have kp3:=Keeps.of_below hb3
   have HB3:=Lib.hid hb3
   have HCO3:=Lib.hid hco3
   clear hb3 hco3
   refine hK.out _ _ (fun _ hh=>⟨kp3 _ _ hh.1,kp3 _ _ hh.2.1,kp3 _ _ hh.2.2.1,kp3 _ _ hh.2.2.2.1,kp3 _ _ hh.2.2.2.2.1,hh.2.2.2.2.2.keep kp3⟩) ?_
   clear hK K
   try simp only[SL,Act.put]
   have hHeld2:_:=hHeld
   clear hHeld
   have hHeld:=(show (fun W:World=>W.cell? ⟨g,q*6,none⟩=some kk∧W.cell? ⟨g,q*6+1,none⟩=some (.int .i64 yc)∧W.cell? ⟨g,q*6+2,none⟩=some ks∧W.cell? ⟨g,q*6+3,none⟩=some kn∧W.cell? ⟨g,q*6+4,none⟩=some km∧Bx W b (.slice Pk l1 ck) (.int .i64 c1) (.slice Ps l2 cs) (.slice Pn l3 cn) (.slice Pm l4 cm)) w3 from ⟨kp3 _ _ hHeld2.1,kp3 _ _ hHeld2.2.1,kp3 _ _ hHeld2.2.2.1,kp3 _ _ hHeld2.2.2.2.1,kp3 _ _ hHeld2.2.2.2.2.1,hHeld2.2.2.2.2.2.keep kp3⟩)
   clear hHeld2
   refine WTP (i:=8) (v:=?vpa8) ?ypa8 hHeld ?rpa8
   case ypa8=>(intro W hW;obtain⟨p0,p1,p2,p3,p4,h0,h1,h2,h3,h4⟩:=hW;go_simp;first | done | with_reducible rfl)
   try simp only[SL,Act.put]
   refine WTP (i:=9) (v:=?vpa9) ?ypa9 hHeld ?rpa9
   case ypa9=>(intro W hW;obtain⟨p0,p1,p2,p3,p4,h0,h1,h2,h3,h4⟩:=hW;go_simp;first | done | with_reducible rfl)
   try simp only[SL,Act.put]
   obtain⟨P1,c1',f1,-⟩:=HCO3.out.key.form
   obtain⟨P2,c2',f2,-⟩:=HCO3.out.sum.form
   obtain⟨P3,c3',f3,-⟩:=HCO3.out.mn.form
   obtain⟨P4,c4',f4,-⟩:=HCO3.out.mx.form
   subst f1 f2 f3 f4
   have hb23:Below w2.heap.size w2 w3:=(Below.refl _ w2).drew.trans HB3.out
   have hB3:=HB2.out.below hb23
   have z0:=hB3.tab.blk.frozen (q*6)
   have z1:=hB3.tab.blk.frozen (q*6+1)
   have z2:=hB3.tab.blk.frozen (q*6+2)
   have z3:=hB3.tab.blk.frozen (q*6+3)
   have z4:=hB3.tab.blk.frozen (q*6+4)
   have hxJ:OwnC B w3 ⟨.slice P1 J.key.length c1',.int .i64 J.cnt,.slice P2 J.sum.length c2',.slice P3 J.mn.length c3',.slice P4 J.mx.length c4'⟩ J:=⟨rfl,HCO3.out.mono (Nat.le_trans hBw Hb02.out.size),HIJ.out⟩
   obtain⟨W4,hW4⟩:∃ W4,W4=(((((w3.setCell ⟨g,q*6,none⟩ (.slice P1 J.key.length c1')).setCell ⟨g,q*6+1,none⟩ (.int .i64 J.cnt)).setCell ⟨g,q*6+2,none⟩ (.slice P2 J.sum.length c2')).setCell ⟨g,q*6+3,none⟩ (.slice P3 J.mn.length c3')).setCell ⟨g,q*6+4,none⟩ (.slice P4 J.mx.length c4')):=⟨_,rfl⟩
   have hT4:=hB3.tab.put_old HQ.out hxJ
   dsimp only at hT4
   rw[← hW4] at hT4
   have ho4:Only g w3 W4:=by rw[hW4];exact (((((Only.refl g w3).setCell _ _).setCell _ _).setCell _ _).setCell _ _).setCell _ _
   have hbx4:=hB3.bx.only ho4 hne
   have hfin:Tb B W4 T g d me (vs.set q (some ⟨.slice P1 J.key.length c1',.int .i64 J.cnt,.slice P2 J.sum.length c2',.slice P3 J.mn.length c3',.slice P4 J.mx.length c4'⟩)) (ts.set q (some J)):=by
    refine⟨?_,hT4,HB.out.hT,HB.out.hg⟩
    rw[List.length_set,cells_old_len HQ.out]
    exact hbx4
   have htch:Tch (fun b=>b=g∨b=T) w W4:=(Tch.of_below _ Hb02.out).same ((Tch.of_below _ hb23).same (Tch.of_only ho4 (.inl rfl)))
   have Hfin:=Lib.hid hfin
   have Htch:=Lib.hid htch
   clear hb23 hB3 hxJ hT4 ho4 hbx4 hfin htch kp3
   refine anyP_ready (rs:=[10]) (by kernel_rfl) (by simp) ?_
   refine AllP.cons rfl (fun K hK=>?_) (AllP.nil)
   go_simp
   rw[← hW4]
   refine hK.out _ _ (fun h=>absurd (by decide) h) ?_
   clear hK K
   try simp only[SL,Act.put]
   refine anyP_done (by kernel_rfl) ?_ _
   clear hHeld hW4
   go_wp2
   go_ret
   unfold PutB
   rw[HP.out]
   exact⟨rfl,_,Hfin.out,Htch.out⟩
end Go.Proofs.YtnjlkhhcfiedbaaGreatDoor

import Derived.IntWalk
import Derived.OrdersIn
import Derived.OrdersHeld
import Derived.Deep.RegionHeld
import Derived.RangeFuncNested
import Derived.RangeFuncBound
import Derived.RangeFuncCalls
import Derived.RangeFuncLeaves
import Derived.RangeFuncBox
import Derived.Shelf.Abstract
import Derived.Shelf.RegionOpen
import Derived.OwnWalkIn
import Derived.TacticsInMore
import Derived.LoopNIn
import Derived.LoopIn
import Derived.Maps.AppendAt
import Derived.Test.YtnjlkhhcfiedbaaGreatDoorCel6
import Derived.Test.YtnjlkhhcfiedbaaGreatDoorCel0
import Derived.Test.YtnjlkhhcfiedbaaGreatDoorProg
namespace Go.Proofs.YtnjlkhhcfiedbaaGreatDoor
open Go.RowKit
end Go.Proofs.YtnjlkhhcfiedbaaGreatDoor
namespace Go.Proofs.YtnjlkhhcfiedbaaGreatDoor
open Go.RowKit
section
variable {F:Fence} {n:Nat} {P:Program} {ops:Array Oper} {Q:Exit→Act→World→Prop} {md:Region.Mode} {S:World→Prop}
def NoDefer (ops:Array Oper):Prop:=∀ (j:Nat) (o:Oper),ops[j]? = some o→∀ c,o.op ≠ .defer c
def noDeferB (ops:Array Oper):Bool:=ops.all fun o=>match o.op with | .defer _=>false | _=>true
theorem noDefer_of (h:noDeferB ops=true):NoDefer ops:=fun j o hj c e=>by
 unfold noDeferB at h
 rw[Array.all_eq_true] at h
 obtain⟨hl,rfl⟩:=Array.getElem?_eq_some_iff.1 hj
 have:=h j hl
 rw[e] at this
 cases this
def YS (P:Program) (ops:Array Oper) (S:World→Prop) (o:Oper) (v:Value) (a:Act):Prop:=YieldsIf P ops S o v a∧∀ w,o.about P w a.eval=none
def anyI (F:Fence) (n:Nat) (P:Program) (md:Region.Mode) (ops:Array Oper) (Q:Exit→Act→World→Prop) (S:World→Prop):Nat→Array Bool→Act→World→Prop
 | 0,l,a,w=>Region.ready md ops l=[]∧Q .normal a w
 | k+1,l,a,w=>(Region.ready md ops l=[]→Q .normal a w)∧∀ i ∈ Region.ready md ops l,wpOpIn F n P ops Q i (fun a' w'=>S w'∧anyI F n P md ops Q S k (l.setIfInBounds i true) a' w') a w
theorem anyI_sound:∀ (k:Nat) (l:Array Bool) (a:Act) (w:World),anyI F n P md ops Q S k l a w→wpAnyIn F n P md ops Q k l a w
 | 0,_,_,_,h=>h
 | k+1,_,_,_,h=>⟨h.1,fun i hi=>wpOpIn_mono (fun a' w' h'=>anyI_sound k _ a' w' h'.2) (h.2 i hi)⟩
theorem YS.op {i:Nat} {o:Oper} {v:Value} {a:Act} {w:World} {K:Act→World→Prop} (hd:NoDefer ops) (hi:ops[i]? = some o) (hy:YS P ops S o v a) (hS:S w) (h:K (a.put o.dst v) w):wpOpIn F n P ops Q i K a w:=by
 unfold wpOpIn
 have hab:∀ f,o.about P w a.eval=some f→F.fn f:=fun f hf=>by rw[hy.2 w] at hf;cases hf
 simp only[hi]
 rcases hy.1 with ⟨h1,h2⟩ | ⟨h1,h2⟩
 ·simp only[h1,if_true,Oper.wpIn,Oper.semAt_eq F.round a.eval o (hd i o hi),h2 w hS,Oper.uponIn]
  exact⟨hab,h⟩
 ·subst h2
  simp only[h1,Bool.false_eq_true,if_false]
  exact⟨hab,h⟩
theorem YS.move {o:Oper} {v:Value} {a a':Act} (hy:YS P ops S o v a) (he:execOp a'.eval o=execOp a.eval o) (hw:Region.wanted o (yielded ops a'.tmps)=Region.wanted o (yielded ops a.tmps)) (hb:∀ w,o.about P w a'.eval=o.about P w a.eval):YS P ops S o v a' :=
 ⟨hy.1.of_same he hw,fun w=>(hb w).trans (hy.2 w)⟩
theorem op_past {j:Nat} {oi oj:Oper} {v:Value} {K:Act→World→Prop} {a:Act} {w:World} (hd:NoDefer ops) (hj:ops[j]? = some oj) (hap:oi.apart ops oj=true) (hsi:∀ cs b,oi.op ≠ .select cs b) (hsj:∀ cs b,oj.op ≠ .select cs b)
  (hQ:∀ c a w,Q (.panic c) (a.put oi.dst v) w→Q (.panic c) a w) (hy:YS P ops S oi v a) (h:wpOpIn F n P ops Q j K (a.put oi.dst v) w) :
  wpOpIn F n P ops Q j (fun a' w'=>YS P ops S oi v a'∧K (a'.put oi.dst v) w') a w:=by
 obtain⟨p1,p2,p3⟩:=Oper.apart_spec hap
 have stay:∀ (b:Act),YS P ops S oi v b→∀ u,YS P ops S oi v (b.put oj.dst u):=fun b hb u=>hb.move (execOp_put oi hsi b oj.dst u p3) (wanted_put oi b oj.dst u p3) fun w=>about_put oi w b oj.dst u p3
 have nd:=hd j oj hj
 unfold wpOpIn at h ⊢
 simp only[hj] at h ⊢
 rw[wanted_put oj a oi.dst v p1,about_put oj w a oi.dst v p1] at h
 by_cases hw:Region.wanted oj (yielded ops a.tmps)=true
 ·rw[if_pos hw] at h ⊢
  unfold Oper.wpIn at h ⊢
  rw[about_put oj w a oi.dst v p1,Oper.semAt_eq _ _ _ nd,execOp_put oj hsj a oi.dst v p1] at h
  rw[Oper.semAt_eq _ _ _ nd]
  refine⟨h.1,?_⟩
  have h':=h.2
  clear h
  revert h'
  generalize (execOp a.eval oj).run P w=r
  intro h'
  have ret:∀ (u:Value) (w2:World),K ((a.put oi.dst v).put oj.dst u) w2→YS P ops S oi v (a.put oj.dst u)∧K ((a.put oj.dst u).put oi.dst v) w2:=fun u w2 hk=>⟨stay a hy u,by rw[← Act.put_comm a v u p2];exact hk⟩
  match r,h' with
  | .ok (.value u) w2,h'=>exact ret u w2 h'
  | .ok .skip w2,h'=>exact ret undef w2 h'
  | .ok (.defer d) w2,h' =>
   refine⟨(hy.move (a':={ a with defers:=d :: a.defers }) rfl rfl fun _=>rfl) |> fun y=>stay _ y undef,?_⟩
   rw[← Act.put_comm _ v undef p2,← Act.put_defers]
   exact h'
  | .ok (.enter f args) w2,h' =>
   refine⟨h'.1,CallsIn.mono h'.2 fun e w3 he=>?_⟩
   match e,he with
   | .returned u,he=>exact ret u w3 he
   | .panicked c,he=>exact hQ _ _ _ he
   | .outgrown,he=>exact he
  | .ok (.row row args) w2,h'=>exact⟨h'.1,RowsIn.mono h'.2 fun u w3 he=>ret u w3 he⟩
  | .ok (.round l f tmps assign body) w2,h' =>
   refine⟨h'.1,RoundIn.mono h'.2 fun e w3 he=>?_⟩
   match e,he with
   | .returned u,he=>exact ret u w3 he
   | .panicked c,he=>exact hQ _ _ _ he
   | .outgrown,he=>exact he
  | .halt (.panic u) w2,h'=>exact hQ _ _ _ h'
 ·rw[if_neg hw] at h ⊢
  exact⟨h.1,stay a hy undef,by rw[← Act.put_comm a v undef p2];exact h.2⟩
theorem anyI_first {i:Nat} {oi:Oper} {v:Value} (hd:NoDefer ops) (hi:ops[i]? = some oi) (hsel:∀ (j:Nat) (o:Oper) cs b,ops[j]? = some o→o.op ≠ .select cs b) (hQ:∀ c a w,Q (.panic c) (a.put oi.dst v) w→Q (.panic c) a w) :
  ∀ (k:Nat) (l:Array Bool) (a:Act) (w:World),(∀ j oj,ops[j]? = some oj→j ≠ i→l.getD j true=false→(∀ e ∈ oj.after,Region.binds md e=true→e.on ≠ i)→oi.apart ops oj=true) →
   i ∈ Region.ready md ops l→YS P ops S oi v a→S w→anyI F n P md ops Q S k (l.setIfInBounds i true) (a.put oi.dst v) w→anyI F n P md ops Q S (k+1) l a w:=by
 intro k
 induction k with
 | zero =>
  intro l a w _ hr hy hS H
  refine⟨fun h=>absurd hr (by rw[h];simp),fun j hj=>?_⟩
  by_cases hji:j=i
  ·subst hji
   exact hy.op hd hi hS ⟨hS,H⟩
  ·exact absurd (ready_mono hj hji) (by rw[H.1];simp)
 | succ k ih =>
  intro l a w hf hr hy hS H
  refine⟨fun h=>absurd hr (by rw[h];simp),fun j hj=>?_⟩
  by_cases hji:j=i
  ·subst hji
   exact hy.op hd hi hS ⟨hS,H⟩
  ·obtain⟨hun,oj,hoj,hal⟩:=mem_ready.1 hj
   have hno:∀ e ∈ oj.after,Region.binds md e=true→e.on ≠ i:=fun e he hb heq=>by
    have g1:=hal e he hb
    have g0:=(mem_ready.1 hr).1
    rw[heq] at g1
    by_cases hl:i<l.size
    ·simp[hl] at g0 g1;rw[g0] at g1;cases g1
    ·simp[Array.getElem?_eq_none (Nat.le_of_not_lt hl)] at g1
   have h2:=op_past hd hoj (hf j oj hoj hji hun hno) (fun cs b=>hsel i oi cs b hi) (fun cs b=>hsel j oj cs b hoj) hQ hy (H.2 j (ready_mono hj hji))
   refine wpOpIn_mono (fun a' w' h3=>⟨h3.2.1,ih (l.setIfInBounds j true) a' w' (fun m om hm hmi hmu hmn=>hf m om hm hmi ?_ hmn) (ready_mono hr (Ne.symm hji)) h3.1 h3.2.1 ?_⟩) h2
   ·by_cases hjm:j=m
    ·subst hjm;exact hun
    ·rwa [getD_set_ne true hjm] at hmu
   ·rw[Array.setIfInBounds_comm _ _ hji]
    exact h3.2.2
theorem anyI_take {i:Nat} {oi:Oper} {v:Value} {k:Nat} {l:Array Bool} {a:Act} {w:World} (hd:noDeferB ops=true) (hi:ops[i]? = some oi) (hs:Region.noSelect ops=true) (hf:Region.free md ops l i=true) (hr:(Region.ready md ops l).contains i=true)
  (hQ:∀ c a w,Q (.panic c) (a.put oi.dst v) w→Q (.panic c) a w) (hab:∀ w,oi.about P w a.eval=none) (hy:YieldsIf P ops S oi v a) (hS:S w) (h:anyI F n P md ops Q S k (l.setIfInBounds i true) (a.put oi.dst v) w):anyI F n P md ops Q S (k+1) l a w :=
 anyI_first (noDefer_of hd) hi (Region.noSelect_spec hs) hQ k l a w (Region.free_spec hi hf) (by simpa using hr) ⟨hy,hab⟩ hS h
def AllI (F:Fence) (n:Nat) (P:Program) (md:Region.Mode) (ops:Array Oper) (Q:Exit→Act→World→Prop) (S:World→Prop) (k:Nat) (l:Array Bool) (a:Act) (w:World) (rs:List Nat):Prop :=
 ∀ i ∈ rs,wpOpIn F n P ops Q i (fun a' w'=>S w'∧anyI F n P md ops Q S k (l.setIfInBounds i true) a' w') a w
theorem AllI.nil {k:Nat} {l:Array Bool} {a:Act} {w:World}:AllI F n P md ops Q S k l a w []:=fun _ h=>by cases h
theorem AllI.cons {k:Nat} {l:Array Bool} {a:Act} {w:World} {i:Nat} {o:Oper} {rs:List Nat} (hd:noDeferB ops=true) (ho:ops[i]? = some o) (hw:Region.wanted o (yielded ops a.tmps)=true)
  (h:∀ K':Act→World→Prop,Shut (∀ a w,S w→(S w→anyI F n P md ops Q S k (l.setIfInBounds i true) a w)→K' a w)→(∀ f,o.about P w a.eval=some f→F.fn f)∧o.uponIn F n P a K' Q ((execOp a.eval o).run P w)) (hs:AllI F n P md ops Q S k l a w rs):AllI F n P md ops Q S k l a w (i :: rs):=fun j hj=>by
 rcases List.mem_cons.1 hj with rfl | hj
 ·refine wpOpIn_step ho fun K' hK=>?_
  rw[if_pos hw]
  unfold Oper.wpIn
  rw[Oper.semAt_eq _ _ _ (noDefer_of hd _ o ho)]
  exact h K' (fun a w hS hW=>hK a w ⟨hS,hW hS⟩)
 ·exact hs j hj
theorem anyI_ready {rs:List Nat} {k:Nat} {l:Array Bool} {a:Act} {w:World} (hr:Region.ready md ops l=rs) (hne:rs ≠ []) (h:AllI F n P md ops Q S k l a w rs):anyI F n P md ops Q S (k+1) l a w :=
 ⟨fun h0=>absurd (hr ▸ h0) hne,hr ▸ h⟩
theorem anyI_done {l:Array Bool} {a:Act} {w:World} (hr:Region.ready md ops l=[]) (h:Q .normal a w):∀ k,anyI F n P md ops Q S k l a w
 | 0=>⟨hr,h⟩
 | _+1=>⟨fun _=>h,by rw[hr];simp⟩
theorem region_I {id:Nat} {a:Act} {w:World} (hm:P.follows .mixedOrders=true) (hS:S w.drew) (h:S w.drew→anyI F n P .any ops Q S ops.size (Array.replicate ops.size false) a w.drew):(Code.region id ops true).wpIn F n P Q a w :=
 wpIn_region_any hm (anyI_sound _ _ _ _ (h hS))
theorem exec_append {o:Oper} {a:Act} {w w':World} (s x:Operand) (t:TypeId) (ho:o.op=.call { callee:=.builtin .append,args:=#[s,x],argTypes:=#[t,t] }) (v y v':Value) (hs:a.eval s=v) (hx:a.eval x=y)
  (hrun:(Builtin.append_ #[t,t] o.type #[v,y]).run P w=.ok v' w'):(execOp a.eval o).run P w=.ok (.value v') w':=by
 unfold execOp
 simp only[ho,resolve,invoke,builtin,Sem.run_bind,Sem.run_pure,Result.andThen_ok,List.map_toArray,List.map_cons,List.map_nil,hs,hx,hrun]
theorem uponI_append {o:Oper} {a:Act} {w w':World} {next:Act→World→Prop} (s x:Operand) (t:TypeId) (ho:o.op=.call { callee:=.builtin .append,args:=#[s,x],argTypes:=#[t,t] }) (v y v':Value) (hs:a.eval s=v) (hx:a.eval x=y)
  (hrun:(Builtin.append_ #[t,t] o.type #[v,y]).run P w=.ok v' w') (h:next (a.put o.dst v') w'):o.uponIn F n P a next Q ((execOp a.eval o).run P w):=by
 rw[exec_append s x t ho v y v' hs hx hrun]
 exact h
end
end Go.Proofs.YtnjlkhhcfiedbaaGreatDoor
namespace Go.Proofs.YtnjlkhhcfiedbaaGreatDoor
open Go.RowKit
structure Tab (w:World):Prop where
 c0:w.cell? ⟨1,0,none⟩=some (.int .u8 0)
 c1:w.cell? ⟨1,1,none⟩=some (.int .u8 1)
 c3:w.cell? ⟨1,3,none⟩=some (.int .u8 2)
 c7:w.cell? ⟨1,7,none⟩=some (.int .u8 3)
theorem Tab.keep {w w':World} (h:Tab w) (hk:Keeps w w'):Tab w':=⟨hk _ _ h.c0,hk _ _ h.c1,hk _ _ h.c3,hk _ _ h.c7⟩
def tz (x:Int):Int:=if x % 2=1 then 0 else if x % 4=2 then 1 else if x % 8=4 then 2 else 3
def ones (x:Int):Int:=x % 2+x / 2 % 2+x / 4 % 2+x / 8 % 2
set_option maxRecDepth 100000 in
set_option maxHeartbeats 1000000 in
theorem tz64_any (x:Int) (w:World) (hT:Tab w) (h1:1≤x) (h2:x≤15) :
  Calls Tryz.prog 137 #[.int .u64 x] w fun e w'=>e=.returned (.int .i64 (tz x))∧w=w':=by
 obtain⟨c0,c1,c3,c7⟩:=hT
 rcases (by omega:x=1∨x=2∨x=3∨x=4∨x=5∨x=6∨x=7∨x=8∨x=9∨x=10∨x=11∨x=12∨x=13∨x=14∨x=15) with rfl | rfl | rfl | rfl | rfl | rfl | rfl | rfl | rfl | rfl | rfl | rfl | rfl | rfl | rfl
 ·have he:IntKind.u64.wrap (bits BinOp.and IntKind.u64 1 (IntKind.u64.wrap (-1))*285870213051353865) / 288230376151711744=0:=by kernel_rfl
  go_enter Tryz.func137,Tryz.ntmps137
  go_wp2
  go_ret
  exact⟨rfl,rfl⟩
 ·have he:IntKind.u64.wrap (bits BinOp.and IntKind.u64 2 (IntKind.u64.wrap (-2))*285870213051353865) / 288230376151711744=1:=by kernel_rfl
  go_enter Tryz.func137,Tryz.ntmps137
  go_wp2
  go_ret
  exact⟨rfl,rfl⟩
 ·have he:IntKind.u64.wrap (bits BinOp.and IntKind.u64 3 (IntKind.u64.wrap (-3))*285870213051353865) / 288230376151711744=0:=by kernel_rfl
  go_enter Tryz.func137,Tryz.ntmps137
  go_wp2
  go_ret
  exact⟨rfl,rfl⟩
 ·have he:IntKind.u64.wrap (bits BinOp.and IntKind.u64 4 (IntKind.u64.wrap (-4))*285870213051353865) / 288230376151711744=3:=by kernel_rfl
  go_enter Tryz.func137,Tryz.ntmps137
  go_wp2
  go_ret
  exact⟨rfl,rfl⟩
 ·have he:IntKind.u64.wrap (bits BinOp.and IntKind.u64 5 (IntKind.u64.wrap (-5))*285870213051353865) / 288230376151711744=0:=by kernel_rfl
  go_enter Tryz.func137,Tryz.ntmps137
  go_wp2
  go_ret
  exact⟨rfl,rfl⟩
 ·have he:IntKind.u64.wrap (bits BinOp.and IntKind.u64 6 (IntKind.u64.wrap (-6))*285870213051353865) / 288230376151711744=1:=by kernel_rfl
  go_enter Tryz.func137,Tryz.ntmps137
  go_wp2
  go_ret
  exact⟨rfl,rfl⟩
 ·have he:IntKind.u64.wrap (bits BinOp.and IntKind.u64 7 (IntKind.u64.wrap (-7))*285870213051353865) / 288230376151711744=0:=by kernel_rfl
  go_enter Tryz.func137,Tryz.ntmps137
  go_wp2
  go_ret
  exact⟨rfl,rfl⟩
 ·have he:IntKind.u64.wrap (bits BinOp.and IntKind.u64 8 (IntKind.u64.wrap (-8))*285870213051353865) / 288230376151711744=7:=by kernel_rfl
  go_enter Tryz.func137,Tryz.ntmps137
  go_wp2
  go_ret
  exact⟨rfl,rfl⟩
 ·have he:IntKind.u64.wrap (bits BinOp.and IntKind.u64 9 (IntKind.u64.wrap (-9))*285870213051353865) / 288230376151711744=0:=by kernel_rfl
  go_enter Tryz.func137,Tryz.ntmps137
  go_wp2
  go_ret
  exact⟨rfl,rfl⟩
 ·have he:IntKind.u64.wrap (bits BinOp.and IntKind.u64 10 (IntKind.u64.wrap (-10))*285870213051353865) / 288230376151711744=1:=by kernel_rfl
  go_enter Tryz.func137,Tryz.ntmps137
  go_wp2
  go_ret
  exact⟨rfl,rfl⟩
 ·have he:IntKind.u64.wrap (bits BinOp.and IntKind.u64 11 (IntKind.u64.wrap (-11))*285870213051353865) / 288230376151711744=0:=by kernel_rfl
  go_enter Tryz.func137,Tryz.ntmps137
  go_wp2
  go_ret
  exact⟨rfl,rfl⟩
 ·have he:IntKind.u64.wrap (bits BinOp.and IntKind.u64 12 (IntKind.u64.wrap (-12))*285870213051353865) / 288230376151711744=3:=by kernel_rfl
  go_enter Tryz.func137,Tryz.ntmps137
  go_wp2
  go_ret
  exact⟨rfl,rfl⟩
 ·have he:IntKind.u64.wrap (bits BinOp.and IntKind.u64 13 (IntKind.u64.wrap (-13))*285870213051353865) / 288230376151711744=0:=by kernel_rfl
  go_enter Tryz.func137,Tryz.ntmps137
  go_wp2
  go_ret
  exact⟨rfl,rfl⟩
 ·have he:IntKind.u64.wrap (bits BinOp.and IntKind.u64 14 (IntKind.u64.wrap (-14))*285870213051353865) / 288230376151711744=1:=by kernel_rfl
  go_enter Tryz.func137,Tryz.ntmps137
  go_wp2
  go_ret
  exact⟨rfl,rfl⟩
 ·have he:IntKind.u64.wrap (bits BinOp.and IntKind.u64 15 (IntKind.u64.wrap (-15))*285870213051353865) / 288230376151711744=0:=by kernel_rfl
  go_enter Tryz.func137,Tryz.ntmps137
  go_wp2
  go_ret
  exact⟨rfl,rfl⟩
set_option maxHeartbeats 400000 in
theorem tz_any (x:Int) (w:World) (hT:Tab w) (h1:1≤x) (h2:x≤15) :
  Calls Tryz.prog 109 #[.int .u64 x] w fun e w'=>e=.returned (.int .i64 (tz x))∧w=w':=by
 have h:=Lib.hid (tz64_any x w hT h1 h2)
 go_enter Tryz.func109,Tryz.ntmps109
 go_wp2_with fail
 refine h.out.mono ?_
 rintro e w' ⟨rfl,rfl⟩
 go_wp2
 go_ret
 exact⟨rfl,rfl⟩
set_option maxRecDepth 100000 in
set_option maxHeartbeats 4000000 in
theorem ones64_any (x:Int) (w:World) (h1:0≤x) (h2:x≤15) :
  Calls Tryz.prog 56 #[.int .u64 x] w fun e w'=>e=.returned (.int .i64 (ones x))∧w=w':=by
 rcases (by omega:x=0∨x=1∨x=2∨x=3∨x=4∨x=5∨x=6∨x=7∨x=8∨x=9∨x=10∨x=11∨x=12∨x=13∨x=14∨x=15) with rfl | rfl | rfl | rfl | rfl | rfl | rfl | rfl | rfl | rfl | rfl | rfl | rfl | rfl | rfl | rfl
 ·go_enter Tryz.func56,Tryz.ntmps56
  go_wp2
  go_ret
  exact⟨by kernel_rfl,rfl⟩
 ·go_enter Tryz.func56,Tryz.ntmps56
  go_wp2
  go_ret
  exact⟨by kernel_rfl,rfl⟩
 ·go_enter Tryz.func56,Tryz.ntmps56
  go_wp2
  go_ret
  exact⟨by kernel_rfl,rfl⟩
 ·go_enter Tryz.func56,Tryz.ntmps56
  go_wp2
  go_ret
  exact⟨by kernel_rfl,rfl⟩
 ·go_enter Tryz.func56,Tryz.ntmps56
  go_wp2
  go_ret
  exact⟨by kernel_rfl,rfl⟩
 ·go_enter Tryz.func56,Tryz.ntmps56
  go_wp2
  go_ret
  exact⟨by kernel_rfl,rfl⟩
 ·go_enter Tryz.func56,Tryz.ntmps56
  go_wp2
  go_ret
  exact⟨by kernel_rfl,rfl⟩
 ·go_enter Tryz.func56,Tryz.ntmps56
  go_wp2
  go_ret
  exact⟨by kernel_rfl,rfl⟩
 ·go_enter Tryz.func56,Tryz.ntmps56
  go_wp2
  go_ret
  exact⟨by kernel_rfl,rfl⟩
 ·go_enter Tryz.func56,Tryz.ntmps56
  go_wp2
  go_ret
  exact⟨by kernel_rfl,rfl⟩
 ·go_enter Tryz.func56,Tryz.ntmps56
  go_wp2
  go_ret
  exact⟨by kernel_rfl,rfl⟩
 ·go_enter Tryz.func56,Tryz.ntmps56
  go_wp2
  go_ret
  exact⟨by kernel_rfl,rfl⟩
 ·go_enter Tryz.func56,Tryz.ntmps56
  go_wp2
  go_ret
  exact⟨by kernel_rfl,rfl⟩
 ·go_enter Tryz.func56,Tryz.ntmps56
  go_wp2
  go_ret
  exact⟨by kernel_rfl,rfl⟩
 ·go_enter Tryz.func56,Tryz.ntmps56
  go_wp2
  go_ret
  exact⟨by kernel_rfl,rfl⟩
 ·go_enter Tryz.func56,Tryz.ntmps56
  go_wp2
  go_ret
  exact⟨by kernel_rfl,rfl⟩
set_option maxHeartbeats 400000 in
theorem ones_any (x:Int) (w:World) (h1:0≤x) (h2:x≤15) :
  Calls Tryz.prog 36 #[.int .u64 x] w fun e w'=>e=.returned (.int .i64 (ones x))∧w=w':=by
 have h:=Lib.hid (ones64_any x w h1 h2)
 go_enter Tryz.func36,Tryz.ntmps36
 go_wp2_with fail
 refine h.out.mono ?_
 rintro e w' ⟨rfl,rfl⟩
 go_wp2
 go_ret
 exact⟨rfl,rfl⟩
def fullB (d:Nat):Int:=2 ^ d - 1
set_option maxHeartbeats 1000000 in
theorem full_any (d:Nat) (w:World) (h:d≤4) :
  Calls Tryz.prog 110 #[.int .i64 d] w fun e w'=>e=.returned (.int .i64 (fullB d))∧w=w':=by
 rcases (by omega:d=0∨d=1∨d=2∨d=3∨d=4) with rfl | rfl | rfl | rfl | rfl
 all_goals
  go_enter Tryz.func110,Tryz.ntmps110
  go_wp2
  go_ret
  exact⟨by kernel_rfl,rfl⟩
def plc (set d:Int):Int:=if d=0 then 0 else if d=1 then set % 2 else if d=2 then set % 2+set / 2 % 2 else set % 2+set / 2 % 2+set / 4 % 2
theorem plc_and (s:Int) (d:Nat) (h1:0≤s) (h2:s≤15) (hd:d≤3):0≤bits .and .i64 s (fullB d)∧bits .and .i64 s (fullB d)≤15∧ones (bits .and .i64 s (fullB d))=plc s d:=by
 rcases (by omega:s=0∨s=1∨s=2∨s=3∨s=4∨s=5∨s=6∨s=7∨s=8∨s=9∨s=10∨s=11∨s=12∨s=13∨s=14∨s=15) with rfl | rfl | rfl | rfl | rfl | rfl | rfl | rfl | rfl | rfl | rfl | rfl | rfl | rfl | rfl | rfl
 all_goals
  rcases (by omega:d=0∨d=1∨d=2∨d=3) with rfl | rfl | rfl | rfl <;> decide +kernel
set_option maxHeartbeats 1000000 in
theorem place_any (s:Int) (d:Nat) (w:World) (h1:0≤s) (h2:s≤15) (hd:d≤3) :
  Calls Tryz.prog 84 #[.int .i64 s,.int .i64 d] w fun e w'=>e=.returned (.int .i64 (plc s d))∧w=w':=by
 obtain⟨a1,a2,a3⟩:=plc_and s d h1 h2 hd
 have hf:=Lib.hid (full_any d w (by omega))
 obtain⟨y,hy⟩:∃ y,y=bits .and .i64 s (fullB d):=⟨_,rfl⟩
 rw[← hy] at a1 a2 a3
 have ho:=Lib.hid (ones_any y w a1 a2)
 rw[← a3]
 have w64:IntKind.u64.wrap y=y:=by
  rcases (by omega:y=0∨y=1∨y=2∨y=3∨y=4∨y=5∨y=6∨y=7∨y=8∨y=9∨y=10∨y=11∨y=12∨y=13∨y=14∨y=15) with rfl | rfl | rfl | rfl | rfl | rfl | rfl | rfl | rfl | rfl | rfl | rfl | rfl | rfl | rfl | rfl <;> rfl
 have W64:=Lib.hid w64
 have A3:=Lib.hid a3
 have Y:=Lib.hid hy
 clear a3 hy w64
 go_enter Tryz.func84,Tryz.ntmps84
 go_wp2_with fail
 refine hf.out.mono ?_
 rintro e w' ⟨rfl,rfl⟩
 go_wp2_with fail
 rw[← Y.out,W64.out]
 refine ho.out.mono ?_
 rintro e w' ⟨rfl,rfl⟩
 go_wp2
 go_ret
 exact⟨rfl,rfl⟩
end Go.Proofs.YtnjlkhhcfiedbaaGreatDoor
namespace Go.Proofs.YtnjlkhhcfiedbaaGreatDoor
open Go.RowKit Go.Shelf
attribute [local go_sem] Oper.semAt_some
def dimsL (s:Int):List Int:=(if s % 2=1 then [0] else []) ++ (if s / 2 % 2=1 then [1] else []) ++ (if s / 4 % 2=1 then [2] else []) ++ (if s / 8 % 2=1 then [3] else [])
theorem dimsL_step (r:Int) (h1:1≤r) (h2:r≤15):dimsL r=tz r :: dimsL (bits .and .u64 r (r - 1))∧0≤bits .and .u64 r (r - 1)∧bits .and .u64 r (r - 1)≤15∧bits .and .u64 r (r - 1)<r:=by
 rcases (by omega:r=1∨r=2∨r=3∨r=4∨r=5∨r=6∨r=7∨r=8∨r=9∨r=10∨r=11∨r=12∨r=13∨r=14∨r=15) with rfl | rfl | rfl | rfl | rfl | rfl | rfl | rfl | rfl | rfl | rfl | rfl | rfl | rfl | rfl <;> decide +kernel
theorem dimsL_zero:dimsL 0=[]:=rfl
theorem dimsL_le (s:Int):(dimsL s).length≤4:=by
 unfold dimsL
 simp only[List.length_append]
 have h:∀ (p:Prop) [Decidable p] (x:Int),(if p then [x] else []).length≤1:=fun p _ x=>by split <;> simp
 have a:=h (s % 2=1) 0
 have b:=h (s / 2 % 2=1) 1
 have c:=h (s / 4 % 2=1) 2
 have d:=h (s / 8 % 2=1) 3
 omega
theorem dimsL_in (s d:Int) (h:d ∈ dimsL s):d=0∨d=1∨d=2∨d=3:=by
 unfold dimsL at h
 simp only[List.mem_append] at h
 rcases h with ((h | h) | h) | h <;> split at h <;> simp at h <;> simp[h]
theorem u64_id (s:Int) (h1:0≤s) (h2:s≤15):IntKind.u64.wrap s=s:=by
 rcases (by omega:s=0∨s=1∨s=2∨s=3∨s=4∨s=5∨s=6∨s=7∨s=8∨s=9∨s=10∨s=11∨s=12∨s=13∨s=14∨s=15) with rfl | rfl | rfl | rfl | rfl | rfl | rfl | rfl | rfl | rfl | rfl | rfl | rfl | rfl | rfl | rfl <;> rfl
theorem Tab.below {n₀:Nat} {w w':World} (h:Tab w) (hb:Below n₀ w w') (hn:1<n₀):Tab w' :=
 ⟨(hb.cell (p:=⟨1,0,none⟩) hn).trans h.c0,(hb.cell (p:=⟨1,1,none⟩) hn).trans h.c1,(hb.cell (p:=⟨1,3,none⟩) hn).trans h.c3,(hb.cell (p:=⟨1,7,none⟩) hn).trans h.c7⟩
abbrev InSet (s:Int):={ d:Int // d ∈ dimsL s }
set_option maxRecDepth 100000 in
set_option maxHeartbeats 2000000 in
theorem dims1_in (n:Nat) (hn:1≤n) (l Bs n₀:Nat) (s:Int) (h1:0≤s) (h2:s≤15) (hn1:1<n₀) (J Jx:List (InSet s)→World→Prop)
  (hY:∀ pre x W,J pre W→pre.length<(dimsL s).length→YieldAt Fence.wide (n - 1) Tryz.prog l #[.int .i64 x.1] W fun e W' =>
   (e=.returned (.bool true)∧J (pre ++ [x]) W'∧Below n₀ W W')∨(e=.returned (.bool false)∧Jx (pre ++ [x]) W'))
  (W:World) (hBs:W.cell? ⟨Bs,0,none⟩=some (.int .i64 s)) (hTab:Tab W) (h0:J [] W) :
  CallsIn Fence.wide n Tryz.prog 108 #[.func (.yield l) #[] #[],.pointer (some ⟨Bs,0,none⟩)] W fun e W'=>(∃ v,e=.returned v) ∧
   ((∃ ys:List (InSet s),ys.map (·.1)=dimsL s∧J ys W')∨(∃ pre:List (InSet s),True∧Jx pre W')):=by
 have hu:=u64_id s h1 h2
 refine callsIn_of_wp Tryz.func108 rfl trivial ?_ rfl
 simp only[Tryz.ntmps108,List.size_toArray,List.length_cons,List.length_nil,Nat.reduceAdd,Nat.reduceSub,Array.replicate_succ,Array.replicate_zero,List.push_toArray,List.append_toArray,List.nil_append,List.cons_append]
 gi_wp2
 gi_loopw [3] (fun p wr=>∃ (pre:List (InSet s)) (r:Int),p=.int .u64 r∧0≤r∧r≤15∧dimsL s=pre.map (·.1) ++ dimsL r∧J pre wr∧Below n₀ W wr)
  (fun p _=>(intOf p).toNat)
 case atStart=>exact⟨[],s,rfl,h1,h2,rfl,h0,Below.refl _ _⟩
 case round =>
  obtain⟨pre,r,rfl,hr1,hr2,hx,hJs,hB⟩:=hrel
  by_cases hr:r=0
  ·subst hr
   rw[dimsL_zero,List.append_nil] at hx
   gi_wp2
   go_end0
   exact⟨⟨_,rfl⟩,.inl ⟨pre,hx.symm,hJs⟩⟩
  ·obtain⟨e1,e2,e3,e4⟩:=dimsL_step r (by omega) hr2
   have htr:Tab wr:=hTab.below hB hn1
   have hne:(r != 0)=true:=by simpa using hr
   have hsub:IntKind.u64.wrap (r - 1)=r - 1:=u64_id _ (by omega) (by omega)
   have hmem:tz r ∈ dimsL s:=by rw[hx,e1];simp
   obtain⟨fn,tmps,assign,body,hy,hR⟩:=hY pre ⟨tz r,hmem⟩ wr hJs (by rw[hx,e1];simp)
   dsimp only at hy
   have Hx:=Lib.hid hx
   have E1:=Lib.hid e1
   clear hx e1
   gi_wp2_with (refine⟨trivial,?_⟩;gi_at_call 109;refine (callsIn_wide.2 (tz_any r wr htr (by omega) hr2)).mono ?_;rintro e w' ⟨rfl,rfl⟩)
   refine hR.mono ?_
   rintro e W3 (⟨rfl,hJ3,hk3⟩ | ⟨rfl,hJx3⟩)
   ·gi_wp2
    go_roundw
    case rel=>exact⟨pre ++ [⟨tz r,hmem⟩],_,rfl,e2,e3,Hx.out.trans (by rw[E1.out];simp),hJ3,hB.trans hk3⟩
    case measure=>simp[intOf];omega
   ·gi_wp2
    refine bodyPost_ret (results_none rfl _ _ _) rfl ?_
    exact⟨⟨_,rfl⟩,.inr ⟨_,trivial,hJx3⟩⟩
theorem dims_stops (n:Nat) (hn:1≤n) (Bs n₀:Nat) (s:Int) (h1:0≤s) (h2:s≤15) (hn1:1<n₀) (w:World) (hBs:Bs<w.heap.size) (hc:w.cell? ⟨Bs,0,none⟩=some (.int .i64 s)) (hT:Tab w) :
  SeqStopsK Fence.wide n Tryz.prog 108 #[.pointer (some ⟨Bs,0,none⟩)] (fun x:InSet s=>#[Value.int .i64 x.1]) (Below n₀) (fun ys=>ys.map (·.1)=dimsL s) (fun _=>True) (dimsL s).length w:=fun l J Jx W hW _ _ hY h0 =>
 dims1_in n hn l Bs n₀ s h1 h2 hn1 J Jx hY W ((hW.cell (p:=⟨Bs,0,none⟩) hBs).trans hc) (hT.keep (Keeps.of_below hW)) h0
set_option maxHeartbeats 1000000 in
theorem dims_in (s:Int) (w:World) :
  Calls Tryz.prog 83 #[.int .i64 s] w fun e w'=>e=.returned (.func (.func 108) #[] #[.pointer (some ⟨w.heap.size,0,none⟩)])∧w'=w.alloc (.cells #[.int .i64 s] 3):=by
 go_enter Tryz.func83,Tryz.ntmps83
 go_wp2
 go_ret
 exact⟨rfl,rfl⟩
end Go.Proofs.YtnjlkhhcfiedbaaGreatDoor
namespace Go.Proofs.YtnjlkhhcfiedbaaGreatDoor
open Go.RowKit Go.Shelf
attribute [local go_sem] Oper.semAt_some
section
variable {F:Fence} {n:Nat} {P:Program} {ops:Array Oper} {Q:Exit→Act→World→Prop} {md:Region.Mode} {S:World→Prop}
end
theorem grown_drew (W:World):W.grownBy W.drew none:=⟨rfl,rfl,rfl,Nat.le_refl _,fun _ _ _=>rfl⟩
def lenOf:Value→Nat
 | .slice _ n _=>n
 | _=>0
end Go.Proofs.YtnjlkhhcfiedbaaGreatDoor
namespace Go.Proofs.YtnjlkhhcfiedbaaGreatDoor
open Go.RowKit Go.Shelf
end Go.Proofs.YtnjlkhhcfiedbaaGreatDoor

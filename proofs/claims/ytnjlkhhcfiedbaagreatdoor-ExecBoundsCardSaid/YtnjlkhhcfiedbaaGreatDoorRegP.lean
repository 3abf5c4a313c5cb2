import Derived.RangeFuncNested
import Derived.RangeFuncBound
import Derived.RangeFuncCalls
import Derived.RangeFuncLeaves
import Derived.RangeFuncBox
import Derived.Shelf.Abstract
import Derived.Shelf.RegionOpen
import Derived.OwnWalkIn
import Derived.TacticsInMore
import Derived.LoopNIn
import Derived.LoopIn
import Derived.Maps.AppendAt
import Derived.Test.YtnjlkhhcfiedbaaGreatDoorCelf
import Derived.Test.YtnjlkhhcfiedbaaGreatDoorCel9
namespace Go.Proofs.YtnjlkhhcfiedbaaGreatDoor
open Go.RowKit Go.Shelf
theorem tch_put {M:Nat→Prop} {W:World} {l:Nat} (o:Obj) (hM:M l):Tch M W (W.putObj l o) :=
 ⟨rfl,rfl,rfl,by simp[World.putObj],fun k _ hk=>World.putObj_heap_other fun e=>hk (e ▸ hM)⟩
def roundS {β:Type} (I:β→World→Prop):Exit→Act→World→Prop
 | .normal,_,W'=>∃ s,I s W'
 | _,_,_=>False
theorem range_st {α σ:Type} {F:Fence} {n:Nat} {P:Program} {g:Operand} {ps:Array Tmp} {assign body:Code} {Q:Exit→Act→World→Prop} {a:Act} {w:World}
  (hro:F.round=none) (h1:1≤n) {gf:Nat} {lb:Array Value} (hg:a.eval g=.func (.func gf) #[] lb) (hFg:F.fn gf) (eg:∀ args w,(callFunc gf args).run P w=.ok (.enter gf args) w)
  {encs:α→Array Value} {S:List α→σ→Prop} (hps:∀ x,(encs x).size=ps.size)
  (I:List α→σ→World→Prop) (Rx:List α→α→σ→World→Prop) (tc:α→σ→Nat→Prop) (ok:σ→Nat→Prop) (s0:σ) (a₁:α→World→Act) (wa:α→World→World)
  (hit:∀ (J:List α→σ→World→Prop) (W:World),Below w.heap.size w W→W.heap.size=w.heap.size+2→(∀ pre s A,J pre s A→I pre s A∧w.heap.size+2≤A.heap.size)→(∀ pre s A B M,J pre s A→Tch M A B→(∀ k,M k→ok s k)→J pre s B) →
   (∀ pre s x W1,J pre s W1→Rx pre x s W1→YieldAt F (n - 1 - 1) P (w.heap.size+1) (encs x) W1 fun e W'=>e=.returned (.bool true)∧∃ s',J (pre ++ [x]) s' W'∧Tch (tc x s) W1 W'∧∀ k,k<W1.heap.size→ok s k→¬ tc x s k→ok s' k)→J [] s0 W →
   CallsIn F (n - 1) P gf (#[.func (.yield (w.heap.size+1)) #[] #[]] ++ lb) W fun e W'=>(∃ v,e=.returned v)∧∃ xs s,S xs s∧J xs s W')
  (hI:∀ pre s A B M,I pre s A→Tch M A B→(∀ k,M k→ok s k∨((k=w.heap.size∨k=w.heap.size+1)∧∃ o,A.heap[k]? = some o∧o.isCells=false))→I pre s B)
  (hok:∀ s k,ok s k→w.heap.size+2≤k)
  (htc:∀ pre s x W r d,I pre s W→Rx pre x s W→W.heap[w.heap.size]? = some (.deferred d)→W.heap[w.heap.size+1]? = some (.loop r)→∀ k,tc x s k→k ≠ w.heap.size∧k ≠ w.heap.size+1)
  (h0:I [] s0 w)
  (hwa:∀ x W,Below W.heap.size W (wa x W))
  (hassign:∀ (pre:List α) (s:σ) (x:α) (W:World) (K:Act→World→Prop),I pre s W→Rx pre x s W→K (a₁ x W) (wa x W) →
   assign.wpIn (F.inRound (w.heap.size+1)) (n - 1 - 1) P (Exit.then K (fun _ _ _=>False)) { tmps:=(ps.zip (encs x)).foldl (fun t (p,v)=>t.setIfInBounds p v) a.tmps,defers:=[] } W)
  (hbody:∀ (pre:List α) (s:σ) (x:α) (W Wb:World),I pre s W→Rx pre x s W→w.heap.size+2≤W.heap.size→(∃ r,W.heap[w.heap.size+1]? = some (.loop r))→Tch (fun k=>k=w.heap.size+1) (wa x W) Wb →
   body.wpIn (F.inRound (w.heap.size+1)) (n - 1 - 1) P (roundS fun s' W3=>I (pre ++ [x]) s' W3∧Tch (tc x s) Wb W3∧∀ k,k<W.heap.size→ok s k→¬ tc x s k→ok s' k) (a₁ x W) Wb)
  (hdone:∀ (xs:List α) (s:σ) (W:World),S xs s→I xs s W→W.heap[w.heap.size]? = some (.deferred (some []))→Q .normal { a with defers:={ target:=.collected w.heap.size,args:=#[] } :: a.defers } W) :
  (Code.rangeFunc g ps assign body).wpIn F n P Q a w:=by
 refine wpIn_rangeFunc fun fn hfn=>?_
 rw[hro]
 obtain⟨R,hR⟩:∃ R:LoopState→Option Code→Loop,R=fun st pe=>{ state:=st,pending:=pe,fn,tmps:=a.tmps,params:=ps,assign,body,defers:=w.heap.size }:=⟨_,rfl⟩
 obtain⟨W1,hW1⟩:∃ W1,W1=(w.alloc (.deferred (some []))).alloc (.loop (R .ready none)):=⟨_,rfl⟩
 have hl:W1.heap[w.heap.size+1]? = some (.loop (R .ready none)):=by
  have:=World.alloc_heap_new (w.alloc (.deferred (some []))) (.loop (R .ready none))
  rw[World.size_alloc,← hW1] at this
  exact this
 have hd:W1.heap[w.heap.size]? = some (.deferred (some [])):=by
  rw[hW1]
  exact (Below.heap_alloc _ _ _ (by simp)).trans (World.alloc_heap_new w _)
 have hB:Below w.heap.size w W1:=by
  rw[hW1]
  exact ((Below.refl _ w).alloc (Nat.le_refl _) _).alloc (by simp) _
 have hsz:W1.heap.size=w.heap.size+2:=by rw[hW1];simp
 have hi:I [] s0 W1:=hI _ _ _ _ (fun _=>False) h0 (Tch.of_below _ hB) fun k hk=>hk.elim
 refine⟨w.heap.size+1,[{ target:=.collected w.heap.size,args:=#[] }],W1,{ target:=.fn (.func gf) lb,args:=#[.func (.yield (w.heap.size+1)) #[] #[]] },W1,gf,#[.func (.yield (w.heap.size+1)) #[] #[]] ++ lb,W1,?_,?_,?_,?_,fun _=>h1,?_⟩
 ·rw[hW1,hR]
  exact run_enterLoop_outer _ _ _ _ _
 ·simp only[resolve,hg]
  simp[go_sem]
 ·intro f' hf'
  simp[Target.leads] at hf'
  subst hf'
  exact hFg
 ·simp[invoke,go_sem,eg]
 ·refine (hit (fun pre s W=>I pre s W∧W.heap[w.heap.size+1]? = some (.loop (R .ready none))∧W.heap[w.heap.size]? = some (.deferred (some []))) W1 hB hsz (fun _ _ _ h=>⟨h.1,by have:=(Array.getElem?_eq_some_iff.1 h.2.1).1;omega⟩) ?_ ?_ ⟨hi,hl,hd⟩).mono ?_
  ·rintro pre s A B M ⟨hi,hl,hd⟩ ht hM
   refine⟨hI _ _ _ _ M hi ht fun k hk=>.inl (hM k hk),(ht.block _ (Array.getElem?_eq_some_iff.1 hl).1 fun hk=>?_).trans hl,(ht.block _ (Array.getElem?_eq_some_iff.1 hd).1 fun hk=>?_).trans hd⟩
   ·have:=hok s _ (hM _ hk);omega
   ·have:=hok s _ (hM _ hk);omega
  ·rintro pre s x W ⟨hi,hl,hd⟩ hx
   have hlt:=(Array.getElem?_eq_some_iff.1 hl).1
   have hy:=run_yield (P:=P) (args:=encs x) hl (by rw[hR];exact hps x)
   rw[hR] at hy
   have hbw:=hwa x W
   have hlA:(wa x W).heap[w.heap.size+1]? = some (.loop (R .ready none)):=(hbw.block _ hlt).trans hl
   have hdA:(wa x W).heap[w.heap.size]? = some (.deferred (some [])):=(hbw.block _ (by omega)).trans hd
   have hltA:=(Array.getElem?_eq_some_iff.1 hlA).1
   refine⟨fn,_,assign,body,hy,roundIn_of_wpIn hfn (hassign pre s x W _ hi hx ⟨_,run_beginRound hlA (by rw[hR]),?_⟩)⟩
   obtain⟨L,hL⟩:∃ L:Loop,L={ R .ready none with state:=.busy }:=⟨_,rfl⟩
   rw[← hL]
   have h2:((wa x W).putObj (w.heap.size+1) (.loop L)).heap[w.heap.size+1]? = some (.loop L):=World.putObj_heap_same hltA
   have h3:((wa x W).putObj (w.heap.size+1) (.loop L)).heap[w.heap.size]? = some (.deferred (some [])):=(World.putObj_heap_other (by omega)).trans hdA
   have hT:=tch_put (M:=fun k=>k=w.heap.size+1) (W:=wa x W) (.loop L) rfl
   have htc':=htc pre s x W _ _ hi hx hd hl
   refine wpIn_mono (hbody pre s x W _ hi hx (by omega) ⟨_,hl⟩ hT) ?_
   rintro e a3 W3 hp
   cases e with
   | normal =>
    obtain⟨s',hi3,ht3,ho3⟩:=hp
    have h4:=(ht3.block _ (Array.getElem?_eq_some_iff.1 h2).1 fun hk=>(htc' _ hk).2 rfl).trans h2
    have h5:=(ht3.block _ (Array.getElem?_eq_some_iff.1 h3).1 fun hk=>(htc' _ hk).1 rfl).trans h3
    have hr:=run_endRound (P:=P) none h4
    have e1:({ L with state:=.ready,pending:=none }:Loop)=R .ready none:=by rw[hL,hR]
    simp only[Option.isNone_none,if_true] at hr
    rw[e1] at hr
    have hlt4:=(Array.getElem?_eq_some_iff.1 h4).1
    have hl5:(W3.putObj (w.heap.size+1) (.loop (R .ready none))).heap[w.heap.size+1]? = some (.loop (R .ready none)):=World.putObj_heap_same hlt4
    have hT2:=tch_put (M:=fun k=>k=w.heap.size+1) (W:=W3) (.loop (R .ready none)) rfl
    refine⟨_,_,hr,rfl,s',⟨hI _ _ _ _ _ hi3 hT2 fun k hk=>.inr ⟨.inr hk,_,hk ▸ h4,rfl⟩,hl5,(World.putObj_heap_other (by omega)).trans h5⟩,?_,ho3⟩
    have hsA:=hbw.size
    have hsT:=hT.size
    have hs3:=ht3.size
    have hsT2:=hT2.size
    refine⟨hT2.os.trans (ht3.os.trans (hT.os.trans hbw.os)),hT2.tape.trans (ht3.tape.trans (hT.tape.trans hbw.tape)),hT2.output.trans (ht3.output.trans (hT.output.trans hbw.output)),by omega,fun k hk hn=>?_⟩
    by_cases hkl:k=w.heap.size+1
    ·rw[hkl];exact hl5.trans hl.symm
    ·exact (hT2.block k (by omega) hkl).trans ((ht3.block k (by omega) hn).trans ((hT.block k (by omega) hkl).trans (hbw.block k hk)))
   | ret=>exact hp.elim
   | exit id=>exact hp.elim
   | goto t=>exact hp.elim
   | panic ch=>exact hp.elim
   | outgrown=>exact hp.elim
  ·rintro e W2 ⟨⟨v,rfl⟩,xs,s,hS,hi,hl,hd⟩
   have hr:=run_endLoop (P:=P) hl (by rw[hR];simp)
   rw[hR] at hr
   have hlt:=(Array.getElem?_eq_some_iff.1 hl).1
   refine⟨none,_,hr,hdone xs s _ hS (hI _ _ _ _ (fun k=>k=w.heap.size+1) hi (tch_put _ rfl) fun k hk=>.inr ⟨.inr hk,_,hk ▸ hl,rfl⟩) ((World.putObj_heap_other (by omega)).trans hd)⟩
end Go.Proofs.YtnjlkhhcfiedbaaGreatDoor
namespace Go.Proofs.YtnjlkhhcfiedbaaGreatDoor
open Go.RowKit
section
variable {F:Fence} {n:Nat} {P:Program} {ops:Array Oper} {Q:Exit→Act→World→Prop} {md:Region.Mode} {S:World→Prop} {kill:List Nat}
def waits (md:Region.Mode) (ops:Array Oper) (i:Nat):Nat→Nat→Bool
 | 0,_=>false
 | f+1,j=>match ops[j]? with
  | none=>false
  | some o=>o.after.any fun e=>Region.binds md e && (e.on == i || waits md ops i f e.on)
def Closed (md:Region.Mode) (ops:Array Oper) (l:Array Bool):Prop:=∀ (j:Nat) (o:Oper),ops[j]? = some o→l.getD j false=true→∀ e ∈ o.after,Region.binds md e=true→l.getD e.on false=true
def closedB (md:Region.Mode) (ops:Array Oper) (l:Array Bool):Bool:=(List.range ops.size).all fun j=>!(l.getD j false) || (match ops[j]? with | none=>true | some o=>o.after.all fun e=>!(Region.binds md e) || l.getD e.on false)
theorem closed_of {l:Array Bool} (h:closedB md ops l=true):Closed md ops l:=by
 intro j o ho hl e he hb
 unfold closedB at h
 rw[List.all_eq_true] at h
 have h1:=h j (List.mem_range.2 (Array.getElem?_eq_some_iff.1 ho).1)
 simp only[ho,hl,Bool.not_true,Bool.false_or] at h1
 rw[Array.all_eq_true_iff_forall_mem] at h1
 have h2:=h1 e he
 rw[hb] at h2
 simpa using h2
theorem getD_set_eq {l:Array Bool} {i:Nat} (h:l.getD i false=true∨i<l.size):(l.setIfInBounds i true).getD i false=true:=by
 rcases Nat.lt_or_ge i l.size with hl | hl
 ·simp[hl]
 ·rcases h with h | h
  ·rw[Array.getD_eq_getD_getElem?,Array.getElem?_eq_none hl] at h;cases h
  ·omega
theorem Closed.step {l:Array Bool} {i:Nat} (h:Closed md ops l) (hr:i ∈ Region.ready md ops l):Closed md ops (l.setIfInBounds i true):=by
 intro j o ho hl e he hb
 obtain⟨-,oi,hoi,hall⟩:=mem_ready.1 hr
 have up:l.getD e.on false=true→(l.setIfInBounds i true).getD e.on false=true:=fun g=>by
  by_cases hei:i=e.on
  ·rw[← hei] at g ⊢;exact getD_set_eq (.inl g)
  ·rw[getD_set_ne false hei];exact g
 by_cases hji:i=j
 ·subst hji
  rw[ho] at hoi
  injection hoi with hoi
  subst hoi
  exact up (hall e he hb)
 ·rw[getD_set_ne false hji] at hl
  exact up (h j o ho hl e he hb)
theorem waits_not {l:Array Bool} {i:Nat} (hc:Closed md ops l) (hi:l.getD i false=false):∀ (f j:Nat),waits md ops i f j=true→l.getD j false=false∧j ∉ Region.ready md ops l
 | 0,_,h=>by cases h
 | f+1,j,h=>by
  unfold waits at h
  cases ho:ops[j]? with
  | none=>rw[ho] at h;cases h
  | some o =>
   rw[ho] at h
   simp only[Array.any_eq_true'] at h
   obtain⟨e,he,h⟩:=h
   rw[Bool.and_eq_true,Bool.or_eq_true] at h
   obtain⟨hb,h⟩:=h
   have hun:l.getD e.on false=false:=by
    rcases h with h | h
    ·rw[beq_iff_eq] at h;rw[h];exact hi
    ·exact (waits_not hc hi f e.on h).1
   refine⟨?_,fun hr=>?_⟩
   ·cases hj:l.getD j false with
    | false=>rfl
    | true=>have:=hc j o ho hj e he hb;rw[hun] at this;cases this
   ·obtain⟨-,o',ho',hall⟩:=mem_ready.1 hr
    rw[ho] at ho'
    injection ho' with ho'
    subst ho'
    have:=hall e he hb
    rw[hun] at this
    cases this
def anyN (F:Fence) (n:Nat) (P:Program) (md:Region.Mode) (ops:Array Oper) (Q:Exit→Act→World→Prop) (S:World→Prop) (kill:List Nat):Nat→Array Bool→Act→World→Prop
 | 0,l,a,w=>Region.ready md ops l=[]∧Q .normal a w
 | k+1,l,a,w=>(Region.ready md ops l=[]→Q .normal a w)∧∀ i ∈ Region.ready md ops l,wpOpIn F n P ops Q i (fun a' w'=>(i ∉ kill→S w')∧anyN F n P md ops Q S kill k (l.setIfInBounds i true) a' w') a w
theorem anyN_sound:∀ (k:Nat) (l:Array Bool) (a:Act) (w:World),anyN F n P md ops Q S kill k l a w→wpAnyIn F n P md ops Q k l a w
 | 0,_,_,_,h=>h
 | k+1,_,_,_,h=>⟨h.1,fun i hi=>wpOpIn_mono (fun a' w' h'=>anyN_sound k _ a' w' h'.2) (h.2 i hi)⟩
theorem anyN_first {T:World→Prop} {i f:Nat} {oi:Oper} {v:Value} (hd:NoDefer ops) (hi:ops[i]? = some oi) (hsel:∀ (j:Nat) (o:Oper) cs b,ops[j]? = some o→o.op ≠ .select cs b) (hQ:∀ c a w,Q (.panic c) (a.put oi.dst v) w→Q (.panic c) a w)
  (hT:((∀ w,T w)∧i ∈ kill)∨(T=S∧kill.all (fun j=>waits md ops i f j)=true)) :
  ∀ (k:Nat) (l:Array Bool) (a:Act) (w:World),(∀ j oj,ops[j]? = some oj→j ≠ i→l.getD j true=false→(∀ e ∈ oj.after,Region.binds md e=true→e.on ≠ i)→oi.apart ops oj=true)→Closed md ops l →
   i ∈ Region.ready md ops l→YS P ops T oi v a→T w→anyN F n P md ops Q S kill k (l.setIfInBounds i true) (a.put oi.dst v) w→anyN F n P md ops Q S kill (k+1) l a w:=by
 have hself:∀ w,T w→i ∉ kill→S w:=fun w h hk=>by
  rcases hT with ⟨_,h2⟩ | ⟨rfl,_⟩
  ·exact absurd h2 hk
  ·exact h
 intro k
 induction k with
 | zero =>
  intro l a w _ _ hr hy hS H
  refine⟨fun h=>absurd hr (by rw[h];simp),fun j hj=>?_⟩
  by_cases hji:j=i
  ·subst hji
   exact hy.op hd hi hS ⟨hself _ hS,H⟩
  ·exact absurd (ready_mono hj hji) (by rw[H.1];simp)
 | succ k ih =>
  intro l a w hf hcl hr hy hS H
  refine⟨fun h=>absurd hr (by rw[h];simp),fun j hj=>?_⟩
  by_cases hji:j=i
  ·subst hji
   exact hy.op hd hi hS ⟨hself _ hS,H⟩
  ·obtain⟨hun,oj,hoj,hal⟩:=mem_ready.1 hj
   have hi0:l.getD i false=false:=by
    have g0:=(mem_ready.1 hr).1
    by_cases hl:i<l.size
    ·simp[hl] at g0 ⊢;exact g0
    ·simp[Array.getElem?_eq_none (Nat.le_of_not_lt hl)] at g0
   have hno:∀ e ∈ oj.after,Region.binds md e=true→e.on ≠ i:=fun e he hb heq=>by
    have g1:=hal e he hb
    rw[heq,hi0] at g1
    cases g1
   have hTw:∀ w',(j ∉ kill→S w')→T w':=fun w' h=>by
    rcases hT with ⟨h1,_⟩ | ⟨rfl,h2⟩
    ·exact h1 w'
    ·refine h fun hk=>?_
     exact (waits_not hcl hi0 f j (List.all_eq_true.1 h2 j hk)).2 hj
   have h2:=op_past hd hoj (hf j oj hoj hji hun hno) (fun cs b=>hsel i oi cs b hi) (fun cs b=>hsel j oj cs b hoj) hQ hy (H.2 j (ready_mono hj hji))
   refine wpOpIn_mono (fun a' w' h3=>⟨h3.2.1,ih (l.setIfInBounds j true) a' w' (fun m om hm hmi hmu hmn=>hf m om hm hmi ?_ hmn) (hcl.step hj) (ready_mono hr (Ne.symm hji)) h3.1 (hTw _ h3.2.1) ?_⟩) h2
   ·by_cases hjm:j=m
    ·subst hjm;exact hun
    ·rwa [getD_set_ne true hjm] at hmu
   ·rw[Array.setIfInBounds_comm _ _ hji]
    exact h3.2.2
theorem anyN_take {i:Nat} {oi:Oper} {v:Value} {k:Nat} {l:Array Bool} {a:Act} {w:World} (hd:noDeferB ops=true) (hi:ops[i]? = some oi) (hs:Region.noSelect ops=true) (hf:Region.free md ops l i=true) (hr:(Region.ready md ops l).contains i=true) (hc:closedB md ops l=true)
  (hk:kill.all (fun j=>waits md ops i 30 j)=true)
  (hQ:∀ c a w,Q (.panic c) (a.put oi.dst v) w→Q (.panic c) a w) (hab:∀ w,oi.about P w a.eval=none) (hy:YieldsIf P ops S oi v a) (hS:S w) (h:anyN F n P md ops Q S kill k (l.setIfInBounds i true) (a.put oi.dst v) w):anyN F n P md ops Q S kill (k+1) l a w :=
 anyN_first (T:=S) (f:=30) (noDefer_of hd) hi (Region.noSelect_spec hs) hQ (.inr ⟨rfl,hk⟩) k l a w (Region.free_spec hi hf) (closed_of hc) (by simpa using hr) ⟨hy,hab⟩ hS h
theorem WTN {i:Nat} {oi:Oper} {v:Value} {k:Nat} {l:Array Bool} {a:Act} {w:World} (hy:∀ w,S w→(execOp a.eval oi).run P w=.ok (.value v) w) (hS:S w) (h:anyN F n P md ops Q S kill k (l.setIfInBounds i true) (a.put oi.dst v) w) (hd:noDeferB ops=true:=by kernel_rfl) (hi:ops[i]? = some oi:=by rfl) (hs:Region.noSelect ops=true:=by kernel_rfl) (hf:Region.free md ops l i=true:=by kernel_rfl) (hr:(Region.ready md ops l).contains i=true:=by kernel_rfl) (hc:closedB md ops l=true:=by kernel_rfl)
  (hk:kill.all (fun j=>waits md ops i 30 j)=true:=by kernel_rfl) (hQ:∀ c a w,Q (.panic c) (a.put oi.dst v) w→Q (.panic c) a w:=by exact fun _ _ _ h=>h) (hab:∀ w,oi.about P w a.eval=none:=by exact fun _=>rfl) (hw:Region.wanted oi (yielded ops a.tmps)=true:=by rfl):anyN F n P md ops Q S kill (k+1) l a w :=
 anyN_take hd hi hs hf hr hc hk hQ hab (.inl ⟨hw,hy⟩) hS h
theorem anyN_late {i:Nat} {oi:Oper} {v:Value} {k:Nat} {l:Array Bool} {a:Act} {w:World} (hd:noDeferB ops=true) (hi:ops[i]? = some oi) (hs:Region.noSelect ops=true) (hf:Region.free md ops l i=true) (hr:(Region.ready md ops l).contains i=true) (hc:closedB md ops l=true)
  (hk:i ∈ kill)
  (hQ:∀ c a w,Q (.panic c) (a.put oi.dst v) w→Q (.panic c) a w) (hab:∀ w,oi.about P w a.eval=none) (hy:YieldsIf P ops (fun _=>True) oi v a) (h:anyN F n P md ops Q S kill k (l.setIfInBounds i true) (a.put oi.dst v) w):anyN F n P md ops Q S kill (k+1) l a w :=
 anyN_first (T:=fun _=>True) (f:=30) (noDefer_of hd) hi (Region.noSelect_spec hs) hQ (.inl ⟨fun _=>trivial,hk⟩) k l a w (Region.free_spec hi hf) (closed_of hc) (by simpa using hr) ⟨hy,hab⟩ trivial h
def AllN (F:Fence) (n:Nat) (P:Program) (md:Region.Mode) (ops:Array Oper) (Q:Exit→Act→World→Prop) (S:World→Prop) (kill:List Nat) (k:Nat) (l:Array Bool) (a:Act) (w:World) (rs:List Nat):Prop :=
 ∀ i ∈ rs,wpOpIn F n P ops Q i (fun a' w'=>(i ∉ kill→S w')∧anyN F n P md ops Q S kill k (l.setIfInBounds i true) a' w') a w
theorem AllN.nil {k:Nat} {l:Array Bool} {a:Act} {w:World}:AllN F n P md ops Q S kill k l a w []:=fun _ h=>by cases h
theorem AllN.cons {k:Nat} {l:Array Bool} {a:Act} {w:World} {i:Nat} {o:Oper} {rs:List Nat} (hd:noDeferB ops=true) (ho:ops[i]? = some o) (hw:Region.wanted o (yielded ops a.tmps)=true)
  (h:∀ K':Act→World→Prop,Shut (∀ a w,(i ∉ kill→S w)→anyN F n P md ops Q S kill k (l.setIfInBounds i true) a w→K' a w)→(∀ f,o.about P w a.eval=some f→F.fn f)∧o.uponIn F n P a K' Q ((execOp a.eval o).run P w)) (hs:AllN F n P md ops Q S kill k l a w rs):AllN F n P md ops Q S kill k l a w (i :: rs):=fun j hj=>by
 rcases List.mem_cons.1 hj with rfl | hj
 ·refine wpOpIn_step ho fun K' hK=>?_
  rw[if_pos hw]
  unfold Oper.wpIn
  rw[Oper.semAt_eq _ _ _ (noDefer_of hd _ o ho)]
  exact h K' (fun a w hS hW=>hK a w ⟨hS,hW⟩)
 ·exact hs j hj
theorem AllN.skip {k:Nat} {l:Array Bool} {a:Act} {w:World} {i:Nat} {o:Oper} {rs:List Nat} (ho:ops[i]? = some o) (hw:Region.wanted o (yielded ops a.tmps)=false) (hF:∀ f,F.fn f) (hS:i ∉ kill→S w)
  (h:anyN F n P md ops Q S kill k (l.setIfInBounds i true) (a.put o.dst undef) w) (hs:AllN F n P md ops Q S kill k l a w rs):AllN F n P md ops Q S kill k l a w (i :: rs):=fun j hj=>by
 rcases List.mem_cons.1 hj with rfl | hj
 ·unfold wpOpIn
  simp only[ho,hw,Bool.false_eq_true,if_false]
  exact⟨fun f _=>hF f,hS,h⟩
 ·exact hs j hj
theorem anyN_ready {rs:List Nat} {k:Nat} {l:Array Bool} {a:Act} {w:World} (hr:Region.ready md ops l=rs) (hne:rs ≠ []) (h:AllN F n P md ops Q S kill k l a w rs):anyN F n P md ops Q S kill (k+1) l a w :=
 ⟨fun h0=>absurd (hr ▸ h0) hne,hr ▸ h⟩
theorem anyN_done {l:Array Bool} {a:Act} {w:World} (hr:Region.ready md ops l=[]) (h:Q .normal a w):∀ k,anyN F n P md ops Q S kill k l a w
 | 0=>⟨hr,h⟩
 | _+1=>⟨fun _=>h,by rw[hr];simp⟩
theorem region_N {id:Nat} {a:Act} {w:World} (S:World→Prop) (kill:List Nat) (hm:P.follows .mixedOrders=true) (hS:S w.drew) (h:S w.drew→anyN F n P .any ops Q S kill ops.size (Array.replicate ops.size false) a w.drew):(Code.region id ops true).wpIn F n P Q a w :=
 wpIn_region_any hm (anyN_sound _ _ _ _ (h hS))
end
end Go.Proofs.YtnjlkhhcfiedbaaGreatDoor
namespace Go.Proofs.YtnjlkhhcfiedbaaGreatDoor
open Go.RowKit
section
variable {P:Program} {ops:Array Oper} {Q:Exit→Act→World→Prop} {md:Region.Mode} {S:World→Prop} {kill:List Nat}
def anyP (P:Program) (md:Region.Mode) (ops:Array Oper) (Q:Exit→Act→World→Prop) (S:World→Prop) (kill:List Nat):Nat→Array Bool→Act→World→Prop
 | 0,l,a,w=>Region.ready md ops l=[]∧Q .normal a w
 | k+1,l,a,w=>(Region.ready md ops l=[]→Q .normal a w)∧∀ i ∈ Region.ready md ops l,wpOp P ops Q i (fun a' w'=>(i ∉ kill→S w→S w')∧anyP P md ops Q S kill k (l.setIfInBounds i true) a' w') a w
theorem anyP_sound:∀ (k:Nat) (l:Array Bool) (a:Act) (w:World),anyP P md ops Q S kill k l a w→wpAny P md ops Q k l a w
 | 0,_,_,_,h=>h
 | k+1,_,_,_,h=>⟨h.1,fun i hi=>wpOp_mono (fun a' w' h'=>anyP_sound k _ a' w' h'.2) (h.2 i hi)⟩
theorem anyP_first {T:World→Prop} {i f:Nat} {oi:Oper} {v:Value} (hi:ops[i]? = some oi) (hsel:∀ (j:Nat) (o:Oper) cs b,ops[j]? = some o→o.op ≠ .select cs b) (hQ:∀ c a w,Q (.panic c) (a.put oi.dst v) w→Q (.panic c) a w)
  (hT:(∀ w,T w)∨(T=S∧kill.all (fun j=>waits md ops i f j)=true)) :
  ∀ (k:Nat) (l:Array Bool) (a:Act) (w:World),(∀ j oj,ops[j]? = some oj→j ≠ i→l.getD j true=false→(∀ e ∈ oj.after,Region.binds md e=true→e.on ≠ i)→oi.apart ops oj=true)→Closed md ops l →
   i ∈ Region.ready md ops l→YieldsIf P ops T oi v a→T w→anyP P md ops Q S kill k (l.setIfInBounds i true) (a.put oi.dst v) w→anyP P md ops Q S kill (k+1) l a w:=by
 intro k
 induction k with
 | zero =>
  intro l a w _ _ hr hy hS H
  refine⟨fun h=>absurd hr (by rw[h];simp),fun j hj=>?_⟩
  by_cases hji:j=i
  ·subst hji
   exact hy.wpOp hi hS ⟨fun _ h=>h,H⟩
  ·exact absurd (ready_mono hj hji) (by rw[H.1];simp)
 | succ k ih =>
  intro l a w hf hcl hr hy hS H
  refine⟨fun h=>absurd hr (by rw[h];simp),fun j hj=>?_⟩
  by_cases hji:j=i
  ·subst hji
   exact hy.wpOp hi hS ⟨fun _ h=>h,H⟩
  ·obtain⟨hun,oj,hoj,hal⟩:=mem_ready.1 hj
   have hi0:l.getD i false=false:=by
    have g0:=(mem_ready.1 hr).1
    by_cases hl:i<l.size
    ·simp[hl] at g0 ⊢;exact g0
    ·simp[Array.getElem?_eq_none (Nat.le_of_not_lt hl)] at g0
   have hno:∀ e ∈ oj.after,Region.binds md e=true→e.on ≠ i:=fun e he hb heq=>by
    have g1:=hal e he hb
    rw[heq,hi0] at g1
    cases g1
   have hTw:∀ w',(j ∉ kill→S w→S w')→T w':=fun w' h=>by
    rcases hT with h1 | ⟨rfl,h2⟩
    ·exact h1 w'
    ·refine h (fun hk=>?_) hS
     exact (waits_not hcl hi0 f j (List.all_eq_true.1 h2 j hk)).2 hj
   have h2:=wpOp_putIf hoj (hf j oj hoj hji hun hno) (fun cs b=>hsel i oi cs b hi) (fun cs b=>hsel j oj cs b hoj) hQ hy (H.2 j (ready_mono hj hji))
   refine wpOp_mono (fun a' w' h3=>⟨h3.2.1,ih (l.setIfInBounds j true) a' w' (fun m om hm hmi hmu hmn=>hf m om hm hmi ?_ hmn) (hcl.step hj) (ready_mono hr (Ne.symm hji)) h3.1 (hTw _ h3.2.1) ?_⟩) h2
   ·by_cases hjm:j=m
    ·subst hjm;exact hun
    ·rwa [getD_set_ne true hjm] at hmu
   ·rw[Array.setIfInBounds_comm _ _ hji]
    exact h3.2.2
theorem anyP_take {i:Nat} {oi:Oper} {v:Value} {k:Nat} {l:Array Bool} {a:Act} {w:World} (hi:ops[i]? = some oi) (hs:Region.noSelect ops=true) (hf:Region.free md ops l i=true) (hr:(Region.ready md ops l).contains i=true) (hc:closedB md ops l=true)
  (hk:kill.all (fun j=>waits md ops i 30 j)=true)
  (hQ:∀ c a w,Q (.panic c) (a.put oi.dst v) w→Q (.panic c) a w) (hy:YieldsIf P ops S oi v a) (hS:S w) (h:anyP P md ops Q S kill k (l.setIfInBounds i true) (a.put oi.dst v) w):anyP P md ops Q S kill (k+1) l a w :=
 anyP_first (T:=S) (f:=30) hi (Region.noSelect_spec hs) hQ (.inr ⟨rfl,hk⟩) k l a w (Region.free_spec hi hf) (closed_of hc) (by simpa using hr) hy hS h
theorem WTP {i:Nat} {oi:Oper} {v:Value} {k:Nat} {l:Array Bool} {a:Act} {w:World} (hy:∀ w,S w→(execOp a.eval oi).run P w=.ok (.value v) w) (hS:S w) (h:anyP P md ops Q S kill k (l.setIfInBounds i true) (a.put oi.dst v) w) (hi:ops[i]? = some oi:=by rfl) (hs:Region.noSelect ops=true:=by kernel_rfl) (hf:Region.free md ops l i=true:=by kernel_rfl) (hr:(Region.ready md ops l).contains i=true:=by kernel_rfl) (hc:closedB md ops l=true:=by kernel_rfl)
  (hk:kill.all (fun j=>waits md ops i 30 j)=true:=by kernel_rfl) (hQ:∀ c a w,Q (.panic c) (a.put oi.dst v) w→Q (.panic c) a w:=by exact fun _ _ _ h=>h) (hw:Region.wanted oi (yielded ops a.tmps)=true:=by rfl):anyP P md ops Q S kill (k+1) l a w :=
 anyP_take hi hs hf hr hc hk hQ (.inl ⟨hw,hy⟩) hS h
theorem anyP_pure {i:Nat} {oi:Oper} {v:Value} {k:Nat} {l:Array Bool} {a:Act} {w:World} (hi:ops[i]? = some oi) (hs:Region.noSelect ops=true) (hf:Region.free md ops l i=true) (hr:(Region.ready md ops l).contains i=true) (hc:closedB md ops l=true)
  (hQ:∀ c a w,Q (.panic c) (a.put oi.dst v) w→Q (.panic c) a w) (hy:YieldsIf P ops (fun _=>True) oi v a) (h:anyP P md ops Q S kill k (l.setIfInBounds i true) (a.put oi.dst v) w):anyP P md ops Q S kill (k+1) l a w :=
 anyP_first (T:=fun _=>True) (f:=30) hi (Region.noSelect_spec hs) hQ (.inl fun _=>trivial) k l a w (Region.free_spec hi hf) (closed_of hc) (by simpa using hr) hy trivial h
def AllP (P:Program) (md:Region.Mode) (ops:Array Oper) (Q:Exit→Act→World→Prop) (S:World→Prop) (kill:List Nat) (k:Nat) (l:Array Bool) (a:Act) (w:World) (rs:List Nat):Prop :=
 ∀ i ∈ rs,wpOp P ops Q i (fun a' w'=>(i ∉ kill→S w→S w')∧anyP P md ops Q S kill k (l.setIfInBounds i true) a' w') a w
theorem AllP.nil {k:Nat} {l:Array Bool} {a:Act} {w:World}:AllP P md ops Q S kill k l a w []:=fun _ h=>by cases h
theorem AllP.cons {k:Nat} {l:Array Bool} {a:Act} {w:World} {i:Nat} {o:Oper} {rs:List Nat} (ho:ops[i]? = some o)
  (h:∀ K':Act→World→Prop,Shut (∀ a w',(i ∉ kill→S w→S w')→anyP P md ops Q S kill k (l.setIfInBounds i true) a w'→K' a w')→if Region.wanted o (yielded ops a.tmps)=true then Oper.wp P o a w K' Q else K' (a.put o.dst undef) w)
  (hs:AllP P md ops Q S kill k l a w rs):AllP P md ops Q S kill k l a w (i :: rs):=fun j hj=>by
 rcases List.mem_cons.1 hj with rfl | hj
 ·exact wpOp_step ho (fun K' hK=>h K' (fun a w hS hW=>hK a w ⟨hS,hW⟩))
 ·exact hs j hj
theorem anyP_ready {rs:List Nat} {k:Nat} {l:Array Bool} {a:Act} {w:World} (hr:Region.ready md ops l=rs) (hne:rs ≠ []) (h:AllP P md ops Q S kill k l a w rs):anyP P md ops Q S kill (k+1) l a w :=
 ⟨fun h0=>absurd (hr ▸ h0) hne,hr ▸ h⟩
theorem anyP_done {l:Array Bool} {a:Act} {w:World} (hr:Region.ready md ops l=[]) (h:Q .normal a w):∀ k,anyP P md ops Q S kill k l a w
 | 0=>⟨hr,h⟩
 | _+1=>⟨fun _=>h,by rw[hr];simp⟩
theorem region_P {id:Nat} {a:Act} {w:World} (S:World→Prop) (kill:List Nat) (hm:P.follows .mixedOrders=true) (hS:S w.drew) (h:S w.drew→anyP P .any ops Q S kill ops.size (Array.replicate ops.size false) a w.drew):(Code.region id ops true).wp P Q a w :=
 wp_region_any hm (anyP_sound _ _ _ _ (h hS))
end
end Go.Proofs.YtnjlkhhcfiedbaaGreatDoor

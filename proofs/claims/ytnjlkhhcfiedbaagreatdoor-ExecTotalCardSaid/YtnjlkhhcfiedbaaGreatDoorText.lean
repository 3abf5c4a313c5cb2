import Derived.Lib.AppendStr
import Derived.IntWalk
import Derived.Test.YtnjlkhhcfiedbaaGreatDoorColl
import Derived.Test.YtnjlkhhcfiedbaaGreatDoorHsh5
import Derived.Test.YtnjlkhhcfiedbaaGreatDoorCelf
namespace Go.Proofs.YtnjlkhhcfiedbaaGreatDoor
open Go.RowKit
attribute [local go_sem] Oper.semAt_some
def digB (v:Int):List Int:=if v<10 then [48+v] else [49,38+v]
def strD (v:Int):ByteArray:=strOf (digB v)
theorem sixteen {v:Int} (h0:0≤v) (h1:v≤15):v=0∨v=1∨v=2∨v=3∨v=4∨v=5∨v=6∨v=7∨v=8∨v=9∨v=10∨v=11∨v=12∨v=13∨v=14∨v=15:=by omega
set_option maxRecDepth 100000 in
set_option maxHeartbeats 1000000 in
theorem small_any (v:Int) (w:World) (h0:0≤v) (h1:v≤15) :
  Calls Tryz.prog 177 #[.int .i64 v] w fun e w'=>e=.returned (.string (strD v))∧w=w':=by
 rcases sixteen h0 h1 with rfl | rfl | rfl | rfl | rfl | rfl | rfl | rfl | rfl | rfl | rfl | rfl | rfl | rfl | rfl | rfl
 all_goals
  go_enter Tryz.func177,Tryz.ntmps177
  go_wp2
  go_ret
  refine⟨?_,rfl⟩
  kernel_rfl
theorem append_str {wr:World} {B:Nat} {v:Value} {xs ys:List Int} (h:wr.ownsRow B 5 1 v xs.length (bytesV xs)) (hy:∀ y ∈ ys,0≤y∧y≤255) (hn:xs.length+ys.length≤1000000) (hB:B≤wr.heap.size) :
  ∃ v' w',(Builtin.append_ #[143,9] 143 #[v,.string (strOf ys)]).run Tryz.prog wr=.ok v' w'∧w'.ownsRow B 5 1 v' (xs ++ ys).length (bytesV (xs ++ ys))∧Below B wr w':=by
 obtain⟨i0,hi,hz0,hz1,hz2⟩:=info_parts infoByte
 have hs:(strOf ys).size=ys.length:=by simp[strOf,ByteArray.size]
 have hc:Lib.strCells (strOf ys)=bytesV ys:=by
  unfold Lib.strCells strOf bytesV
  simp only[List.map_map]
  refine List.map_congr_left fun y hy'=>?_
  obtain⟨h0,h1⟩:=hy y hy'
  simp
  omega
 obtain⟨v',w',hrun,ho,hg,-⟩:=Lib.run_append_own_string (P:=Tryz.prog) (w:=wr) B 143 9 143 5 i0 Tryz.underlying143 Tryz.underlying9 hi hz0 hz1 hz2 v xs.length (bytesV xs) h (strOf ys) (by rw[hs];simp[maxLen];omega) (by rw[hs];omega) hB
 refine⟨v',w',hrun,?_,(Below.refl _ _).grown hg hB fun j e=>(h.lt j e).1⟩
 rw[hs,hc] at ho
 rw[List.length_append]
 simpa [bytesV] using ho
theorem wpList_append_eq2 {P:Program} {ops:Array Oper} {rest:List Oper} {o:Oper} {a:Act} {w:World} {Q:Exit→Act→World→Prop} (hgd:o.guard=none) (s x:Operand) (t u:TypeId)
  (ho:o.op=.call { callee:=.builtin .append,args:=#[s,x],argTypes:=#[t,u] }) (v y v':Value) (w':World) (hs:a.eval s=v) (hx:a.eval x=y)
  (hrun:(Builtin.append_ #[t,u] o.type #[v,y]).run P w=.ok v' w') (h:wpList P ops Q rest (a.put o.dst v') w'):wpList P ops Q (o :: rest) a w :=
 wpList_plain hgd fun _ hK=>by
  unfold Oper.wp execOp
  simp only[ho,resolve,invoke,builtin,Sem.run_bind,Sem.run_pure,Result.andThen_ok,List.map_toArray,List.map_cons,List.map_nil,hs,hx,hrun]
  exact hK _ _ h
theorem digB_in {v:Int} (h0:0≤v) (h1:v≤15):∀ y ∈ digB v,0≤y∧y≤255:=by
 intro y hy
 unfold digB at hy
 split at hy
 ·simp at hy;omega
 ·simp at hy;omega
theorem digB_len (v:Int):(digB v).length≤2:=by unfold digB;split <;> simp
set_option maxRecDepth 100000 in
set_option maxHeartbeats 1000000 in
theorem appU_any (B n c:Nat) (A:Option Addr) (xs:List Int) (v:Int) (w:World) (ho:w.ownsRow B 5 1 (.slice A n c) n (bytesV xs)) (hnx:n=xs.length) (hB:B≤w.heap.size) (h0:0≤v) (h1:v≤15) (hn:n≤900000) :
  Calls Tryz.prog 160 #[.slice A n c,.int .u64 v,.int .i64 10] w fun e w'=>∃ A' n' c',e=.returned (.slice A' n' c')∧n'=(xs ++ digB v).length∧w'.ownsRow B 5 1 (.slice A' n' c') n' (bytesV (xs ++ digB v))∧Below B w w':=by
 have hdl:=digB_len v
 obtain⟨v',w',hrun,ho',hb'⟩:=append_str (hnx ▸ ho) (digB_in h0 h1) (by omega) hB
 obtain⟨P',c',e',-⟩:=own_form ho'
 obtain⟨n',hn'⟩:∃ z,z=(xs ++ digB v).length:=⟨_,rfl⟩
 rw[← hn'] at e' ho'
 rw[← hnx] at hrun
 subst e'
 have Hrun:=Lib.hid hrun
 have HO:=Lib.hid ho'
 have Hb:=Lib.hid hb'
 have HN:=Lib.hid hn'
 have d1:decide (v<100)=true:=decide_eq_true (by omega)
 have v1:v<100:=by omega
 clear hrun ho' hb' ho hdl hn' hnx
 go_enter Tryz.func160,Tryz.ntmps160
 go_wp2_with fail
 refine (small_any v w h0 h1).mono ?_
 rintro e w2 ⟨rfl,rfl⟩
 unfold strD
 go_wp2_with (at_builtin;have _t:=Hrun;refine wpList_append_eq2 rfl (.tmp 13) (.tmp 16) 143 9 rfl _ _ _ _ rfl rfl Hrun.out ?_;clear _t Hrun)
 go_ret
 exact⟨_,_,_,rfl,HN.out,HO.out,Hb.out⟩
set_option maxRecDepth 100000 in
set_option maxHeartbeats 1000000 in
theorem appI_any (B n c:Nat) (A:Option Addr) (xs:List Int) (v:Int) (w:World) (ho:w.ownsRow B 5 1 (.slice A n c) n (bytesV xs)) (hnx:n=xs.length) (hB:B≤w.heap.size) (h0:0≤v) (h1:v≤15) (hn:n≤900000) :
  Calls Tryz.prog 138 #[.slice A n c,.int .i64 v,.int .i64 10] w fun e w'=>∃ A' n' c',e=.returned (.slice A' n' c')∧n'=(xs ++ digB v).length∧w'.ownsRow B 5 1 (.slice A' n' c') n' (bytesV (xs ++ digB v))∧Below B w w':=by
 have HU:=Lib.hid (appU_any B n c A xs v w ho hnx hB h0 h1 hn)
 have d1:decide (v<0)=false:=decide_eq_false (by omega)
 have v1:¬ v<0:=by omega
 clear ho hnx
 go_enter Tryz.func138,Tryz.ntmps138
 go_wp2_with fail
 refine HU.out.mono ?_
 rintro e w2 ⟨A1,n1,c1,rfl,hn1,hor,hbr⟩
 have HO:=Lib.hid hor
 have HB:=Lib.hid hbr
 have HN:=Lib.hid hn1
 clear hor hbr hn1
 go_wp2
 go_ret
 exact⟨_,_,_,rfl,HN.out,HO.out,HB.out⟩
set_option maxRecDepth 100000 in
set_option maxHeartbeats 1000000 in
theorem appP_any (B n c:Nat) (A:Option Addr) (xs:List Int) (v:Int) (w:World) (ho:w.ownsRow B 5 1 (.slice A n c) n (bytesV xs)) (hnx:n=xs.length) (hB:B≤w.heap.size) (h0:0≤v) (h1:v≤15) (hn:n≤900000) :
  Calls Tryz.prog 111 #[.slice A n c,.int .i64 v,.int .i64 10] w fun e w'=>∃ A' n' c',e=.returned (.slice A' n' c')∧n'=(xs ++ digB v).length∧w'.ownsRow B 5 1 (.slice A' n' c') n' (bytesV (xs ++ digB v))∧Below B w w':=by
 have HU:=Lib.hid (appI_any B n c A xs v w ho hnx hB h0 h1 hn)
 clear ho hnx
 go_enter Tryz.func111,Tryz.ntmps111
 go_wp2_with fail
 refine HU.out.mono ?_
 rintro e w2 ⟨A1,n1,c1,rfl,hn1,hor,hbr⟩
 have HO:=Lib.hid hor
 have HB:=Lib.hid hbr
 have HN:=Lib.hid hn1
 clear hor hbr hn1
 go_wp2
 go_ret
 exact⟨_,_,_,rfl,HN.out,HO.out,HB.out⟩
def textI (key:List Int):List Int:=key.flatMap fun v=>digB v ++ [32]
theorem textI_take {key:List Int} {j:Nat} {v:Int} (h:key[j]? = some v):textI (key.take (j+1))=textI (key.take j) ++ digB v ++ [32]:=by
 unfold textI
 rw[List.take_add_one,h,Option.toList_some,List.flatMap_append]
 simp
theorem textI_len:∀ key:List Int,(textI key).length≤3*key.length
 | []=>by simp[textI]
 | v :: k=>by
  have h1:=textI_len k
  have h2:=digB_len v
  unfold textI at h1 ⊢
  rw[List.flatMap_cons,List.length_append,List.length_append,List.length_cons,List.length_cons]
  simp only[List.length_nil]
  omega
theorem dig_dec:∀ a:Fin 16,((digB (a.val:Int) ++ [32]).map fun n:Int=>UInt8.ofNat n.toNat)=decT (a.val:Int):=by decide +kernel
theorem strOf_text {key:List Int} (h:∀ v ∈ key,0≤v∧v≤15):(strOf (textI key)).data.toList=textL key:=by
 unfold strOf
 simp only
 induction key with
 | nil=>rfl
 | cons v k ih =>
  have ih':=ih fun x hx=>h x (List.mem_cons_of_mem _ hx)
  obtain⟨h0,h1⟩:=h v List.mem_cons_self
  obtain⟨x,hx⟩:∃ x:Fin 16,(x.val:Int)=v:=⟨⟨v.toNat,by omega⟩,by simp;omega⟩
  subst hx
  unfold textI textL at ih' ⊢
  rw[List.flatMap_cons,List.map_append,List.flatMap_cons,dig_dec x]
  simpa using ih'
theorem own_u8b {w:World} {B:Nat} {v:Value} {xs:List Int} {n c:Nat} {P:Option Addr} (h:w.ownsRow B 5 1 v xs.length (bytesV xs)) (e:v=.slice P n c) (hk:∀ x ∈ xs,0≤x∧x≤255):Nums .u8 w P n xs:=by
 obtain⟨P',c',e',-,-,h2⟩:=own_form h
 rw[e] at e'
 injection e' with e1 e2 _
 subst e1 e2
 refine⟨rfl,fun x hx=>?_,fun hn=>?_⟩
 ·exact hk x hx
 ·obtain⟨g,rfl,-,h3⟩:=h2 hn
  exact⟨_,rfl,fun j x hx=>by rw[add0];exact h3 j _ (by simp[bytesV,hx])⟩
set_option maxRecDepth 100000 in
set_option maxHeartbeats 2000000 in
theorem text_any (P:Option Addr) (c K:Nat) (key:List Int) (w:World) (hx:Nums .i64 w P K key) (hok:∀ v ∈ key,0≤v∧v≤15) (hK:K≤1000) :
  Calls Tryz.prog 87 #[.slice P K c] w fun e w'=>e=.returned (.string (strOf (textI key)))∧Below w.heap.size w w':=by
 have HX:=Lib.hid hx
 have HO:=Lib.hid hok
 have hKL:key.length=K:=hx.1
 have HKL:=Lib.hid hKL
 clear hx hok hKL
 go_enter Tryz.func87,Tryz.ntmps87
 go_wp2_with fail
 go_loopw [3,8] (fun b i wr=>∃ j:Nat,i=.int .i64 j∧j≤K∧wr.ownsRow w.heap.size 5 1 b (textI (key.take j)).length (bytesV (textI (key.take j)))∧Below w.heap.size w wr) (fun _ i _=>K - (intOf i).toNat)
 case atStart=>exact⟨0,rfl,Nat.zero_le _,by rw[List.take_zero];exact World.ownsRow_nil _ _ _ _,Below.refl _ _⟩
 case round =>
  obtain⟨j,rfl,hj,ho,hb⟩:=hrel
  rename World=>wr
  have hl3:=textI_len (key.take j)
  rw[List.length_take] at hl3
  by_cases hlt:j<K
  ·have i0:(0:Int)≤(j:Int):=by omega
   have i1:(j:Int)<(K:Int):=by omega
   have d1:decide ((j:Int)<(K:Int))=true:=decide_eq_true i1
   obtain⟨ad,v,rfl,hv,-,hcv⟩:=(HX.out.keep (Keeps.of_below hb)).at_ hlt
   obtain⟨v0,v15⟩:=HO.out v (List.mem_of_getElem? hv)
   have HT:=Lib.hid (textI_take hv)
   obtain⟨Pb,cb,eb,-⟩:=own_form ho
   obtain⟨xs,hxs⟩:∃ xs,xs=textI (key.take j):=⟨_,rfl⟩
   rw[← hxs] at HT eb hl3 ho
   obtain⟨nb,hnb⟩:∃ z,z=xs.length:=⟨_,rfl⟩
   rw[← hnb] at eb ho hl3
   subst eb
   have HA:=Lib.hid (appP_any w.heap.size nb cb Pb xs v wr ho hnb hb.size v0 v15 (by omega))
   have Hb:=Lib.hid hb
   have HNB:=Lib.hid hnb
   have hl4:nb≤3000:=by omega
   clear ho hb hv hxs hl3 hnb
   go_wp2_with fail
   refine HA.out.mono ?_
   rintro e w2 ⟨A2,n2,c2,rfl,hn2,ho2,hb2⟩
   have hd:=digB_len v
   have hn2':n2≤4000:=by rw[hn2,List.length_append,← HNB.out];omega
   obtain⟨v3,w3,hrun,ho3,hb3⟩:=append_byte w2 w.heap.size _ (xs ++ digB v) 32 w2.heap.size rfl (hn2 ▸ ho2) (by rw[← hn2];omega) (Nat.le_trans Hb.out.size hb2.size)
   rw[← hn2] at hrun
   rw[← HT.out] at ho3
   obtain⟨P3,c3,e3,-⟩:=own_form ho3
   obtain⟨n3,hn3⟩:∃ z,z=(textI (key.take (j+1))).length:=⟨_,rfl⟩
   rw[← hn3] at e3
   subst e3
   have HO3:=Lib.hid ho3
   have HB3:=Lib.hid (Hb.out.trans (hb2.trans hb3))
   have Hrun:=Lib.hid hrun
   clear ho2 hb2 hd hrun ho3 hb3 HA hn2 hn3
   go_wp2_with (at_builtin;have _t:=Hrun;refine wpList_append_eq rfl (.tmp 14) (.tmp 15) 143 rfl _ _ _ _ rfl rfl Hrun.out ?_;clear _t Hrun)
   go_roundw
   case rel=>exact⟨j+1,by go_num,by omega,HO3.out,HB3.out⟩
   case measure=>simp[intOf];omega
  ·obtain rfl:j=K:=by omega
   have d1:decide ((j:Int)<(j:Int))=false:=by simp
   have ht:key.take j=key:=List.take_of_length_le (by rw[HKL.out];exact Nat.le_refl _)
   rw[ht] at ho
   have hI:∀ y ∈ textI key,0≤y∧y≤255:=by
    intro y hy
    unfold textI at hy
    obtain⟨v,hv,h2⟩:=List.mem_flatMap.1 hy
    rcases List.mem_append.1 h2 with h | h
    ·exact digB_in (HO.out v hv).1 (HO.out v hv).2 y h
    ·simp at h;omega
   obtain⟨A,n,c',rfl,hN⟩:∃ A n c',_=Value.slice A n c'∧Nums .u8 wr A n (textI key):=by
    obtain⟨A,c',e,h1,h2,h3⟩:=own_form ho
    refine⟨A,_,c',e,?_⟩
    exact own_u8b ho e hI
   have hcv:(convert 143 9 (.slice A n c')).run Tryz.prog wr=.ok (.string (strOf (textI key))) wr:=conv_str _ _ _ Tryz.underlying143 Tryz.underlying5 Tryz.underlying9 _ _ _ _ _ hN
   have Hb:=Lib.hid hb
   clear ho ht hI hN hb
   go_wp2
   go_ret
   exact⟨rfl,Hb.out⟩
end Go.Proofs.YtnjlkhhcfiedbaaGreatDoor

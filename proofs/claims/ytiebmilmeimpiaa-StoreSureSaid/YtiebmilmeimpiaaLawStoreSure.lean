/- The walk of the law StoreSure: the Go text returns true, and writes nothing that was there. -/
import Derived.Test.YtiebmilmeimpiaaLw4
import Derived.Test.YtiebmilmeimpiaaSure
namespace Go.Proofs.Ytiebmilmeimpiaa
open Go.RowKit
theorem slice_to (a : Option Addr) (m c n : Nat) (hn : n ≤ c) (h0 : a = none → m = 0 ∧ c = 0) (W : World) : (Instr.slice 23 (.slice a m c) none (some (.int .i64 (n : Int))) none).run Try.prog W = .ok (.slice a n c) W := by
  cases a with
  | some ad => exact slice0n Try.underlying23 1 Try.sizeOf5 ad m c n hn W
  | none =>
    obtain ⟨rfl, rfl⟩ := h0 rfl
    obtain rfl : n = 0 := by omega
    kernel_rfl
theorem own_at {w : World} {B s n c : Nat} {P : Option Addr} {e : TypeId} {xs : List Value} (h : w.ownsRow B e s (.slice P n c) n xs) (hn : 0 < n) : ∃ g, P = some ⟨g, 0, none⟩ ∧ ∀ j u, xs[j]? = some u → w.cell? ⟨g, j, none⟩ = some u := by
  obtain ⟨P', c', ev, _, _, hc⟩ := own_form h
  injection ev with e1 _ _
  subst e1
  obtain ⟨g, e, _, hc⟩ := hc hn
  exact ⟨g, e, hc⟩
def strs (sl : List Nm) : List Value := sl.map fun n => .string (str n)
theorem infoStr : (Try.prog.info? 9).map (fun i => (i.zero, i.size, i.bytes)) = some (some (.string ⟨#[]⟩), 1, 16) := by kernel_rfl
/-- The store, and the list of names beside it. -/
structure Inv (w wr : World) (p : Nat) (σ : St) (c : Nat) (sl : List Nm) (P : Option Addr) (cc : Nat) : Prop where
  ex : ∃ M A, StoreAt wr p σ c M A ∧ (∀ j, M j → w.heap.size ≤ j) ∧ (∀ j, (Value.slice P sl.length cc).ownBlock = some j → ¬ M j ∧ ¬ A j)
  row : wr.ownsRow w.heap.size 9 1 (.slice P sl.length cc) sl.length (strs sl)
  bel : Below w.heap.size w wr
section
variable {w wr w' : World} {p c cc : Nat} {σ σ' : St} {sl : List Nm} {P : Option Addr}
theorem Inv.ok (h : Inv w wr p σ c sl P cc) : σ.ok c := by obtain ⟨M, A, h1, _⟩ := h.ex; exact h1.ok
theorem Inv.more {c' : Nat} (h : Inv w wr p σ c sl P cc) (hc : c ≤ c') : Inv w wr p σ c' sl P cc := by
  obtain ⟨M, A, h1, h2, h3⟩ := h.ex
  exact ⟨⟨M, A, h1.mono (fun _ h => h) (fun _ h => h) h1.ml h1.al hc, h2, h3⟩, h.row, h.bel⟩
theorem Inv.below (h : Inv w wr p σ c sl P cc) (hb : Below wr.heap.size wr w') : Inv w w' p σ c sl P cc := by
  obtain ⟨M, A, h1, h2, h3⟩ := h.ex
  exact ⟨⟨M, A, h1.below hb, h2, h3⟩, own_bel h.row hb, h.bel.trans (hb.mono h.bel.size)⟩
theorem Inv.alloc (h : Inv w wr p σ c sl P cc) (o : Obj) : Inv w (wr.alloc o) p σ c sl P cc := h.below ((Below.refl _ _).alloc (Nat.le_refl _) o)
theorem Inv.post {c' : Nat} {v : Value} {e : Ending} {M A : Nat → Prop} (h : Inv w wr p σ c sl P cc) (h2 : ∀ j, M j → w.heap.size ≤ j) (h3 : ∀ j, (Value.slice P sl.length cc).ownBlock = some j → ¬ M j ∧ ¬ A j) (hp : OpPost p σ' c' M A v wr e w') :
    e = .returned v ∧ Inv w w' p σ' c' sl P cc := by
  obtain ⟨rfl, h4, h5⟩ := hp
  refine ⟨rfl, ⟨⟨_, _, h4, fun k hk => ?_, fun j hj => ⟨fun hk => ?_, fun hk => ?_⟩⟩, ?_, h.bel.trans (h5.below h2 h.bel.size)⟩⟩
  · rcases hk with hk | hk
    · exact h2 k hk
    · have := h.bel.size; omega
  · rcases hk with hk | hk
    · exact (h3 j hj).1 hk
    · have := (h.row.lt j hj).2; omega
  · rcases hk with hk | hk
    · exact (h3 j hj).2 hk
    · have := (h.row.lt j hj).2; omega
  · exact own_stay h.row fun k hk => h5.block k (h.row.lt k hk).2 (h3 k hk).1
theorem Inv.write (h : Inv w wr p σ c sl P cc) (n : Nm) (Pb : Option Addr) (m cap : Nat) (xs : List Int) (r : Int) (hn : n.length ≤ 1000000) (hc : c ≤ 999999) (hx : Nums .u8 wr Pb m xs) (hm : m ≤ 1000) (hmc : m ≤ cap) (hcap : cap ≤ 9223372036854775807) (e : σ.write n xs = (r, σ')) :
    Calls Try.prog 24 #[.pointer (some ⟨p, 0, none⟩), .string (str n), .slice Pb m cap] wr fun e w' => e = .returned (.int .i64 r) ∧ Inv w w' p σ' (c + 1) sl P cc := by
  obtain ⟨M, A, h1, h2, h3⟩ := h.ex
  have := sWrite_any n Pb m cap xs h1 hn hc hx hm hmc (by simpa [maxLen] using hcap)
  rw [e] at this
  exact this.mono fun _ _ hp => h.post h2 h3 hp
theorem Inv.sync (h : Inv w wr p σ c sl P cc) (n : Nm) (r : Int) (hn : n.length ≤ 1000000) (hc : c ≤ 999999) (e : σ.sync n = (r, σ')) :
    Calls Try.prog 22 #[.pointer (some ⟨p, 0, none⟩), .string (str n)] wr fun e w' => e = .returned (.int .i64 r) ∧ Inv w w' p σ' (c + 1) sl P cc := by
  obtain ⟨M, A, h1, h2, h3⟩ := h.ex
  have := sSync_any n h1 hn hc
  rw [e] at this
  exact this.mono fun _ _ hp => h.post h2 h3 hp
theorem Inv.app (h : Inv w wr p σ c sl P cc) (n : Nm) (hl : sl.length ≤ 1000) : ∃ P' cc' w', (Builtin.append_ #[43, 43] 43 #[.slice P sl.length cc, .slice (some ⟨wr.heap.size, 0, none⟩) 1 1]).run Try.prog (wr.alloc (.cells #[.string (str n)] 9)) = .ok (.slice P' (sl ++ [n]).length cc') w' ∧ Inv w w' p σ c (sl ++ [n]) P' cc' := by
  obtain ⟨M, A, h1, h2, h3⟩ := h.ex
  obtain ⟨i0, hi0, hz0, hz1, hz2⟩ := info_parts infoStr
  have hba := (Below.refl wr.heap.size wr).alloc (Nat.le_refl _) (.cells #[.string (str n)] 9)
  have hra := own_bel h.row hba
  obtain ⟨v', w', hrun, ho', hgr, _, hat⟩ := run_append_own_at (P := Try.prog) (wr.alloc (.cells #[.string (str n)] 9)) w.heap.size 43 43 9 i0 _ 1 16 Try.underlying43 hi0 hz0 hz1 hz2 rfl (by omega) (.slice P sl.length cc) sl.length _ hra
    ⟨wr.heap.size, 0, none⟩ 1 1 [.string (str n)] rfl (fun j u hu => by
      rw [add0, show (wr.alloc (.cells #[.string (str n)] 9)).cell? ⟨wr.heap.size, j, none⟩ = #[.string (str n)][j]? from cell_of_row _ _ _ _ 9 (0, 0) (heap_alloc_new wr _)]
      simpa using hu) (by intro u hu; simp at hu; subst hu; rfl) (by simp [maxLen]; omega) (by omega) (by have := h.bel.size; simp; omega)
  have ho2 : w'.ownsRow w.heap.size 9 1 v' (sl ++ [n]).length (strs (sl ++ [n])) := by
    rw [show strs (sl ++ [n]) = strs sl ++ [.string (str n)] from by simp [strs], List.length_append]
    exact ho'
  obtain ⟨P', c', hv, _⟩ := own_form ho2
  subst hv
  have hz : wr.heap.size ≤ (wr.alloc (.cells #[.string (str n)] 9)).heap.size := hba.size
  have ht : Tch (fun k => (Value.slice P sl.length cc).ownBlock = some k) (wr.alloc (.cells #[.string (str n)] 9)) w' := Tch.of_grown hgr fun k hk => hk
  refine ⟨P', c', w', hrun, ⟨⟨M, A, (h1.below hba).tch ht h3, h2, fun j hj => ?_⟩, ho2, ?_⟩⟩
  · rcases hat with e | e
    · exact h3 j (by rw [← e]; exact hj)
    · rw [e] at hj
      injection hj with hj
      exact ⟨fun hm => by have := h1.ml j hm; omega, fun hm => by have := h1.al j hm; omega⟩
  · exact (h.bel.trans (hba.mono h.bel.size)).trans (ht.below (fun k hk => (hra.lt k hk).1) (by have := h.bel.size; omega))
theorem StoreAt.rd {M A : Nat → Prop} (h : StoreAt w p σ c M A) (n : Nm) (hn : n.length ≤ 1000000) (f : SF) (e2 : fnd σ.fs n = some f) :
    Calls Try.prog 20 #[.pointer (some ⟨p, 0, none⟩), .string (str n)] w fun e w' => ∃ P cp, e = .returned (.tuple #[.slice P f.b.length cp, .bool true]) ∧ w'.ownsRow w.heap.size 5 1 (.slice P f.b.length cp) f.b.length (byts f.b) ∧ Below w.heap.size w w' := by
  have := sRead_any n h hn
  rw [e2] at this
  refine this.mono ?_
  rintro e w' ⟨v, he, ho, hb⟩
  obtain ⟨P, cp, rfl, h2, _, _⟩ := own_form ho
  exact ⟨P, cp, he, ho, hb⟩
end
set_option maxRecDepth 100000 in
set_option maxHeartbeats 8000000 in
theorem storeSure_walk (a0 : Option Addr) (len0 cap0 : Nat) (z0 : List Int) (a1 : Option Addr) (len1 cap1 : Nat) (z1 : List Int) (a2 : Option Addr) (len2 cap2 : Nat) (z2 : List Int) (w : World) (w0 : IsRow .i64 w a0 len0 cap0 z0) (w1 : IsRow .u8 w a1 len1 cap1 z1) (w2 : IsRow .i64 w a2 len2 cap2 z2) :
    Calls Try.prog 5 #[.slice a0 len0 cap0, .slice a1 len1 cap1, .slice a2 len2 cap2] w fun e w' => e = .returned (.bool true) ∧ Below w.heap.size w w' := by
  have hnil : a1 = none → len1 = 0 ∧ cap1 = 0 := fun e => by
    rcases w1 with ⟨_, h1, h2, _⟩ | ⟨x, h, _⟩
    · exact ⟨h1, h2⟩
    · rw [e] at h; cases h
  have Hnil := Lib.hid hnil
  obtain ⟨hx, hlc, hcap⟩ := w0.nums
  obtain ⟨hy, hmc, hmap⟩ := w1.bytes
  obtain ⟨hk, hkc, hkap⟩ := w2.nums
  generalize z0.take len0 = xs at hx
  generalize z1.take len1 = ys at hy
  generalize z2.take len2 = ks at hk
  have hyl := hy.1
  have Hx := Lib.hid hx
  have Hy := Lib.hid hy
  have Hk := Lib.hid hk
  have Hkc := Lib.hid (show len2 ≤ cap2 ∧ cap2 ≤ 9223372036854775807 from ⟨hkc, hkap⟩)
  clear w0 w1 w2 hx hy hk hnil hkc hkap
  by_cases hbig : len1 ≤ 60 ∧ len2 ≤ 60
  case neg =>
    by_cases hb0 : len1 ≤ 60
    · have hb1 : ¬ len2 ≤ 60 := fun h => hbig ⟨hb0, h⟩
      clear hbig
      go_enter Try.func5, Try.ntmps5
      go_wp2_with fail
      refine (known4 w).mono ?_
      rintro e w1 ⟨rfl, hb1⟩
      have Hb1 := Lib.hid hb1
      clear hb1
      go_wp2
      go_ret
      exact ⟨rfl, Hb1.out⟩
    · clear hbig
      go_enter Try.func5, Try.ntmps5
      go_wp2_with fail
      refine (known4 w).mono ?_
      rintro e w1 ⟨rfl, hb1⟩
      have Hb1 := Lib.hid hb1
      clear hb1
      go_wp2
      go_ret
      exact ⟨rfl, Hb1.out⟩
  case pos =>
  obtain ⟨hb60, hk60⟩ := hbig
  go_enter Try.func5, Try.ntmps5
  go_wp2_with fail
  refine (known4 w).mono ?_
  rintro e w1 ⟨rfl, hb1⟩
  have Hb1 := Lib.hid hb1
  clear hb1
  go_wp2_with fail
  refine (sNew_any 1000 w1).mono ?_
  rintro e w2 ⟨rfl, hw2⟩
  have hs2 := StoreAt.new w1 1000 (by omega)
  rw [← hw2] at hs2
  have hI : Inv w w2 w1.heap.size (St.new 1000) 0 [] none 0 := ⟨⟨_, _, hs2, fun j hj => by subst hj; exact Hb1.out.size, fun j hj => by simp [Value.ownBlock] at hj⟩, World.ownsRow_nil _ _ _ _, Hb1.out.trans (hw2 ▸ (((Below.refl w1.heap.size w1).alloc (Nat.le_refl _) _).mono Hb1.out.size))⟩
  have HI := Lib.hid hI
  clear hw2 hs2 hI Hb1
  generalize w1.heap.size = p at HI ⊢
  go_wp2_with fail
  go_loopw [8, 9] (fun v i wr => ∃ (k : Nat) (σ : St) (sl : List Nm) (P : Option Addr) (cc : Nat), k ≤ len0 ∧ k ≤ 12 ∧ i = .int .i64 k ∧ v = .slice P sl.length cc ∧ Inv w wr p σ (2 * k) sl P cc ∧ GSu σ k sl) (fun _ i _ => len0 - (intOf i).toNat)
  case atStart => exact ⟨0, _, [], none, 0, by omega, by omega, rfl, rfl, HI.out, GSu.zero⟩
  case round =>
    obtain ⟨k, σ, sl, P, cc, hk, hk12, rfl, rfl, hI, hG⟩ := hrel
    rename World => wr
    clear HI
    have HI := Lib.hid hI
    have HG := Lib.hid hG
    clear hI hG
    by_cases hlt : k < len0
    · by_cases h12 : k < 12
      · obtain ⟨ad, x, rfl, hxk, ⟨hx1, hx2⟩, hxc⟩ := (Hx.out.tch HI.out.bel).at_ hlt
        clear hxk
        obtain ⟨r, hr⟩ : ∃ r : Nat, (r : Int) = x % ((len1 : Int) + 1) := by
          have := Int.emod_nonneg x (show (len1 : Int) + 1 ≠ 0 by omega)
          exact ⟨(x % ((len1 : Int) + 1)).toNat, by omega⟩
        have hrl : r ≤ len1 := by
          have := Int.emod_lt_of_pos x (show (0 : Int) < (len1 : Int) + 1 by omega)
          omega
        have hrc : r ≤ cap1 := by omega
        have Hr := Lib.hid hr
        clear hr
        have hcv : (convert 23 9 (.slice (some ⟨wr.heap.size, 0, none⟩) 1 1)).run Try.prog (wr.alloc (.cells #[.int .u8 (97 + (k : Int))] 5)) = .ok (.string (str (nm1 k))) (wr.alloc (.cells #[.int .u8 (97 + (k : Int))] 5)) := by
          have h := cv_str (c := 1) (nums_new wr [97 + (k : Int)] 5 (0, 0) (by simp; omega))
          rw [show strOf [97 + (k : Int)] = str (nm1 k) from by simp only [strOf, str, nm1, List.map_cons, List.map_nil]; rw [show (97 + (k : Int)).toNat = 97 + k from by omega]] at h
          exact h
        have hI3 := HI.out.alloc (.cells #[.int .u8 (97 + (k : Int))] 5)
        have hxc' : (wr.alloc (.cells #[.int .u8 (97 + (k : Int))] 5)).cell? (ad.add k) = some (.int .i64 x) := (Keeps.of_below ((Below.refl wr.heap.size wr).alloc (Nat.le_refl _) _)) _ _ hxc
        have ks := slice_to a1 len1 cap1 r hrc Hnil.out (wr.alloc (.cells #[.int .u8 (97 + (k : Int))] 5))
        have hy3 := (Hy.out.tch hI3.bel).take r hrl
        have HI3 := Lib.hid hI3
        have Hy3 := Lib.hid hy3
        clear hI3 hy3
        go_wp2_with fail
        refine (wi4 x ((len1 : Int) + 1) _ ⟨hx1, hx2⟩ (by omega) (by omega)).mono ?_
        rintro e w3 ⟨rfl, rfl⟩
        rw [← Hr.out]
        obtain ⟨σ1, hwr, hG1, hf1, hs1⟩ := HG.out.write (by omega) HI.out.ok.rising (ys.take r) (by rw [List.length_take]; omega)
        have HG1 := Lib.hid hG1
        have Hf1 := Lib.hid hf1
        have Hs1 := Lib.hid hs1
        have Hln := Lib.hid HG.out.len
        clear hG1 hf1 hs1 HG HI
        go_wp2_with fail
        refine (HI3.out.write (nm1 k) a1 r cap1 (ys.take r) 0 (by simp [nm1]) (by omega) Hy3.out (by omega) hrc hmap hwr).mono ?_
        rintro e w4 ⟨rfl, hI4⟩
        have hxc4 : w4.cell? (ad.add k) = some (.int .i64 x) := by
          obtain ⟨ad', x', e1, e2, _, e4⟩ := (Hx.out.tch hI4.bel).at_ hlt
          injection e1 with e1
          subst e1
          obtain ⟨ad', x'', e1, e2', _, e4'⟩ := (Hx.out.tch HI3.out.bel).at_ hlt
          injection e1 with e1
          subst e1
          rw [e2] at e2'
          injection e2' with e2'
          subst e2'
          rw [hxc'] at e4'
          injection e4' with e4'
          injection e4' with _ e4'
          rw [e4, e4']
        have HI4 := Lib.hid hI4
        clear hI4 HI3 Hy3 ks hcv hxc hxc' hwr
        go_wp2_with fail
        refine (wi4 x 2 _ ⟨hx1, hx2⟩ (by omega) (by omega)).mono ?_
        rintro e w3 ⟨rfl, rfl⟩
        by_cases h2 : x % 2 = 0
        · have hz : (x % 2 == 0) = true := by simpa using h2
          obtain ⟨σ2, hsy, hG2⟩ := HG1.out.sync (by omega) Hln.out HI4.out.ok.rising Hf1.out Hs1.out
          have HG2 := Lib.hid hG2
          clear hG2 HG1 Hf1 Hs1 h2
          go_wp2_with fail
          refine (HI4.out.sync (nm1 k) 0 (by simp [nm1]) (by omega) hsy).mono ?_
          rintro e w5 ⟨rfl, hI5⟩
          obtain ⟨P', cc', w6, hrun, hI6⟩ := hI5.app (nm1 k) (by have := Hln.out; omega)
          have HI6 := Lib.hid hI6
          have Hrun := Lib.hid hrun
          clear hI5 hI6 hrun hsy HI4 hxc4
          go_wp2_with (at_builtin; have _t := Hrun; refine wpList_append_eq rfl (.tmp 69) (.tmp 71) 43 rfl _ _ _ _ rfl rfl Hrun.out ?_; clear _t Hrun)
          exact ⟨⟨k + 1, σ2, _, P', cc', by omega, by omega, by go_num, by rw [List.length_append]; rfl, HI6.out, HG2.out⟩, by simp [intOf]; omega⟩
        · have hz : (x % 2 == 0) = false := by simpa using h2
          go_wp2
          exact ⟨⟨k + 1, σ1, sl, P, cc, by omega, by omega, by go_num, rfl, HI4.out.more (by omega), HG1.out⟩, by simp [intOf]; omega⟩
      · have Hk8 := Lib.hid (Hk.out.tch HI.out.bel)
        have hlen := HG.out.len
        have hrow := HI.out.row
        go_wp2_with fail
        obtain ⟨M, A, hst, hMl, hMv⟩ := HI.out.ex
        have hpost := sCrash_any a2 len2 cap2 ks hst (by omega) Hk8.out Hkc.out.1 (by omega)
        refine hpost.mono ?_
        clear hpost
        rintro e w7 ⟨rfl, ht7, hb7⟩
        have hs7 := hst.below hb7
        have hr7 := own_bel hrow hb7
        have hB7 := HI.out.bel.trans (hb7.mono HI.out.bel.size)
        have hrs := HI.out.ok.rising
        have hct := crash_len σ.fs ks []
        have hsl := sure_len sl (σ.crash ks).fs HG.out.nodup (St.ok_crash HI.out.ok ks).1.rising (fun n hn => by
          obtain ⟨f, hf, h2⟩ := HG.out.sure n hn
          exact ⟨_, crash_sure σ.fs ks [] n f hrs (fnd_mem hf) h2⟩)
        have hct2 : (σ.crash ks).fs.length ≤ σ.fs.length := by have := hct; simpa [St.crash] using this
        have hsu : ∀ n ∈ sl, ∃ f, fnd σ.fs n = some f ∧ fnd (σ.crash ks).fs n = some (sureF f.b) ∧ f.ok := fun n hn => by
          obtain ⟨f, hf, h2⟩ := HG.out.sure n hn
          exact ⟨f, hf, crash_sure σ.fs ks [] n f hrs (fnd_mem hf) h2, (HI.out.ok.fnd hf).1⟩
        have hops : (σ.crash ks).ops.length = 0 := rfl
        generalize (σ.crash ks) = σt at ht7 hsl hct2 hsu hops
        generalize wr.heap.size = q at ht7 ⊢
        generalize Grw (fun _ => False) wr w7 = Mt at ht7
        generalize Grw A wr w7 = At at ht7
        obtain ⟨N, eN⟩ : ∃ N, N = sl.length := ⟨_, rfl⟩
        rw [← eN] at hsl hr7 hlen ⊢
        have EN := Lib.hid eN
        have Hs7 := Lib.hid hs7
        have Ht7 := Lib.hid ht7
        have Hr7 := Lib.hid hr7
        have HB7 := Lib.hid hB7
        have Hsu := Lib.hid hsu
        have Hone := Lib.hid HG.out.one
        have Hops := Lib.hid hops
        clear hst hMl hMv hb7 hs7 ht7 hr7 hB7 hrs hct hsu hrow eN HI HG Hk8 hops
        go_wp2_with fail
        go_loopw [12] (fun i wx => ∃ (m : Nat), m ≤ N ∧ i = .int .i64 m ∧ Below w7.heap.size w7 wx) (fun i _ => N - (intOf i).toNat)
        case atStart => exact ⟨0, by omega, rfl, Below.refl _ _⟩
        case round =>
          obtain ⟨m, hm, rfl, hbx⟩ := hrel
          rename World => wx
          have Hbx := Lib.hid hbx
          clear hbx
          by_cases hmN : m < N
          · obtain ⟨n, hn⟩ : ∃ n, sl[m]? = some n := ⟨_, List.getElem?_eq_getElem (by have := EN.out; omega)⟩
            obtain ⟨f, hf1, hf2, hfk⟩ := Hsu.out n (List.mem_of_getElem? hn)
            have hn1 := Hone.out n (List.mem_of_getElem? hn)
            obtain ⟨g, rfl, hcs⟩ := own_at (own_bel Hr7.out Hbx.out) (by omega)
            have hc0 : wx.cell? ⟨g, m, none⟩ = some (.string (str n)) := hcs m _ (by simp [strs, hn])
            have i0 : (0 : Int) ≤ (m : Int) := by omega
            have i1 : (m : Int) < (N : Int) := by omega
            have Hf1 := Lib.hid hf1
            have Hf2 := Lib.hid hf2
            have Hfk := Lib.hid hfk
            clear hf1 hf2 hfk hn hcs
            go_wp2_with fail
            refine ((Hs7.out.below Hbx.out).rd n (by omega) f Hf1.out).mono ?_
            rintro e w8 ⟨P8, c8, rfl, hx8, hb8⟩
            have hc8 : w8.cell? ⟨g, m, none⟩ = some (.string (str n)) := (Keeps.of_below hb8) _ _ hc0
            have Hx8 := Lib.hid hx8
            have Hb8 := Lib.hid (Hbx.out.trans (hb8.mono Hbx.out.size))
            clear hx8 hb8 hc0 Hbx
            go_wp2_with fail
            refine ((Ht7.out.below Hb8.out).rd n (by omega) (sureF f.b) Hf2.out).mono ?_
            rintro e w9 ⟨P9, c9, rfl, hx9, hb9⟩
            have k1 : (convert 23 9 (.slice P8 f.b.length c8)).run Try.prog w9 = .ok (.string (strOf f.b)) w9 := cv_str (own_u8 (own_bel Hx8.out hb9) rfl Hfk.out.b.2)
            have k2 : (convert 23 9 (.slice P9 f.b.length c9)).run Try.prog w9 = .ok (.string (strOf f.b)) w9 := cv_str (own_u8 hx9 rfl Hfk.out.b.2)
            have Hb9 := Lib.hid (Hb8.out.trans (hb9.mono Hb8.out.size))
            rw [show (sureF f.b).b = f.b from rfl]
            clear hx9 hb9 hc8 Hx8 Hb8
            go_wp2
            exact ⟨⟨m + 1, by omega, by go_num, Hb9.out⟩, by simp [intOf]; omega⟩
          · obtain rfl : m = N := by omega
            have Htx := Lib.hid (Ht7.out.below Hbx.out)
            have Hsx := Lib.hid (Hs7.out.below Hbx.out)
            have HBx := Lib.hid (HB7.out.trans (Hbx.out.mono HB7.out.size))
            clear Ht7 Hs7 Hr7 HB7 Hbx Hsu Hone hmN hm
            go_wp2_with fail
            refine (sNames_any Htx.out (by omega)).mono ?_
            rintro e w8 ⟨v, rfl, hv, hb8⟩
            obtain ⟨P8, c8, rfl, _, _, _⟩ := own_form hv
            have Ht8 := Lib.hid (Htx.out.below hb8)
            have Hs8 := Lib.hid (Hsx.out.below hb8)
            have HB8 := Lib.hid (HBx.out.trans (hb8.mono HBx.out.size))
            clear hv hb8 Htx Hsx HBx
            go_wp2_with fail
            refine (sNames_any Ht8.out (by omega)).mono ?_
            rintro e w9 ⟨v, rfl, hv, hb9⟩
            obtain ⟨P9, c9, rfl, _, _, _⟩ := own_form hv
            have Ht9 := Lib.hid (Ht8.out.below hb9)
            have Hs9 := Lib.hid (Hs8.out.below hb9)
            have HB9 := Lib.hid (HB8.out.trans (hb9.mono HB8.out.size))
            clear hv hb9 Ht8 Hs8 HB8
            go_wp2_with fail
            refine (sNames_any Hs9.out (by omega)).mono ?_
            rintro e w10 ⟨v, rfl, hv, hb10⟩
            obtain ⟨P10, c10, rfl, _, _, _⟩ := own_form hv
            have Ht10 := Lib.hid (Ht9.out.below hb10)
            have HB10 := Lib.hid (HB9.out.trans (hb10.mono HB9.out.size))
            clear hv hb10 Ht9 Hs9 HB9
            go_wp2_with fail
            refine (sTrace_any Ht10.out (by omega)).mono ?_
            rintro e w11 ⟨v, rfl, hv, hb11⟩
            rw [Hops.out] at hv
            obtain ⟨P11, c11, rfl, _, _, _⟩ := own_form hv
            have HB11 := Lib.hid (HB10.out.trans (hb11.mono HB10.out.size))
            clear hv hb11 Ht10 HB10
            go_wp2
            go_ret
            exact ⟨rfl, HB11.out⟩
    · have Hk8 := Lib.hid (Hk.out.tch HI.out.bel)
      have hlen := HG.out.len
      have hrow := HI.out.row
      go_wp2_with fail
      obtain ⟨M, A, hst, hMl, hMv⟩ := HI.out.ex
      have hpost := sCrash_any a2 len2 cap2 ks hst (by omega) Hk8.out Hkc.out.1 (by omega)
      refine hpost.mono ?_
      clear hpost
      rintro e w7 ⟨rfl, ht7, hb7⟩
      have hs7 := hst.below hb7
      have hr7 := own_bel hrow hb7
      have hB7 := HI.out.bel.trans (hb7.mono HI.out.bel.size)
      have hrs := HI.out.ok.rising
      have hct := crash_len σ.fs ks []
      have hsl := sure_len sl (σ.crash ks).fs HG.out.nodup (St.ok_crash HI.out.ok ks).1.rising (fun n hn => by
        obtain ⟨f, hf, h2⟩ := HG.out.sure n hn
        exact ⟨_, crash_sure σ.fs ks [] n f hrs (fnd_mem hf) h2⟩)
      have hct2 : (σ.crash ks).fs.length ≤ σ.fs.length := by have := hct; simpa [St.crash] using this
      have hsu : ∀ n ∈ sl, ∃ f, fnd σ.fs n = some f ∧ fnd (σ.crash ks).fs n = some (sureF f.b) ∧ f.ok := fun n hn => by
        obtain ⟨f, hf, h2⟩ := HG.out.sure n hn
        exact ⟨f, hf, crash_sure σ.fs ks [] n f hrs (fnd_mem hf) h2, (HI.out.ok.fnd hf).1⟩
      have hops : (σ.crash ks).ops.length = 0 := rfl
      generalize (σ.crash ks) = σt at ht7 hsl hct2 hsu hops
      generalize wr.heap.size = q at ht7 ⊢
      generalize Grw (fun _ => False) wr w7 = Mt at ht7
      generalize Grw A wr w7 = At at ht7
      obtain ⟨N, eN⟩ : ∃ N, N = sl.length := ⟨_, rfl⟩
      rw [← eN] at hsl hr7 hlen ⊢
      have EN := Lib.hid eN
      have Hs7 := Lib.hid hs7
      have Ht7 := Lib.hid ht7
      have Hr7 := Lib.hid hr7
      have HB7 := Lib.hid hB7
      have Hsu := Lib.hid hsu
      have Hone := Lib.hid HG.out.one
      have Hops := Lib.hid hops
      clear hst hMl hMv hb7 hs7 ht7 hr7 hB7 hrs hct hsu hrow eN HI HG Hk8 hops
      go_wp2_with fail
      go_loopw [12] (fun i wx => ∃ (m : Nat), m ≤ N ∧ i = .int .i64 m ∧ Below w7.heap.size w7 wx) (fun i _ => N - (intOf i).toNat)
      case atStart => exact ⟨0, by omega, rfl, Below.refl _ _⟩
      case round =>
        obtain ⟨m, hm, rfl, hbx⟩ := hrel
        rename World => wx
        have Hbx := Lib.hid hbx
        clear hbx
        by_cases hmN : m < N
        · obtain ⟨n, hn⟩ : ∃ n, sl[m]? = some n := ⟨_, List.getElem?_eq_getElem (by have := EN.out; omega)⟩
          obtain ⟨f, hf1, hf2, hfk⟩ := Hsu.out n (List.mem_of_getElem? hn)
          have hn1 := Hone.out n (List.mem_of_getElem? hn)
          obtain ⟨g, rfl, hcs⟩ := own_at (own_bel Hr7.out Hbx.out) (by omega)
          have hc0 : wx.cell? ⟨g, m, none⟩ = some (.string (str n)) := hcs m _ (by simp [strs, hn])
          have i0 : (0 : Int) ≤ (m : Int) := by omega
          have i1 : (m : Int) < (N : Int) := by omega
          have Hf1 := Lib.hid hf1
          have Hf2 := Lib.hid hf2
          have Hfk := Lib.hid hfk
          clear hf1 hf2 hfk hn hcs
          go_wp2_with fail
          refine ((Hs7.out.below Hbx.out).rd n (by omega) f Hf1.out).mono ?_
          rintro e w8 ⟨P8, c8, rfl, hx8, hb8⟩
          have hc8 : w8.cell? ⟨g, m, none⟩ = some (.string (str n)) := (Keeps.of_below hb8) _ _ hc0
          have Hx8 := Lib.hid hx8
          have Hb8 := Lib.hid (Hbx.out.trans (hb8.mono Hbx.out.size))
          clear hx8 hb8 hc0 Hbx
          go_wp2_with fail
          refine ((Ht7.out.below Hb8.out).rd n (by omega) (sureF f.b) Hf2.out).mono ?_
          rintro e w9 ⟨P9, c9, rfl, hx9, hb9⟩
          have k1 : (convert 23 9 (.slice P8 f.b.length c8)).run Try.prog w9 = .ok (.string (strOf f.b)) w9 := cv_str (own_u8 (own_bel Hx8.out hb9) rfl Hfk.out.b.2)
          have k2 : (convert 23 9 (.slice P9 f.b.length c9)).run Try.prog w9 = .ok (.string (strOf f.b)) w9 := cv_str (own_u8 hx9 rfl Hfk.out.b.2)
          have Hb9 := Lib.hid (Hb8.out.trans (hb9.mono Hb8.out.size))
          rw [show (sureF f.b).b = f.b from rfl]
          clear hx9 hb9 hc8 Hx8 Hb8
          go_wp2
          exact ⟨⟨m + 1, by omega, by go_num, Hb9.out⟩, by simp [intOf]; omega⟩
        · obtain rfl : m = N := by omega
          have Htx := Lib.hid (Ht7.out.below Hbx.out)
          have Hsx := Lib.hid (Hs7.out.below Hbx.out)
          have HBx := Lib.hid (HB7.out.trans (Hbx.out.mono HB7.out.size))
          clear Ht7 Hs7 Hr7 HB7 Hbx Hsu Hone hmN hm
          go_wp2_with fail
          refine (sNames_any Htx.out (by omega)).mono ?_
          rintro e w8 ⟨v, rfl, hv, hb8⟩
          obtain ⟨P8, c8, rfl, _, _, _⟩ := own_form hv
          have Ht8 := Lib.hid (Htx.out.below hb8)
          have Hs8 := Lib.hid (Hsx.out.below hb8)
          have HB8 := Lib.hid (HBx.out.trans (hb8.mono HBx.out.size))
          clear hv hb8 Htx Hsx HBx
          go_wp2_with fail
          refine (sNames_any Ht8.out (by omega)).mono ?_
          rintro e w9 ⟨v, rfl, hv, hb9⟩
          obtain ⟨P9, c9, rfl, _, _, _⟩ := own_form hv
          have Ht9 := Lib.hid (Ht8.out.below hb9)
          have Hs9 := Lib.hid (Hs8.out.below hb9)
          have HB9 := Lib.hid (HB8.out.trans (hb9.mono HB8.out.size))
          clear hv hb9 Ht8 Hs8 HB8
          go_wp2_with fail
          refine (sNames_any Hs9.out (by omega)).mono ?_
          rintro e w10 ⟨v, rfl, hv, hb10⟩
          obtain ⟨P10, c10, rfl, _, _, _⟩ := own_form hv
          have Ht10 := Lib.hid (Ht9.out.below hb10)
          have HB10 := Lib.hid (HB9.out.trans (hb10.mono HB9.out.size))
          clear hv hb10 Ht9 Hs9 HB9
          go_wp2_with fail
          refine (sTrace_any Ht10.out (by omega)).mono ?_
          rintro e w11 ⟨v, rfl, hv, hb11⟩
          rw [Hops.out] at hv
          obtain ⟨P11, c11, rfl, _, _, _⟩ := own_form hv
          have HB11 := Lib.hid (HB10.out.trans (hb11.mono HB10.out.size))
          clear hv hb11 Ht10 HB10
          go_wp2
          go_ret
          exact ⟨rfl, HB11.out⟩
end Go.Proofs.Ytiebmilmeimpiaa

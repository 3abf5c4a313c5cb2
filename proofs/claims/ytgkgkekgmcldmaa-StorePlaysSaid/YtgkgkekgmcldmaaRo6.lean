/- The reference's face: New, right, Used, Names, Trace, Read. -/
import Derived.Test.YtgkgkekgmcldmaaRo4
namespace Go.Proofs.Ytgkgkekgmcldmaa
open Go.RowKit
theorem RefAt.new (w : World) (k : Int) (hk : 0 ≤ k ∧ k ≤ 1000000) : RefAt (w.alloc (.cells #[.int .i64 k, .slice none 0 0, .slice none 0 0] 62)) w.heap.size (St.new k) 0 (fun j => j = w.heap.size) (fun _ => False) := by
  refine ⟨.slice none 0 0, .slice none 0 0, [], heap_alloc_new w _, St.ok_new hk, rfl, by simp, World.ownsRow_nil _ _ _ _, World.ownsRow_nil _ _ _ _, rfl, fun k e => ?_, fun k e => ?_, fun k e => ?_, fun k e => e.elim⟩
  · simp [Value.ownBlock] at e
  · simp [Value.ownBlock] at e
  · subst e; simp
set_option maxHeartbeats 400000 in
theorem rNew_any (k : Int) (w : World) :
    Calls Try.prog 10 #[.int .i64 k] w fun e w' => e = .returned (.pointer (some ⟨w.heap.size, 0, none⟩)) ∧ w' = w.alloc (.cells #[.int .i64 k, .slice none 0 0, .slice none 0 0] 62) := by
  go_enter Try.func10, Try.ntmps10
  go_wp2
  go_ret
  exact ⟨rfl, rfl⟩
set_option maxHeartbeats 400000 in
theorem right_any (n : Nm) (w : World) (hn : n.length ≤ 1000000) :
    Calls Try.prog 40 #[.string (str n)] w fun e w' => e = .returned (.bool (nameOk n)) ∧ w = w' := by
  have hs := str_size n
  by_cases h1 : 1 ≤ n.length
  · by_cases h2 : n.length ≤ 20
    · have e : nameOk n = true := by simp [nameOk]; omega
      have d2 : decide ((n.length : Int) ≤ 20) = true := by simp; omega
      rw [e]
      clear e
      go_enter Try.func40, Try.ntmps40
      go_wp2
      go_ret
      exact ⟨rfl, rfl⟩
    · have e : nameOk n = false := by simp [nameOk]; omega
      have d2 : decide ((n.length : Int) ≤ 20) = false := by simp; omega
      rw [e]
      clear e
      go_enter Try.func40, Try.ntmps40
      go_wp2
      go_ret
      exact ⟨rfl, rfl⟩
  · have e : nameOk n = false := by simp [nameOk]; omega
    rw [e]
    clear e
    go_enter Try.func40, Try.ntmps40
    go_wp2
    go_ret
    exact ⟨rfl, rfl⟩
theorem used_take (fs : Fs) (k : Nat) (p : Nm × SF) (h : fs[k]? = some p) : usedF (fs.take (k + 1)) = usedF (fs.take k) + p.2.b.length := by
  unfold usedF
  rw [List.take_add_one, h]
  simp
theorem used_take_le (fs : Fs) (k : Nat) : usedF (fs.take k) ≤ usedF fs := by
  induction fs generalizing k with
  | nil => simp [usedF]
  | cons p t ih =>
    cases k with
    | zero => simp [usedF]
    | succ k =>
      have := ih k
      simp only [usedF, List.take_succ_cons, List.map_cons, List.sum_cons] at this ⊢
      omega
set_option maxRecDepth 100000 in
set_option maxHeartbeats 4000000 in
theorem rUsed_any {w : World} {q c : Nat} {σ : St} {M A : Nat → Prop} (h : RefAt w q σ c M A) (hc : c ≤ 1000000) :
    Calls Try.prog 31 #[.pointer (some ⟨q, 0, none⟩)] w fun e w' => e = .returned (.int .i64 (usedF σ.fs : Int)) ∧ w = w' := by
  obtain ⟨fv, lv, rs, h⟩ := h
  have hq1 := h.blk.cell (i := 1) rfl
  have hN : rs.length = σ.fs.length := by rw [h.fs, ofF_len]
  have hfew := h.ok.few
  have hu := h.ok.used hc
  obtain ⟨Pf, cap, ev, hcap, hcap2, _⟩ := own_form h.row
  subst ev
  obtain ⟨N, eN⟩ : ∃ N, N = rs.length := ⟨_, rfl⟩
  rw [← eN] at hq1 hcap hN
  have H := Lib.hid h
  have EN := Lib.hid eN
  have HN := Lib.hid hN
  have hN9 : N ≤ 1000000 := by omega
  clear h eN hcap2 hfew hN
  go_enter Try.func31, Try.ntmps31
  go_wp2_with fail
  go_loop [3, 4] (fun n i => ∃ k : Nat, k ≤ N ∧ i = .int .i64 k ∧ n = .int .i64 (usedF (σ.fs.take k) : Int)) (fun _ i => N - (intOf i).toNat)
  case atStart => exact ⟨0, by omega, rfl, rfl⟩
  case round =>
    obtain ⟨k, hk, rfl, rfl⟩ := hrel
    have hul := used_take_le σ.fs k
    by_cases hlt : k < N
    · obtain ⟨r, hrk⟩ : ∃ r, rs[k]? = some r := ⟨_, List.getElem?_eq_getElem (by have := EN.out; omega)⟩
      obtain ⟨g, cap', e, _, _, _, hcs⟩ := H.out.at_ hrk
      obtain ⟨e1, _, _⟩ := Value.slice.inj e
      subst e1
      have hr := H.out.all r (List.mem_of_getElem? hrk)
      obtain ⟨P, d, hvb⟩ := hr.b.sized
      have hfk : σ.fs[k]? = some (r.n, r.f) := by have := ofF_at hrk; rwa [← H.out.fs] at this
      have hus := used_take σ.fs k _ hfk
      have hb := (H.out.ok.files _ (List.mem_of_getElem? hfk)).b.1
      have y1 : w.cell? ⟨g, k * 5 + 1, none⟩ = some (.slice P r.f.b.length d) := hvb ▸ hcs 1 _ rfl
      have Hus : Hid (usedF (σ.fs.take (k + 1)) = usedF (σ.fs.take k) + r.f.b.length) := Lib.hid hus
      have hb : r.f.b.length ≤ 1000 := hb
      generalize r.f.b.length = l at y1 Hus hb
      generalize usedF (σ.fs.take k) = u at Hus hul ⊢
      have d1 : decide (k < N) = true := by simp; omega
      have i0 : (0 : Int) ≤ (k : Int) := by omega
      have i1 : (k : Int) < (N : Int) := by omega
      clear hrk hcs hr hvb hfk hus e
      go_wp2
      go_round
      case rel => exact ⟨k + 1, by omega, by go_num, by have := Hus.out; rw [this]; go_num⟩
      case measure => simp [intOf]; omega
    · obtain rfl : k = N := by omega
      have d1 : decide (k < k) = false := by simp
      have he : σ.fs.take k = σ.fs := List.take_of_length_le (by rw [← HN.out]; omega)
      have He := Lib.hid he
      clear he
      go_wp2
      go_ret
      rw [He.out]
      exact ⟨rfl, rfl⟩
theorem app_own {P : Program} (W : World) (B b : Nat) (t ty e : TypeId) (i : TypeInfo) (z : Value) (size bytes : Nat) (ht : P.underlying t = some (.slice e)) (hi : P.info? e = some i) (hz : i.zero = some z) (hsize : i.size = size) (hby : i.bytes = bytes) (hzs : z.cells.size = size) (hsz : 0 < size)
    (v s : Value) (n m : Nat) (xs ys : List Value) (h : W.ownsRow B e size v n xs) (hs : W.ownsRow b e size s m ys) (h1 : ∀ u ∈ ys, u.oneCell' = true) (h63 : n + m ≤ maxLen) (hbytes : (n + m) * bytes ≤ 140737488355328) (hB : B ≤ W.heap.size) :
    ∃ v' W', (Builtin.append_ #[t, t] ty #[v, s]).run P W = .ok v' W' ∧ W'.ownsRow B e size v' (n + m) (xs ++ ys) ∧ W.grownBy W' v.ownBlock ∧ (v'.ownBlock = v.ownBlock ∨ v'.ownBlock = some W.heap.size) := by
  rcases own_form0 hs with ⟨rfl, rfl⟩ | ⟨g, c, rfl, _⟩
  · have e0 : ys = [] := List.eq_nil_of_length_eq_zero (by have := hs.1; simpa using this)
    subst e0
    exact ⟨v, W, run_append_owned_none (P := P) (w := W) B t ty e i size ht hi v n xs h, by simpa using h, ⟨rfl, rfl, rfl, Nat.le_refl _, fun _ _ _ => rfl⟩, .inl rfl⟩
  · obtain ⟨v', W', hrun, ho, hgr, _, hat⟩ := run_append_own_at (P := P) W B t ty e i z size bytes ht hi hz hsize hby hzs hsz v n xs h ⟨g, 0, none⟩ m c ys hs.1 (World.ownsRow.cells hs (g := g) rfl) h1 h63 hbytes hB
    exact ⟨v', W', hrun, ho, hgr, hat⟩
theorem infoStr : (Try.prog.info? 9).map (fun i => (i.zero, i.size, i.bytes)) = some (some (.string ⟨#[]⟩), 1, 16) := by kernel_rfl
/-- A copy into a row that was just made. -/
theorem copy_new {P : Program} (w : World) (b : Nat) (t ty e : TypeId) (i : TypeInfo) (z : Value) (size bytes : Nat) (ht : P.underlying t = some (.slice e)) (hi : P.info? e = some i) (hz : i.zero = some z) (hsize : i.size = size) (hby : i.bytes = bytes) (hzs : z.cells.size = size) (hsz : 0 < size)
    (s : Value) (m : Nat) (ys : List Value) (hs : w.ownsRow b e size s m ys) (h1 : ∀ u ∈ ys, u.oneCell' = true) (h63 : m ≤ maxLen) (hbytes : m * bytes ≤ 140737488355328) :
    ∃ Pa na ca W', (Builtin.append_ #[t, t] ty #[.slice (some ⟨w.heap.size, 0, none⟩) 0 0, s]).run P (w.alloc (.cells #[] e)) = .ok (.slice Pa na ca) W' ∧ W'.ownsRow w.heap.size e size (.slice Pa na ca) m ys ∧ Below w.heap.size w W' := by
  have hlit : (w.alloc (.cells #[] e)).ownsRow w.heap.size e size (.slice (some ⟨w.heap.size, 0, none⟩) 0 0) 0 [] := World.ownsRow_made w #[] 0 (Nat.le_refl _) (by simp [maxLen]) (by simp)
  have hb : Below w.heap.size w (w.alloc (.cells #[] e)) := (Below.refl _ _).alloc (Nat.le_refl _) _
  obtain ⟨v', W', hrun, ho, hgr, _⟩ := app_own (P := P) (w.alloc (.cells #[] e)) w.heap.size b t ty e i z size bytes ht hi hz hsize hby hzs hsz _ s 0 m [] ys hlit (own_below hs hb (Nat.le_refl _)) h1 (by omega) (by rw [Nat.zero_add]; exact hbytes) hb.size
  rw [Nat.zero_add, List.nil_append] at ho
  obtain ⟨Pa, ca, hv, _⟩ := own_form ho
  subst hv
  exact ⟨Pa, m, ca, W', hrun, ho, hb.grown hgr hb.size fun j e => (hlit.lt j e).1⟩
set_option maxRecDepth 100000 in
set_option maxHeartbeats 4000000 in
theorem rTrace_any {w : World} {q c : Nat} {σ : St} {M A : Nat → Prop} (h : RefAt w q σ c M A) (hc : c ≤ 1000000) :
    Calls Try.prog 21 #[.pointer (some ⟨q, 0, none⟩)] w fun e w' => ∃ v, e = .returned v ∧ w'.ownsRow w.heap.size 66 2 v σ.ops.length (opCells σ.ops) ∧ Below w.heap.size w w' := by
  obtain ⟨fv, lv, rs, h⟩ := h
  have hl := h.ok.ops
  obtain ⟨i0, hi, hz0, hz1, hz2⟩ := info_parts infoOpR
  obtain ⟨Pa, na, ca, W', hrun, ho, hb⟩ := copy_new (P := Try.prog) w 0 43 43 66 i0 _ 2 24 Try.underlying43 hi hz0 hz1 hz2 rfl (by omega) lv σ.ops.length (opCells σ.ops) h.ops (opCells_one _) (by simp [maxLen]; omega) (by omega)
  have q2 := h.blk.cell (i := 2) rfl
  obtain ⟨P1, n1, c1, e1⟩ : ∃ P1 n1 c1, lv = .slice P1 n1 c1 := by
    obtain ⟨P, c, hv, _⟩ := own_form h.ops
    exact ⟨P, _, c, hv⟩
  subst e1
  have q2' : (w.alloc (.cells #[] 66)).cell? ⟨q, 2, none⟩ = some (.slice P1 n1 c1) := ((Keeps.refl w).alloc _) _ _ q2
  have Hr := Lib.hid hrun
  have Ho := Lib.hid ho
  have Hb := Lib.hid hb
  clear q2 hrun ho hb h hi hz0 hz1 hz2 hl hc
  go_enter Try.func21, Try.ntmps21
  go_wp2_with (at_builtin; have _t := Hr; refine wpList_append_eq rfl (.tmp 3) (.tmp 7) 43 rfl _ _ _ _ rfl rfl Hr.out ?_; clear _t Hr)
  go_ret
  exact ⟨_, rfl, Ho.out, Hb.out⟩
set_option maxRecDepth 100000 in
set_option maxHeartbeats 4000000 in
theorem rRead_any {w : World} {q c : Nat} {σ : St} {M A : Nat → Prop} (n : Nm) (h : RefAt w q σ c M A) (hc : c ≤ 1000000) :
    Calls Try.prog 14 #[.pointer (some ⟨q, 0, none⟩), .string (str n)] w fun e w' => ∃ v, e = .returned (.tuple #[v, .bool (fnd σ.fs n).isSome]) ∧ w'.ownsRow w.heap.size 5 1 v (valF (fnd σ.fs n)).b.length (byts (valF (fnd σ.fs n)).b) ∧ Below w.heap.size w w' := by
  have hfind := find_any n h hc
  cases hff : fnd σ.fs n with
  | none =>
    rw [hff] at hfind
    have Hfind := Lib.hid hfind
    clear hfind h hff
    go_enter Try.func14, Try.ntmps14
    go_wp2_with fail
    refine Hfind.out.mono ?_
    rintro e w2 ⟨rfl, nq, rfl⟩
    simp only [Option.isSome_none]
    go_wp2
    go_ret2
    exact ⟨_, rfl, World.ownsRow_nil _ _ _ _, below_drewN (Below.refl _ _) _⟩
  | some f =>
    rw [hff] at hfind
    obtain ⟨fv, lv, rs, h⟩ := h
    have hpos := fnd_pos (n := n) h.ok.rising
    rw [hff] at hpos
    obtain ⟨pr, hp1, hp2⟩ := Option.bind_eq_some_iff.1 hpos.symm
    have hpf : pr.2 = f := by
      split at hp2
      · injection hp2
      · cases hp2
    obtain ⟨k, hk⟩ : ∃ k, k = posF σ.fs n := ⟨_, rfl⟩
    rw [← hk] at hfind hp1
    have hp1' := hp1
    rw [h.fs] at hp1
    simp only [ofF, List.getElem?_map, Option.map_eq_some_iff] at hp1
    obtain ⟨r, hrk, rfl⟩ := hp1
    have hpf : r.f = f := hpf
    obtain ⟨g, cap, e, _, hcap, _, hcs⟩ := h.at_ hrk
    subst e
    have hkN := (List.getElem?_eq_some_iff.1 hrk).1
    have hr := h.all r (List.mem_of_getElem? hrk)
    obtain ⟨P, d, hvb⟩ := hr.b.sized
    have hb1 := (h.ok.fnd hff).1.b.1
    have hfew := h.ok.few
    have hN : rs.length = σ.fs.length := by rw [h.fs, ofF_len]
    obtain ⟨i0, hi, hz0, hz1, hz2⟩ := info_parts infoByte
    have hrb : w.ownsRow 0 5 1 (.slice P r.f.b.length d) r.f.b.length (byts r.f.b) := hvb ▸ hr.b.1
    have hcopy := fun nq => copy_new (P := Try.prog) (w.drewN nq) 0 23 23 5 i0 _ 1 1 Try.underlying23 hi hz0 hz1 hz2 rfl (by omega) (.slice P r.f.b.length d) r.f.b.length (byts r.f.b) hrb (byts_one _) (by rw [hpf]; simp [maxLen]; omega) (by rw [hpf]; omega)
    have y1 : w.cell? ⟨g, k * 5 + 1, none⟩ = some (.slice P r.f.b.length d) := hvb ▸ hcs 1 _ rfl
    have q1 := h.blk.cell (i := 1) rfl
    have i0 : (0 : Int) ≤ (k : Int) := by omega
    have i1 : (k : Int) < (rs.length : Int) := by omega
    have hN9 : rs.length ≤ 1000000 := by omega
    rw [hpf] at hcopy y1
    have Hcopy := Lib.hid hcopy
    have Hfind := Lib.hid hfind
    simp only [Option.isSome_some, valF, Option.getD_some]
    generalize f.b.length = l at y1 Hcopy hb1 ⊢
    generalize rs.length = N at q1 i1 hN9 hcap
    clear hfind hff hpos hp2 hpf hk hp1' hrk hkN hr hvb hfew hN hi hz0 hz1 hz2 hrb hcopy h hcs
    go_enter Try.func14, Try.ntmps14
    go_wp2_with fail
    refine Hfind.out.mono ?_
    rintro e w2 ⟨rfl, nq, rfl⟩
    obtain ⟨Pa, na, ca, W', hrun, ho, hb⟩ := Hcopy.out nq
    have y1 : (w.drewN nq).cell? ⟨g, k * 5 + 1, none⟩ = some (.slice P l d) := y1
    have q1 : (w.drewN nq).cell? ⟨q, 1, none⟩ = some (.slice (some ⟨g, 0, none⟩) N cap) := q1
    have hb' : Below w.heap.size w W' := (below_drewN (Below.refl _ _) nq).trans hb
    have ho' : W'.ownsRow w.heap.size 5 1 (.slice Pa na ca) l (byts f.b) := ho
    generalize w.drewN nq = W2 at y1 q1 hrun ⊢
    have y1' : (W2.alloc (.cells #[] 5)).cell? ⟨g, k * 5 + 1, none⟩ = some (.slice P l d) := ((Keeps.refl W2).alloc _) _ _ y1
    have q1' : (W2.alloc (.cells #[] 5)).cell? ⟨q, 1, none⟩ = some (.slice (some ⟨g, 0, none⟩) N cap) := ((Keeps.refl W2).alloc _) _ _ q1
    have Hr := Lib.hid hrun
    have Ho := Lib.hid ho'
    have Hb := Lib.hid hb'
    clear hrun ho hb ho' hb' Hcopy Hfind
    simp only [Option.isSome_some]
    go_wp2_with (at_builtin; have _t := Hr; refine wpList_append_eq rfl (.tmp 16) (.tmp 24) 23 rfl _ _ _ _ rfl rfl Hr.out ?_; clear _t Hr)
    go_ret2
    exact ⟨_, rfl, Ho.out, Hb.out⟩
theorem nm_take (fs : Fs) (k : Nat) (p : Nm × SF) (h : fs[k]? = some p) : nmCells (fs.take (k + 1)) = nmCells (fs.take k) ++ [.string (str p.1)] := by
  unfold nmCells
  rw [List.take_add_one, h]
  simp
set_option maxRecDepth 100000 in
set_option maxHeartbeats 4000000 in
theorem rNames_any {w : World} {q c : Nat} {σ : St} {M A : Nat → Prop} (h : RefAt w q σ c M A) (hc : c ≤ 1000000) :
    Calls Try.prog 30 #[.pointer (some ⟨q, 0, none⟩)] w fun e w' => ∃ v, e = .returned v ∧ w'.ownsRow w.heap.size 9 1 v σ.fs.length (nmCells σ.fs) ∧ Below w.heap.size w w' := by
  obtain ⟨fv, lv, rs, h⟩ := h
  have hN : rs.length = σ.fs.length := by rw [h.fs, ofF_len]
  have hfew := h.ok.few
  obtain ⟨Pf, cap, ev, hcap, hcap2, _⟩ := own_form h.row
  subst ev
  obtain ⟨N, eN⟩ : ∃ N, N = rs.length := ⟨_, rfl⟩
  rw [← eN] at hcap hN
  have H := Lib.hid h
  have EN := Lib.hid eN
  have HN := Lib.hid hN
  have hN9 : N ≤ 1000000 := by omega
  clear h eN hcap2 hfew hN
  go_enter Try.func30, Try.ntmps30
  go_wp2_with fail
  go_loopw [3, 4] (fun v i wr => ∃ (k : Nat) (P : Option Addr) (cc : Nat), k ≤ N ∧ i = .int .i64 k ∧ v = .slice P k cc ∧ wr.ownsRow w.heap.size 9 1 (.slice P k cc) k (nmCells (σ.fs.take k)) ∧ Below w.heap.size w wr) (fun _ i _ => N - (intOf i).toNat)
  case atStart => exact ⟨0, none, 0, by omega, rfl, rfl, World.ownsRow_nil _ _ _ _, Below.refl _ _⟩
  case round =>
    obtain ⟨k, P, cc, hk, rfl, rfl, ho, hb⟩ := hrel
    rename World => wr
    have hi := H.out.below hb
    have q1 := hi.blk.cell (i := 1) rfl
    rw [← EN.out] at q1
    by_cases hlt : k < N
    · obtain ⟨r, hrk⟩ : ∃ r, rs[k]? = some r := ⟨_, List.getElem?_eq_getElem (by have := EN.out; omega)⟩
      obtain ⟨g, cap', e, _, _, _, hcs⟩ := hi.at_ hrk
      obtain ⟨e1, _, _⟩ := Value.slice.inj e
      subst e1
      have hfk : σ.fs[k]? = some (r.n, r.f) := by have := ofF_at hrk; rwa [← H.out.fs] at this
      have y0 : wr.cell? ⟨g, k * 5, none⟩ = some (.string (str r.n)) := hcs 0 _ rfl
      obtain ⟨i0, hi0, hz0, hz1, hz2⟩ := info_parts infoStr
      obtain ⟨v', w', hrun, ho', hgr, _⟩ := run_append_own_at (P := Try.prog) (wr.alloc (.cells #[.string (str r.n)] 9)) w.heap.size 51 51 9 i0 _ 1 16 Try.underlying51 hi0 hz0 hz1 hz2 rfl (by omega) (.slice P k cc) k _ (ho.alloc _)
        ⟨wr.heap.size, 0, none⟩ 1 1 [.string (str r.n)] rfl (fun j u hu => by
          rw [add0, show (wr.alloc (.cells #[.string (str r.n)] 9)).cell? ⟨wr.heap.size, j, none⟩ = #[.string (str r.n)][j]? from cell_of_row _ _ _ _ 9 (0, 0) (heap_alloc_new wr _)]
          simpa using hu) (by intro u hu; simp at hu; subst hu; rfl) (by simp [maxLen]; omega) (by omega) (by have := hb.size; simp; omega)
      rw [← nm_take σ.fs k _ hfk] at ho'
      obtain ⟨P', c', hv, _⟩ := own_form ho'
      subst hv
      have hba : Below w.heap.size w (wr.alloc (.cells #[.string (str r.n)] 9)) := hb.alloc hb.size _
      have hb' : Below w.heap.size w w' := hba.grown hgr hba.size fun j e => ((ho.alloc (.cells #[.string (str r.n)] 9)).lt j e).1
      have Hr := Lib.hid hrun
      have Ho := Lib.hid ho'
      have Hb := Lib.hid hb'
      have d1 : decide (k < N) = true := by simp; omega
      have j0 : (0 : Int) ≤ (k : Int) := by omega
      have j1 : (k : Int) < (N : Int) := by omega
      clear hi hrk hcs hfk hi0 hz0 hz1 hz2 hrun ho' hgr hba hb' ho hb e
      go_wp2_with (at_builtin; have _t := Hr; refine wpList_append_eq rfl (.tmp 14) (.tmp 23) 51 rfl _ _ _ _ rfl rfl Hr.out ?_; clear _t Hr)
      go_roundw
      case rel => exact ⟨k + 1, P', c', by omega, by go_num, rfl, Ho.out, Hb.out⟩
      case measure => simp [intOf]; omega
    · obtain rfl : k = N := by omega
      have d1 : decide (k < k) = false := by simp
      have he : σ.fs.take k = σ.fs := List.take_of_length_le (by rw [← HN.out]; omega)
      rw [he] at ho
      have ho2 : wr.ownsRow w.heap.size 9 1 (.slice P k cc) σ.fs.length (nmCells σ.fs) := by rw [← HN.out]; exact ho
      have Ho := Lib.hid ho2
      have Hb := Lib.hid hb
      have HNk := HN.out
      clear he hi ho ho2 hb HNk
      go_wp2
      go_ret
      exact ⟨_, rfl, Ho.out, Hb.out⟩
end Go.Proofs.Ytgkgkekgmcldmaa

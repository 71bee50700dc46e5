/- The library's Grow, Concat: contracts. -/
import Derived.Test.YtofmkbijhmbbcaaBkSet
import Derived.Lib.AppendZeros
namespace Go.Proofs.Ytofmkbijhmbbcaa
open Go.RowKit Base Base2

theorem flat_len {k : Nat} : ∀ {l : List Item}, (∀ x ∈ l, x.length = k) → (flatI l).length = l.length * k
  | [], _ => by simp [flatI]
  | y :: l, h => by
    have ih := flat_len (l := l) (fun x hx => h x (List.mem_cons_of_mem _ hx))
    show (y.map (Value.int .i64) ++ flatI l).length = _
    rw [List.length_append, ih, List.length_map, h y (List.mem_cons_self ..), List.length_cons, Nat.add_mul]; omega
theorem flat_one {l : List Item} : ∀ u ∈ flatI l, u.oneCell' = true := by
  intro u hu
  unfold flatI at hu
  obtain ⟨y, hy, hu⟩ := List.mem_flatten.1 hu
  obtain ⟨x, _, rfl⟩ := List.mem_map.1 hy
  exact one_items x u hu
theorem flat_cells {k b : Nat} {W : World} : ∀ (l : List Item) (off : Nat), (∀ x ∈ l, x.length = k) → (∀ (i : Nat) (x : Item), l[i]? = some x → ∀ (j : Nat) (z : Int), x[j]? = some z → W.cell? ⟨b, off + i * k + j, none⟩ = some (.int .i64 z)) → ∀ (m : Nat) (u : Value), (flatI l)[m]? = some u → W.cell? ⟨b, off + m, none⟩ = some u
  | [], _, _, _, m, u, hu => by simp [flatI] at hu
  | y :: l, off, hk, h, m, u, hu => by
    have hy := hk y (List.mem_cons_self ..)
    have hu : (y.map (Value.int .i64) ++ flatI l)[m]? = some u := hu
    by_cases hm : m < k
    · rw [List.getElem?_append_left (by simpa [hy] using hm), List.getElem?_map] at hu
      obtain ⟨z, hz, rfl⟩ := Option.map_eq_some_iff.1 hu
      have := h 0 y rfl m z hz
      rwa [Nat.zero_mul, Nat.add_zero] at this
    · rw [List.getElem?_append_right (by simpa [hy] using hm), List.length_map, hy] at hu
      have := flat_cells l (off + k) (fun x hx => hk x (List.mem_cons_of_mem _ hx)) (fun i x hi j z hz => by
        have := h (i + 1) x (by simpa using hi) j z hz
        rw [Nat.add_mul, Nat.one_mul] at this
        rwa [show off + k + i * k + j = off + (i * k + k) + j by omega]) (m - k) u hu
      rwa [show off + k + (m - k) = off + m by omega] at this
theorem append_none {P : Program} {w : World} (base c : Nat) (t ty e : TypeId) (i : TypeInfo) (size : Nat) (ht : P.underlying t = some (.slice e)) (hi : P.info? e = some i) (v : Value) (n : Nat) (xs : List Value) (hown : w.ownsRow base e size v n xs) :
    (Builtin.append_ #[t, t] ty #[v, .slice none 0 c]).run P w = .ok v w := by
  rcases hown.2 with ⟨rfl, rfl⟩ | ⟨g, cap, cur, rfl, _, _, hnc, _⟩
  · simp [Builtin.append_, run_underlying ht, sizeOf, typeInfo, hi, Builtin.lenOf, Builtin.firstCells]
  · simp [Builtin.append_, run_underlying ht, sizeOf, typeInfo, hi, Builtin.lenOf, Builtin.firstCells, hnc, storeCells]
theorem grown_refl (w : World) (r : Option Nat) : w.grownBy w r := ⟨rfl, rfl, rfl, Nat.le_refl _, fun _ _ _ => rfl⟩
/-- A row of things put behind a row that is being made. -/
theorem app_part {P : Program} {T E : TypeId} {i0 : TypeInfo} {z0 : Value} {k bytes : Nat} (hT : P.underlying T = some (.slice E)) (hi : P.info? E = some i0) (hz : i0.zero = some z0) (hs : i0.size = k) (hb : i0.bytes = bytes) (hzs : z0.cells.size = k) (hk0 : 0 < k) (ty : TypeId)
    {B : Nat} {W : World} {v : Value} {n : Nat} {xs : List Value} (hown : W.ownsRow B E k v n xs) (hB : B ≤ W.heap.size) {a : Option Addr} {c : Nat} {l : List Item} (hr : RowsOf k W a l) (hk : ∀ x ∈ l, x.length = k)
    (h63 : n + l.length ≤ maxLen) (hby : (n + l.length) * bytes ≤ 140737488355328) :
    ∃ v' w', (Builtin.append_ #[T, T] ty #[v, .slice a l.length c]).run P W = .ok v' w' ∧ w'.ownsRow B E k v' (n + l.length) (xs ++ flatI l) ∧ W.grownBy w' v.ownBlock := by
  cases a with
  | none =>
    have hl : l = [] := by
      rcases hr with h | ⟨b, off, h, _⟩
      · exact h
      · cases h
    subst hl
    exact ⟨v, W, append_none B c T ty E i0 k hT hi v n xs hown, by simpa [flatI] using hown, grown_refl _ _⟩
  | some ad =>
    obtain ⟨v', w', h1, h2, h3, _⟩ := run_append_own (P := P) (w := W) B T ty E i0 z0 k bytes hT hi hz hs hb hzs hk0 v n xs hown ad l.length c (flatI l) (flat_len hk) (fun j u hu => by
      rcases hr with rfl | ⟨b, off, hab, _, h⟩
      · simp [flatI] at hu
      · obtain rfl : ad = ⟨b, off, none⟩ := by simpa using hab
        rw [Addr.add_mid]
        exact flat_cells l off hk h j u hu) flat_one h63 hby hB
    exact ⟨v', w', h1, h2, h3⟩
theorem SetSt.appG {B : Nat} {W0 : World} {T : TypeId} {k : Nat} {o l : List Item} {v v' : Value} {W w2 : World} (h : SetSt B W0 T k o v W) (hr : w2.ownsRow B T k v' (o.length + l.length) (flatI o ++ flatI l)) (hg : W.grownBy w2 v.ownBlock) : SetSt B W0 T k (o ++ l) v' w2 :=
  ⟨by rw [flatI_app, List.length_append]; exact hr, h.lo.grown hg h.sz (own_block_ge h.row), Nat.le_trans h.sz hg.size⟩
/-- Rows that are put one behind the other. -/
structure Part where
  a : Option Addr
  c : Nat
  l : List Item
def catP (ps : List Part) : List Item := (ps.map Part.l).flatten
theorem catP_next {ps : List Part} {i : Nat} {p : Part} (h : ps[i]? = some p) : catP (ps.take (i + 1)) = catP (ps.take i) ++ p.l := by
  unfold catP
  rw [List.take_add_one, h]; simp
theorem catP_all {ps : List Part} {i : Nat} (h : ps.length ≤ i) : catP (ps.take i) = catP ps := by rw [List.take_of_length_le h]
theorem catP_le (ps : List Part) (i : Nat) : (catP (ps.take i)).length ≤ (catP ps).length := by
  have h : catP ps = catP (ps.take i) ++ catP (ps.drop i) := by
    unfold catP
    rw [← List.flatten_append, ← List.map_append, List.take_append_drop]
  rw [h, List.length_append]; omega

set_option maxRecDepth 100000 in
set_option maxHeartbeats 4000000 in
theorem growHolder (n : Nat) (w : World) (hn : n ≤ 3000) : Calls Try.prog 74 #[.slice none 0 0, .int .i64 (n : Int)] w fun e w' => ∃ v, e = .returned v ∧ SetSt w.heap.size w 33 4 [] v w' := by
  by_cases h0 : n = 0
  · subst h0
    go_enter Try.func74, Try.ntmps74
    go_wp2
    go_ret
    exact ⟨_, rfl, SetSt.nil (Nat.le_refl _)⟩
  · obtain ⟨i0, hi0, hz0, hz1, hz2⟩ := info_parts infoH
    have hap := Lib.run_append_nil_zeros (P := Try.prog) w 22 3 22 33 i0 _ .i64 .i64 Try.underlying22 Try.underlying3 hi0 hz0 n (by omega) (by rw [hz1]; decide) (by omega) (by rw [hz2]; omega)
    have hC1 := grownCap_ge w n 0 33
    have hC2 := grownCap_le_maxLen w n 0 33 (by unfold maxLen; omega)
    have hcs : (Builtin.zeroCells (Value.agg #[.int .i64 0, .int .i64 0, .int .i64 0, .int .i64 0]).cells n ++ Builtin.zeroCells (Value.agg #[.int .i64 0, .int .i64 0, .int .i64 0, .int .i64 0]).cells (grownCap w n 0 33 - n)).size = grownCap w n 0 33 * 4 := by
      rw [Array.size_append, size_zeroCells, size_zeroCells, show (Value.agg #[.int .i64 0, .int .i64 0, .int .i64 0, .int .i64 0]).cells.size = 4 from rfl]; omega
    generalize grownCap w n 0 33 = C at *
    generalize (Builtin.zeroCells (Value.agg #[.int .i64 0, .int .i64 0, .int .i64 0, .int .i64 0]).cells n ++ Builtin.zeroCells (Value.agg #[.int .i64 0, .int .i64 0, .int .i64 0, .int .i64 0]).cells (C - n)) = CU at *
    have hS := Lib.hid (show SetSt w.heap.size w 33 4 [] (.slice (some ⟨w.heap.size, 0, none⟩) 0 C) (w.drew.alloc (.cells CU 33)) from
      ⟨by have h := World.ownsRow_made (base := w.heap.size) (size := 4) (e := 33) w.drew CU C (Nat.le_refl _) hC2 hcs; simpa [flatI] using h, (below_drewN' (Below.refl _ w) 1).alloc (Nat.le_refl _) _, by simp⟩)
    have hC0 : ¬ C = 0 := by omega
    clear hcs hC1 hC2
    go_enter Try.func74, Try.ntmps74
    go_wp2_with (at_builtin; refine Lib.wpList_append_run _ rfl _ _ _ _ rfl _ _ rfl rfl _ _ hap ?_)
    go_ret
    exact ⟨_, rfl, hS.out⟩
set_option maxRecDepth 100000 in
set_option maxHeartbeats 8000000 in
theorem concatHolder (g c0 : Nat) (ps : List Part) (w : World) (hg : g < w.heap.size) (hc : ∀ (i : Nat) (p : Part), ps[i]? = some p → w.cell? ⟨g, i, none⟩ = some (.slice p.a p.l.length p.c)) (hr : ∀ p ∈ ps, RowsOf 4 w p.a p.l) (hk : ∀ p ∈ ps, ∀ x ∈ p.l, x.length = 4) (hl : (catP ps).length ≤ 1500) (hps : ps.length ≤ 10) :
    Calls Try.prog 39 #[.slice (some ⟨g, 0, none⟩) ps.length c0] w fun e w' => ∃ v, e = .returned v ∧ SetSt w.heap.size w 33 4 (catP ps) v w' := by
  obtain ⟨i0, hi0, hz0, hz1, hz2⟩ := info_parts infoH
  have HC := Lib.hid (fun (i : Nat) (p : Part) (h : ps[i]? = some p) (W : World) (hb : Below w.heap.size w W) => (hb.cell (p := ⟨g, i, none⟩) hg).trans (hc i p h))
  have HR := Lib.hid (fun (i : Nat) (p : Part) (h : ps[i]? = some p) (W : World) (hb : Below w.heap.size w W) => (hr p (List.mem_of_getElem? h)).below hb)
  have HK := Lib.hid (fun (i : Nat) (p : Part) (h : ps[i]? = some p) => hk p (List.mem_of_getElem? h))
  have HN := Lib.hid (fun (i : Nat) (p : Part) (h : ps[i]? = some p) => catP_next h)
  have HL := Lib.hid (fun i => Nat.le_trans (catP_le ps i) hl)
  clear hc hr hk
  go_enter Try.func39, Try.ntmps39
  go_wp2
  go_loopw [3, 11] (fun vs vi W => ∃ i : Nat, vi = .int .i64 (i : Int) ∧ i ≤ ps.length ∧ vs = .int .i64 ((catP (ps.take i)).length : Int) ∧ W = w) (fun _ vi _ => ps.length - (intOf vi).toNat)
  case atStart => exact ⟨0, rfl, Nat.zero_le _, rfl, rfl⟩
  case round =>
    obtain ⟨i, rfl, hi, rfl, hw⟩ := hrel
    obtain rfl := hw.symm
    by_cases hlt : i < ps.length
    · obtain ⟨p, hp⟩ : ∃ p, ps[i]? = some p := ⟨ps[i], by simp [hlt]⟩
      have k0 := HC.out i p hp w (Below.refl _ _)
      have e1 := HL.out (i + 1)
      have hn := HN.out i p hp
      rw [hn, List.length_append] at e1
      have HNN := Lib.hid (show ((catP (ps.take (i + 1))).length : Int) = ((catP (ps.take i)).length : Int) + (p.l.length : Int) by rw [hn, List.length_append]; omega)
      clear hn hp
      generalize (catP (ps.take i)).length = N at *
      go_wp2
      go_roundw
      case rel => exact ⟨i + 1, by go_num, hlt, by rw [HNN.out], by trivial⟩
      case measure => simp [intOf]; omega
    · have hall := catP_all (ps := ps) (i := i) (by omega)
      rw [hall]
      have HLL := Lib.hid hl
      have hl2 : (catP ps).length ≤ 3000 := by omega
      clear hall
      go_wp2_with (go_at_call 74; refine (growHolder _ _ hl2).mono ?_; rintro e y ⟨vy, rfl, hy⟩; have HY := Lib.hid hy; clear hy)
      go_loopw [6, 27] (fun vo vi W => ∃ i : Nat, vi = .int .i64 (i : Int) ∧ i ≤ ps.length ∧ SetSt w.heap.size w 33 4 (catP (ps.take i)) vo W) (fun _ vi _ => ps.length - (intOf vi).toNat)
      case atStart => exact ⟨0, rfl, Nat.zero_le _, HY.out⟩
      case round =>
        clear HY
        obtain ⟨j, rfl, hj, hst⟩ := hrel
        have HS := Lib.hid hst
        clear hst
        by_cases hlt : j < ps.length
        · obtain ⟨p, hp⟩ : ∃ p, ps[j]? = some p := ⟨ps[j], by simp [hlt]⟩
          have k0 := HC.out j p hp _ HS.out.lo
          have e1 := HL.out (j + 1)
          have hn := HN.out j p hp
          rw [hn, List.length_append] at e1
          obtain ⟨v', w', hap, hown, hgr⟩ := app_part (P := Try.prog) Try.underlying22 hi0 hz0 hz1 hz2 (by decide) (by decide) 22 HS.out.row HS.out.sz (c := p.c) (HR.out j p hp _ HS.out.lo) (HK.out j p hp) (by unfold maxLen; omega) (by omega)
          have HNX := Lib.hid (show SetSt w.heap.size w 33 4 (catP (ps.take (j + 1))) v' w' by rw [hn]; exact HS.out.appG hown hgr)
          clear hn hp hown hgr
          go_wp2_with (at_builtin; refine Lib.wpList_append_run _ rfl _ _ _ _ rfl _ _ rfl rfl _ _ hap ?_)
          go_roundw
          case rel => exact ⟨j + 1, by go_num, hlt, HNX.out⟩
          case measure => simp [intOf]; omega
        · have HE := Lib.hid (show SetSt w.heap.size w 33 4 (catP ps) _ _ by have h := HS.out; rw [catP_all (by omega)] at h; exact h)
          go_wp2
          go_ret
          exact ⟨_, rfl, HE.out⟩

set_option maxRecDepth 100000 in
set_option maxHeartbeats 4000000 in
theorem growStake (n : Nat) (w : World) (hn : n ≤ 3000) : Calls Try.prog 75 #[.slice none 0 0, .int .i64 (n : Int)] w fun e w' => ∃ v, e = .returned v ∧ SetSt w.heap.size w 45 3 [] v w' := by
  by_cases h0 : n = 0
  · subst h0
    go_enter Try.func75, Try.ntmps75
    go_wp2
    go_ret
    exact ⟨_, rfl, SetSt.nil (Nat.le_refl _)⟩
  · obtain ⟨i0, hi0, hz0, hz1, hz2⟩ := info_parts infoS
    have hap := Lib.run_append_nil_zeros (P := Try.prog) w 23 3 23 45 i0 _ .i64 .i64 Try.underlying23 Try.underlying3 hi0 hz0 n (by omega) (by rw [hz1]; decide) (by omega) (by rw [hz2]; omega)
    have hC1 := grownCap_ge w n 0 45
    have hC2 := grownCap_le_maxLen w n 0 45 (by unfold maxLen; omega)
    have hcs : (Builtin.zeroCells (Value.agg #[.int .i64 0, .int .i64 0, .int .i64 0]).cells n ++ Builtin.zeroCells (Value.agg #[.int .i64 0, .int .i64 0, .int .i64 0]).cells (grownCap w n 0 45 - n)).size = grownCap w n 0 45 * 3 := by
      rw [Array.size_append, size_zeroCells, size_zeroCells, show (Value.agg #[.int .i64 0, .int .i64 0, .int .i64 0]).cells.size = 3 from rfl]; omega
    generalize grownCap w n 0 45 = C at *
    generalize (Builtin.zeroCells (Value.agg #[.int .i64 0, .int .i64 0, .int .i64 0]).cells n ++ Builtin.zeroCells (Value.agg #[.int .i64 0, .int .i64 0, .int .i64 0]).cells (C - n)) = CU at *
    have hS := Lib.hid (show SetSt w.heap.size w 45 3 [] (.slice (some ⟨w.heap.size, 0, none⟩) 0 C) (w.drew.alloc (.cells CU 45)) from
      ⟨by have h := World.ownsRow_made (base := w.heap.size) (size := 3) (e := 45) w.drew CU C (Nat.le_refl _) hC2 hcs; simpa [flatI] using h, (below_drewN' (Below.refl _ w) 1).alloc (Nat.le_refl _) _, by simp⟩)
    have hC0 : ¬ C = 0 := by omega
    clear hcs hC1 hC2
    go_enter Try.func75, Try.ntmps75
    go_wp2_with (at_builtin; refine Lib.wpList_append_run _ rfl _ _ _ _ rfl _ _ rfl rfl _ _ hap ?_)
    go_ret
    exact ⟨_, rfl, hS.out⟩
set_option maxRecDepth 100000 in
set_option maxHeartbeats 8000000 in
theorem concatStake (g c0 : Nat) (ps : List Part) (w : World) (hg : g < w.heap.size) (hc : ∀ (i : Nat) (p : Part), ps[i]? = some p → w.cell? ⟨g, i, none⟩ = some (.slice p.a p.l.length p.c)) (hr : ∀ p ∈ ps, RowsOf 3 w p.a p.l) (hk : ∀ p ∈ ps, ∀ x ∈ p.l, x.length = 3) (hl : (catP ps).length ≤ 1500) (hps : ps.length ≤ 10) :
    Calls Try.prog 40 #[.slice (some ⟨g, 0, none⟩) ps.length c0] w fun e w' => ∃ v, e = .returned v ∧ SetSt w.heap.size w 45 3 (catP ps) v w' := by
  obtain ⟨i0, hi0, hz0, hz1, hz2⟩ := info_parts infoS
  have HC := Lib.hid (fun (i : Nat) (p : Part) (h : ps[i]? = some p) (W : World) (hb : Below w.heap.size w W) => (hb.cell (p := ⟨g, i, none⟩) hg).trans (hc i p h))
  have HR := Lib.hid (fun (i : Nat) (p : Part) (h : ps[i]? = some p) (W : World) (hb : Below w.heap.size w W) => (hr p (List.mem_of_getElem? h)).below hb)
  have HK := Lib.hid (fun (i : Nat) (p : Part) (h : ps[i]? = some p) => hk p (List.mem_of_getElem? h))
  have HN := Lib.hid (fun (i : Nat) (p : Part) (h : ps[i]? = some p) => catP_next h)
  have HL := Lib.hid (fun i => Nat.le_trans (catP_le ps i) hl)
  clear hc hr hk
  go_enter Try.func40, Try.ntmps40
  go_wp2
  go_loopw [3, 11] (fun vs vi W => ∃ i : Nat, vi = .int .i64 (i : Int) ∧ i ≤ ps.length ∧ vs = .int .i64 ((catP (ps.take i)).length : Int) ∧ W = w) (fun _ vi _ => ps.length - (intOf vi).toNat)
  case atStart => exact ⟨0, rfl, Nat.zero_le _, rfl, rfl⟩
  case round =>
    obtain ⟨i, rfl, hi, rfl, hw⟩ := hrel
    obtain rfl := hw.symm
    by_cases hlt : i < ps.length
    · obtain ⟨p, hp⟩ : ∃ p, ps[i]? = some p := ⟨ps[i], by simp [hlt]⟩
      have k0 := HC.out i p hp w (Below.refl _ _)
      have e1 := HL.out (i + 1)
      have hn := HN.out i p hp
      rw [hn, List.length_append] at e1
      have HNN := Lib.hid (show ((catP (ps.take (i + 1))).length : Int) = ((catP (ps.take i)).length : Int) + (p.l.length : Int) by rw [hn, List.length_append]; omega)
      clear hn hp
      generalize (catP (ps.take i)).length = N at *
      go_wp2
      go_roundw
      case rel => exact ⟨i + 1, by go_num, hlt, by rw [HNN.out], by trivial⟩
      case measure => simp [intOf]; omega
    · have hall := catP_all (ps := ps) (i := i) (by omega)
      rw [hall]
      have HLL := Lib.hid hl
      have hl2 : (catP ps).length ≤ 3000 := by omega
      clear hall
      go_wp2_with (go_at_call 75; refine (growStake _ _ hl2).mono ?_; rintro e y ⟨vy, rfl, hy⟩; have HY := Lib.hid hy; clear hy)
      go_loopw [6, 27] (fun vo vi W => ∃ i : Nat, vi = .int .i64 (i : Int) ∧ i ≤ ps.length ∧ SetSt w.heap.size w 45 3 (catP (ps.take i)) vo W) (fun _ vi _ => ps.length - (intOf vi).toNat)
      case atStart => exact ⟨0, rfl, Nat.zero_le _, HY.out⟩
      case round =>
        clear HY
        obtain ⟨j, rfl, hj, hst⟩ := hrel
        have HS := Lib.hid hst
        clear hst
        by_cases hlt : j < ps.length
        · obtain ⟨p, hp⟩ : ∃ p, ps[j]? = some p := ⟨ps[j], by simp [hlt]⟩
          have k0 := HC.out j p hp _ HS.out.lo
          have e1 := HL.out (j + 1)
          have hn := HN.out j p hp
          rw [hn, List.length_append] at e1
          obtain ⟨v', w', hap, hown, hgr⟩ := app_part (P := Try.prog) Try.underlying23 hi0 hz0 hz1 hz2 (by decide) (by decide) 23 HS.out.row HS.out.sz (c := p.c) (HR.out j p hp _ HS.out.lo) (HK.out j p hp) (by unfold maxLen; omega) (by omega)
          have HNX := Lib.hid (show SetSt w.heap.size w 45 3 (catP (ps.take (j + 1))) v' w' by rw [hn]; exact HS.out.appG hown hgr)
          clear hn hp hown hgr
          go_wp2_with (at_builtin; refine Lib.wpList_append_run _ rfl _ _ _ _ rfl _ _ rfl rfl _ _ hap ?_)
          go_roundw
          case rel => exact ⟨j + 1, by go_num, hlt, HNX.out⟩
          case measure => simp [intOf]; omega
        · have HE := Lib.hid (show SetSt w.heap.size w 45 3 (catP ps) _ _ by have h := HS.out; rw [catP_all (by omega)] at h; exact h)
          go_wp2
          go_ret
          exact ⟨_, rfl, HE.out⟩

set_option maxRecDepth 100000 in
set_option maxHeartbeats 4000000 in
theorem growOpen (n : Nat) (w : World) (hn : n ≤ 3000) : Calls Try.prog 76 #[.slice none 0 0, .int .i64 (n : Int)] w fun e w' => ∃ v, e = .returned v ∧ SetSt w.heap.size w 37 6 [] v w' := by
  by_cases h0 : n = 0
  · subst h0
    go_enter Try.func76, Try.ntmps76
    go_wp2
    go_ret
    exact ⟨_, rfl, SetSt.nil (Nat.le_refl _)⟩
  · obtain ⟨i0, hi0, hz0, hz1, hz2⟩ := info_parts infoO
    have hap := Lib.run_append_nil_zeros (P := Try.prog) w 24 3 24 37 i0 _ .i64 .i64 Try.underlying24 Try.underlying3 hi0 hz0 n (by omega) (by rw [hz1]; decide) (by omega) (by rw [hz2]; omega)
    have hC1 := grownCap_ge w n 0 37
    have hC2 := grownCap_le_maxLen w n 0 37 (by unfold maxLen; omega)
    have hcs : (Builtin.zeroCells (Value.agg #[.int .i64 0, .int .i64 0, .int .i64 0, .int .i64 0, .int .i64 0, .int .i64 0]).cells n ++ Builtin.zeroCells (Value.agg #[.int .i64 0, .int .i64 0, .int .i64 0, .int .i64 0, .int .i64 0, .int .i64 0]).cells (grownCap w n 0 37 - n)).size = grownCap w n 0 37 * 6 := by
      rw [Array.size_append, size_zeroCells, size_zeroCells, show (Value.agg #[.int .i64 0, .int .i64 0, .int .i64 0, .int .i64 0, .int .i64 0, .int .i64 0]).cells.size = 6 from rfl]; omega
    generalize grownCap w n 0 37 = C at *
    generalize (Builtin.zeroCells (Value.agg #[.int .i64 0, .int .i64 0, .int .i64 0, .int .i64 0, .int .i64 0, .int .i64 0]).cells n ++ Builtin.zeroCells (Value.agg #[.int .i64 0, .int .i64 0, .int .i64 0, .int .i64 0, .int .i64 0, .int .i64 0]).cells (C - n)) = CU at *
    have hS := Lib.hid (show SetSt w.heap.size w 37 6 [] (.slice (some ⟨w.heap.size, 0, none⟩) 0 C) (w.drew.alloc (.cells CU 37)) from
      ⟨by have h := World.ownsRow_made (base := w.heap.size) (size := 6) (e := 37) w.drew CU C (Nat.le_refl _) hC2 hcs; simpa [flatI] using h, (below_drewN' (Below.refl _ w) 1).alloc (Nat.le_refl _) _, by simp⟩)
    have hC0 : ¬ C = 0 := by omega
    clear hcs hC1 hC2
    go_enter Try.func76, Try.ntmps76
    go_wp2_with (at_builtin; refine Lib.wpList_append_run _ rfl _ _ _ _ rfl _ _ rfl rfl _ _ hap ?_)
    go_ret
    exact ⟨_, rfl, hS.out⟩
set_option maxRecDepth 100000 in
set_option maxHeartbeats 8000000 in
theorem concatOpen (g c0 : Nat) (ps : List Part) (w : World) (hg : g < w.heap.size) (hc : ∀ (i : Nat) (p : Part), ps[i]? = some p → w.cell? ⟨g, i, none⟩ = some (.slice p.a p.l.length p.c)) (hr : ∀ p ∈ ps, RowsOf 6 w p.a p.l) (hk : ∀ p ∈ ps, ∀ x ∈ p.l, x.length = 6) (hl : (catP ps).length ≤ 1500) (hps : ps.length ≤ 10) :
    Calls Try.prog 41 #[.slice (some ⟨g, 0, none⟩) ps.length c0] w fun e w' => ∃ v, e = .returned v ∧ SetSt w.heap.size w 37 6 (catP ps) v w' := by
  obtain ⟨i0, hi0, hz0, hz1, hz2⟩ := info_parts infoO
  have HC := Lib.hid (fun (i : Nat) (p : Part) (h : ps[i]? = some p) (W : World) (hb : Below w.heap.size w W) => (hb.cell (p := ⟨g, i, none⟩) hg).trans (hc i p h))
  have HR := Lib.hid (fun (i : Nat) (p : Part) (h : ps[i]? = some p) (W : World) (hb : Below w.heap.size w W) => (hr p (List.mem_of_getElem? h)).below hb)
  have HK := Lib.hid (fun (i : Nat) (p : Part) (h : ps[i]? = some p) => hk p (List.mem_of_getElem? h))
  have HN := Lib.hid (fun (i : Nat) (p : Part) (h : ps[i]? = some p) => catP_next h)
  have HL := Lib.hid (fun i => Nat.le_trans (catP_le ps i) hl)
  clear hc hr hk
  go_enter Try.func41, Try.ntmps41
  go_wp2
  go_loopw [3, 11] (fun vs vi W => ∃ i : Nat, vi = .int .i64 (i : Int) ∧ i ≤ ps.length ∧ vs = .int .i64 ((catP (ps.take i)).length : Int) ∧ W = w) (fun _ vi _ => ps.length - (intOf vi).toNat)
  case atStart => exact ⟨0, rfl, Nat.zero_le _, rfl, rfl⟩
  case round =>
    obtain ⟨i, rfl, hi, rfl, hw⟩ := hrel
    obtain rfl := hw.symm
    by_cases hlt : i < ps.length
    · obtain ⟨p, hp⟩ : ∃ p, ps[i]? = some p := ⟨ps[i], by simp [hlt]⟩
      have k0 := HC.out i p hp w (Below.refl _ _)
      have e1 := HL.out (i + 1)
      have hn := HN.out i p hp
      rw [hn, List.length_append] at e1
      have HNN := Lib.hid (show ((catP (ps.take (i + 1))).length : Int) = ((catP (ps.take i)).length : Int) + (p.l.length : Int) by rw [hn, List.length_append]; omega)
      clear hn hp
      generalize (catP (ps.take i)).length = N at *
      go_wp2
      go_roundw
      case rel => exact ⟨i + 1, by go_num, hlt, by rw [HNN.out], by trivial⟩
      case measure => simp [intOf]; omega
    · have hall := catP_all (ps := ps) (i := i) (by omega)
      rw [hall]
      have HLL := Lib.hid hl
      have hl2 : (catP ps).length ≤ 3000 := by omega
      clear hall
      go_wp2_with (go_at_call 76; refine (growOpen _ _ hl2).mono ?_; rintro e y ⟨vy, rfl, hy⟩; have HY := Lib.hid hy; clear hy)
      go_loopw [6, 27] (fun vo vi W => ∃ i : Nat, vi = .int .i64 (i : Int) ∧ i ≤ ps.length ∧ SetSt w.heap.size w 37 6 (catP (ps.take i)) vo W) (fun _ vi _ => ps.length - (intOf vi).toNat)
      case atStart => exact ⟨0, rfl, Nat.zero_le _, HY.out⟩
      case round =>
        clear HY
        obtain ⟨j, rfl, hj, hst⟩ := hrel
        have HS := Lib.hid hst
        clear hst
        by_cases hlt : j < ps.length
        · obtain ⟨p, hp⟩ : ∃ p, ps[j]? = some p := ⟨ps[j], by simp [hlt]⟩
          have k0 := HC.out j p hp _ HS.out.lo
          have e1 := HL.out (j + 1)
          have hn := HN.out j p hp
          rw [hn, List.length_append] at e1
          obtain ⟨v', w', hap, hown, hgr⟩ := app_part (P := Try.prog) Try.underlying24 hi0 hz0 hz1 hz2 (by decide) (by decide) 24 HS.out.row HS.out.sz (c := p.c) (HR.out j p hp _ HS.out.lo) (HK.out j p hp) (by unfold maxLen; omega) (by omega)
          have HNX := Lib.hid (show SetSt w.heap.size w 37 6 (catP (ps.take (j + 1))) v' w' by rw [hn]; exact HS.out.appG hown hgr)
          clear hn hp hown hgr
          go_wp2_with (at_builtin; refine Lib.wpList_append_run _ rfl _ _ _ _ rfl _ _ rfl rfl _ _ hap ?_)
          go_roundw
          case rel => exact ⟨j + 1, by go_num, hlt, HNX.out⟩
          case measure => simp [intOf]; omega
        · have HE := Lib.hid (show SetSt w.heap.size w 37 6 (catP ps) _ _ by have h := HS.out; rw [catP_all (by omega)] at h; exact h)
          go_wp2
          go_ret
          exact ⟨_, rfl, HE.out⟩

set_option maxRecDepth 100000 in
set_option maxHeartbeats 4000000 in
theorem growRate (n : Nat) (w : World) (hn : n ≤ 3000) : Calls Try.prog 77 #[.slice none 0 0, .int .i64 (n : Int)] w fun e w' => ∃ v, e = .returned v ∧ SetSt w.heap.size w 47 2 [] v w' := by
  by_cases h0 : n = 0
  · subst h0
    go_enter Try.func77, Try.ntmps77
    go_wp2
    go_ret
    exact ⟨_, rfl, SetSt.nil (Nat.le_refl _)⟩
  · obtain ⟨i0, hi0, hz0, hz1, hz2⟩ := info_parts infoR
    have hap := Lib.run_append_nil_zeros (P := Try.prog) w 25 3 25 47 i0 _ .i64 .i64 Try.underlying25 Try.underlying3 hi0 hz0 n (by omega) (by rw [hz1]; decide) (by omega) (by rw [hz2]; omega)
    have hC1 := grownCap_ge w n 0 47
    have hC2 := grownCap_le_maxLen w n 0 47 (by unfold maxLen; omega)
    have hcs : (Builtin.zeroCells (Value.agg #[.int .i64 0, .int .i64 0]).cells n ++ Builtin.zeroCells (Value.agg #[.int .i64 0, .int .i64 0]).cells (grownCap w n 0 47 - n)).size = grownCap w n 0 47 * 2 := by
      rw [Array.size_append, size_zeroCells, size_zeroCells, show (Value.agg #[.int .i64 0, .int .i64 0]).cells.size = 2 from rfl]; omega
    generalize grownCap w n 0 47 = C at *
    generalize (Builtin.zeroCells (Value.agg #[.int .i64 0, .int .i64 0]).cells n ++ Builtin.zeroCells (Value.agg #[.int .i64 0, .int .i64 0]).cells (C - n)) = CU at *
    have hS := Lib.hid (show SetSt w.heap.size w 47 2 [] (.slice (some ⟨w.heap.size, 0, none⟩) 0 C) (w.drew.alloc (.cells CU 47)) from
      ⟨by have h := World.ownsRow_made (base := w.heap.size) (size := 2) (e := 47) w.drew CU C (Nat.le_refl _) hC2 hcs; simpa [flatI] using h, (below_drewN' (Below.refl _ w) 1).alloc (Nat.le_refl _) _, by simp⟩)
    have hC0 : ¬ C = 0 := by omega
    clear hcs hC1 hC2
    go_enter Try.func77, Try.ntmps77
    go_wp2_with (at_builtin; refine Lib.wpList_append_run _ rfl _ _ _ _ rfl _ _ rfl rfl _ _ hap ?_)
    go_ret
    exact ⟨_, rfl, hS.out⟩
set_option maxRecDepth 100000 in
set_option maxHeartbeats 8000000 in
theorem concatRate (g c0 : Nat) (ps : List Part) (w : World) (hg : g < w.heap.size) (hc : ∀ (i : Nat) (p : Part), ps[i]? = some p → w.cell? ⟨g, i, none⟩ = some (.slice p.a p.l.length p.c)) (hr : ∀ p ∈ ps, RowsOf 2 w p.a p.l) (hk : ∀ p ∈ ps, ∀ x ∈ p.l, x.length = 2) (hl : (catP ps).length ≤ 1500) (hps : ps.length ≤ 10) :
    Calls Try.prog 42 #[.slice (some ⟨g, 0, none⟩) ps.length c0] w fun e w' => ∃ v, e = .returned v ∧ SetSt w.heap.size w 47 2 (catP ps) v w' := by
  obtain ⟨i0, hi0, hz0, hz1, hz2⟩ := info_parts infoR
  have HC := Lib.hid (fun (i : Nat) (p : Part) (h : ps[i]? = some p) (W : World) (hb : Below w.heap.size w W) => (hb.cell (p := ⟨g, i, none⟩) hg).trans (hc i p h))
  have HR := Lib.hid (fun (i : Nat) (p : Part) (h : ps[i]? = some p) (W : World) (hb : Below w.heap.size w W) => (hr p (List.mem_of_getElem? h)).below hb)
  have HK := Lib.hid (fun (i : Nat) (p : Part) (h : ps[i]? = some p) => hk p (List.mem_of_getElem? h))
  have HN := Lib.hid (fun (i : Nat) (p : Part) (h : ps[i]? = some p) => catP_next h)
  have HL := Lib.hid (fun i => Nat.le_trans (catP_le ps i) hl)
  clear hc hr hk
  go_enter Try.func42, Try.ntmps42
  go_wp2
  go_loopw [3, 11] (fun vs vi W => ∃ i : Nat, vi = .int .i64 (i : Int) ∧ i ≤ ps.length ∧ vs = .int .i64 ((catP (ps.take i)).length : Int) ∧ W = w) (fun _ vi _ => ps.length - (intOf vi).toNat)
  case atStart => exact ⟨0, rfl, Nat.zero_le _, rfl, rfl⟩
  case round =>
    obtain ⟨i, rfl, hi, rfl, hw⟩ := hrel
    obtain rfl := hw.symm
    by_cases hlt : i < ps.length
    · obtain ⟨p, hp⟩ : ∃ p, ps[i]? = some p := ⟨ps[i], by simp [hlt]⟩
      have k0 := HC.out i p hp w (Below.refl _ _)
      have e1 := HL.out (i + 1)
      have hn := HN.out i p hp
      rw [hn, List.length_append] at e1
      have HNN := Lib.hid (show ((catP (ps.take (i + 1))).length : Int) = ((catP (ps.take i)).length : Int) + (p.l.length : Int) by rw [hn, List.length_append]; omega)
      clear hn hp
      generalize (catP (ps.take i)).length = N at *
      go_wp2
      go_roundw
      case rel => exact ⟨i + 1, by go_num, hlt, by rw [HNN.out], by trivial⟩
      case measure => simp [intOf]; omega
    · have hall := catP_all (ps := ps) (i := i) (by omega)
      rw [hall]
      have HLL := Lib.hid hl
      have hl2 : (catP ps).length ≤ 3000 := by omega
      clear hall
      go_wp2_with (go_at_call 77; refine (growRate _ _ hl2).mono ?_; rintro e y ⟨vy, rfl, hy⟩; have HY := Lib.hid hy; clear hy)
      go_loopw [6, 27] (fun vo vi W => ∃ i : Nat, vi = .int .i64 (i : Int) ∧ i ≤ ps.length ∧ SetSt w.heap.size w 47 2 (catP (ps.take i)) vo W) (fun _ vi _ => ps.length - (intOf vi).toNat)
      case atStart => exact ⟨0, rfl, Nat.zero_le _, HY.out⟩
      case round =>
        clear HY
        obtain ⟨j, rfl, hj, hst⟩ := hrel
        have HS := Lib.hid hst
        clear hst
        by_cases hlt : j < ps.length
        · obtain ⟨p, hp⟩ : ∃ p, ps[j]? = some p := ⟨ps[j], by simp [hlt]⟩
          have k0 := HC.out j p hp _ HS.out.lo
          have e1 := HL.out (j + 1)
          have hn := HN.out j p hp
          rw [hn, List.length_append] at e1
          obtain ⟨v', w', hap, hown, hgr⟩ := app_part (P := Try.prog) Try.underlying25 hi0 hz0 hz1 hz2 (by decide) (by decide) 25 HS.out.row HS.out.sz (c := p.c) (HR.out j p hp _ HS.out.lo) (HK.out j p hp) (by unfold maxLen; omega) (by omega)
          have HNX := Lib.hid (show SetSt w.heap.size w 47 2 (catP (ps.take (j + 1))) v' w' by rw [hn]; exact HS.out.appG hown hgr)
          clear hn hp hown hgr
          go_wp2_with (at_builtin; refine Lib.wpList_append_run _ rfl _ _ _ _ rfl _ _ rfl rfl _ _ hap ?_)
          go_roundw
          case rel => exact ⟨j + 1, by go_num, hlt, HNX.out⟩
          case measure => simp [intOf]; omega
        · have HE := Lib.hid (show SetSt w.heap.size w 47 2 (catP ps) _ _ by have h := HS.out; rw [catP_all (by omega)] at h; exact h)
          go_wp2
          go_ret
          exact ⟨_, rfl, HE.out⟩
end Go.Proofs.Ytofmkbijhmbbcaa

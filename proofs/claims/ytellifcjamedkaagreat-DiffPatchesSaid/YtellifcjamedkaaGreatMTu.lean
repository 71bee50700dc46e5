/- The library's Grow, Concat of numbers: contracts. Turn: the program's contract. -/
import Derived.Test.YtellifcjamedkaaGreatMRe
import Derived.Test.YtellifcjamedkaaGreatMRa
import Derived.Lib.AppendZeros
import Derived.Test.YtellifcjamedkaaGreatMMa
import Derived.Test.YtellifcjamedkaaGreatMAm
namespace Go.Proofs.YtellifcjamedkaaGreat
open Go.RowKit Base Base2
theorem flat_lenC {k : Nat} : ∀ {l : List Item}, (∀ x ∈ l, x.length = k) → (flatI l).length = l.length * k
  | [], _ => by simp [flatI]
  | y :: l, h => by
    have ih := flat_lenC (l := l) (fun x hx => h x (List.mem_cons_of_mem _ hx))
    show (y.map (Value.int .i64) ++ flatI l).length = _
    rw [List.length_append, ih, List.length_map, h y (List.mem_cons_self ..), List.length_cons, Nat.add_mul]; omega
theorem flat_oneC {l : List Item} : ∀ u ∈ flatI l, u.oneCell' = true := by
  intro u hu
  unfold flatI at hu
  obtain ⟨y, hy, hu⟩ := List.mem_flatten.1 hu
  obtain ⟨x, _, rfl⟩ := List.mem_map.1 hy
  exact one_items x u hu
theorem flat_cellsC {k b : Nat} {W : World} : ∀ (l : List Item) (off : Nat), (∀ x ∈ l, x.length = k) → (∀ (i : Nat) (x : Item), l[i]? = some x → ∀ (j : Nat) (z : Int), x[j]? = some z → W.cell? ⟨b, off + i * k + j, none⟩ = some (.int .i64 z)) → ∀ (m : Nat) (u : Value), (flatI l)[m]? = some u → W.cell? ⟨b, off + m, none⟩ = some u
  | [], _, _, _, m, u, hu => by simp [flatI] at hu
  | y :: l, off, hk, h, m, u, hu => by
    have hy := hk y (List.mem_cons_self ..)
    have hu : (y.map (Value.int .i64) ++ flatI l)[m]? = some u := hu
    by_cases hm : m < k
    · rw [List.getElem?_append_left (by simpa [hy] using hm), List.getElem?_map] at hu
      obtain ⟨z, hz, rfl⟩ := Option.map_eq_some_iff.1 hu
      have := h 0 y rfl m z hz
      rwa [Nat.zero_mul, Nat.add_zero] at this
    · rw [List.getElem?_append_right (by simpa [hy] using hm), List.length_map, hy] at hu
      have := flat_cellsC l (off + k) (fun x hx => hk x (List.mem_cons_of_mem _ hx)) (fun i x hi j z hz => by
        have := h (i + 1) x (by simpa using hi) j z hz
        rw [Nat.add_mul, Nat.one_mul] at this
        rwa [show off + k + i * k + j = off + (i * k + k) + j by omega]) (m - k) u hu
      rwa [show off + k + (m - k) = off + m by omega] at this
theorem append_noneC {P : Program} {w : World} (base c : Nat) (t ty e : TypeId) (i : TypeInfo) (size : Nat) (ht : P.underlying t = some (.slice e)) (hi : P.info? e = some i) (v : Value) (n : Nat) (xs : List Value) (hown : w.ownsRow base e size v n xs) :
    (Builtin.append_ #[t, t] ty #[v, .slice none 0 c]).run P w = .ok v w := by
  rcases hown.2 with ⟨rfl, rfl⟩ | ⟨g, cap, cur, rfl, _, _, hnc, _⟩
  · simp [Builtin.append_, run_underlying ht, sizeOf, typeInfo, hi, Builtin.lenOf, Builtin.firstCells]
  · simp [Builtin.append_, run_underlying ht, sizeOf, typeInfo, hi, Builtin.lenOf, Builtin.firstCells, hnc, storeCells]
theorem grown_reflC (w : World) (r : Option Nat) : w.grownBy w r := ⟨rfl, rfl, rfl, Nat.le_refl _, fun _ _ _ => rfl⟩
/-- A row of things put behind a row that is being made. -/
theorem app_partC {P : Program} {T E : TypeId} {i0 : TypeInfo} {z0 : Value} {k bytes : Nat} (hT : P.underlying T = some (.slice E)) (hi : P.info? E = some i0) (hz : i0.zero = some z0) (hs : i0.size = k) (hb : i0.bytes = bytes) (hzs : z0.cells.size = k) (hk0 : 0 < k) (ty : TypeId)
    {B : Nat} {W : World} {v : Value} {n : Nat} {xs : List Value} (hown : W.ownsRow B E k v n xs) (hB : B ≤ W.heap.size) {a : Option Addr} {c : Nat} {l : List Item} (hr : RowsOf k W a l) (hk : ∀ x ∈ l, x.length = k)
    (h63 : n + l.length ≤ maxLen) (hby : (n + l.length) * bytes ≤ 140737488355328) :
    ∃ v' w', (Builtin.append_ #[T, T] ty #[v, .slice a l.length c]).run P W = .ok v' w' ∧ w'.ownsRow B E k v' (n + l.length) (xs ++ flatI l) ∧ W.grownBy w' v.ownBlock := by
  cases a with
  | none =>
    have hl : l = [] := by
      rcases hr with h | ⟨b, off, h, _⟩
      · exact h
      · cases h
    subst hl
    exact ⟨v, W, append_noneC B c T ty E i0 k hT hi v n xs hown, by simpa [flatI] using hown, grown_reflC _ _⟩
  | some ad =>
    obtain ⟨v', w', h1, h2, h3, _⟩ := run_append_own (P := P) (w := W) B T ty E i0 z0 k bytes hT hi hz hs hb hzs hk0 v n xs hown ad l.length c (flatI l) (flat_lenC hk) (fun j u hu => by
      rcases hr with rfl | ⟨b, off, hab, _, h⟩
      · simp [flatI] at hu
      · obtain rfl : ad = ⟨b, off, none⟩ := by simpa using hab
        rw [Addr.add_mid]
        exact flat_cellsC l off hk h j u hu) flat_oneC h63 hby hB
    exact ⟨v', w', h1, h2, h3⟩
theorem SetSt.appG {B : Nat} {W0 : World} {T : TypeId} {k : Nat} {o l : List Item} {v v' : Value} {W w2 : World} (h : SetSt B W0 T k o v W) (hr : w2.ownsRow B T k v' (o.length + l.length) (flatI o ++ flatI l)) (hg : W.grownBy w2 v.ownBlock) : SetSt B W0 T k (o ++ l) v' w2 :=
  ⟨by rw [flatI_app, List.length_append]; exact hr, h.lo.grown hg h.sz (own_block_ge h.row), Nat.le_trans h.sz hg.size⟩
/-- Rows that are put one behind the other. -/
structure Part where
  a : Option Addr
  c : Nat
  l : List Item
def catP (ps : List Part) : List Item := (ps.map Part.l).flatten
theorem catP_next {ps : List Part} {i : Nat} {p : Part} (h : ps[i]? = some p) : catP (ps.take (i + 1)) = catP (ps.take i) ++ p.l := by
  unfold catP
  rw [List.take_add_one, h]; simp
theorem catP_all {ps : List Part} {i : Nat} (h : ps.length ≤ i) : catP (ps.take i) = catP ps := by rw [List.take_of_length_le h]
theorem catP_le (ps : List Part) (i : Nat) : (catP (ps.take i)).length ≤ (catP ps).length := by
  have h : catP ps = catP (ps.take i) ++ catP (ps.drop i) := by
    unfold catP
    rw [← List.flatten_append, ← List.map_append, List.take_append_drop]
  rw [h, List.length_append]; omega
theorem infoI64C : (Tryz.prog.info? 2).map (fun i => (i.zero, i.size, i.bytes)) = some (some (.int .i64 0), 1, 8) := by kernel_rfl
set_option maxRecDepth 100000 in
set_option maxHeartbeats 4000000 in
theorem growI64 (n : Nat) (w : World) (hn : n ≤ 3000) : Calls Tryz.prog 58 #[.slice none 0 0, .int .i64 (n : Int)] w fun e w' => ∃ v, e = .returned v ∧ SetSt w.heap.size w 2 1 [] v w' := by
  by_cases h0 : n = 0
  · subst h0
    go_enter Tryz.func58, Tryz.ntmps58
    go_wp2
    go_ret
    exact ⟨_, rfl, SetSt.nil (Nat.le_refl _)⟩
  · obtain ⟨i0, hi0, hz0, hz1, hz2⟩ := info_parts infoI64C
    have hap := Lib.run_append_nil_zeros (P := Tryz.prog) w 41 3 41 2 i0 _ .i64 .i64 Tryz.underlying41 Tryz.underlying3 hi0 hz0 n (by omega) (by rw [hz1]; decide) (by omega) (by rw [hz2]; omega)
    have hC1 := grownCap_ge w n 0 2
    have hC2 := grownCap_le_maxLen w n 0 2 (by unfold maxLen; omega)
    have hcs : (Builtin.zeroCells (Value.int .i64 0).cells n ++ Builtin.zeroCells (Value.int .i64 0).cells (grownCap w n 0 2 - n)).size = grownCap w n 0 2 * 1 := by
      rw [Array.size_append, size_zeroCells, size_zeroCells, show (Value.int .i64 0).cells.size = 1 from rfl]; omega
    generalize grownCap w n 0 2 = C at *
    generalize (Builtin.zeroCells (Value.int .i64 0).cells n ++ Builtin.zeroCells (Value.int .i64 0).cells (C - n)) = CU at *
    have hS := Lib.hid (show SetSt w.heap.size w 2 1 [] (.slice (some ⟨w.heap.size, 0, none⟩) 0 C) (w.drew.alloc (.cells CU 2)) from
      ⟨by have h := World.ownsRow_made (base := w.heap.size) (size := 1) (e := 2) w.drew CU C (Nat.le_refl _) hC2 hcs; simpa [flatI] using h, (below_drewN' (Below.refl _ w) 1).alloc (Nat.le_refl _) _, by simp⟩)
    have hC0 : ¬ C = 0 := by omega
    clear hcs hC1 hC2
    go_enter Tryz.func58, Tryz.ntmps58
    go_wp2_with (at_builtin; refine Lib.wpList_append_run _ rfl _ _ _ _ rfl _ _ rfl rfl _ _ hap ?_)
    go_ret
    exact ⟨_, rfl, hS.out⟩
set_option maxRecDepth 100000 in
set_option maxHeartbeats 8000000 in
theorem concatI64 (g c0 : Nat) (ps : List Part) (w : World) (hg : g < w.heap.size) (hc : ∀ (i : Nat) (p : Part), ps[i]? = some p → w.cell? ⟨g, i, none⟩ = some (.slice p.a p.l.length p.c)) (hr : ∀ p ∈ ps, RowsOf 1 w p.a p.l) (hk : ∀ p ∈ ps, ∀ x ∈ p.l, x.length = 1) (hl : (catP ps).length ≤ 1500) (hps : ps.length ≤ 10) :
    Calls Tryz.prog 25 #[.slice (some ⟨g, 0, none⟩) ps.length c0] w fun e w' => ∃ v, e = .returned v ∧ SetSt w.heap.size w 2 1 (catP ps) v w' := by
  obtain ⟨i0, hi0, hz0, hz1, hz2⟩ := info_parts infoI64C
  have HC := Lib.hid (fun (i : Nat) (p : Part) (h : ps[i]? = some p) (W : World) (hb : Below w.heap.size w W) => (hb.cell (p := ⟨g, i, none⟩) hg).trans (hc i p h))
  have HR := Lib.hid (fun (i : Nat) (p : Part) (h : ps[i]? = some p) (W : World) (hb : Below w.heap.size w W) => (hr p (List.mem_of_getElem? h)).below hb)
  have HK := Lib.hid (fun (i : Nat) (p : Part) (h : ps[i]? = some p) => hk p (List.mem_of_getElem? h))
  have HN := Lib.hid (fun (i : Nat) (p : Part) (h : ps[i]? = some p) => catP_next h)
  have HL := Lib.hid (fun i => Nat.le_trans (catP_le ps i) hl)
  clear hc hr hk
  go_enter Tryz.func25, Tryz.ntmps25
  go_wp2
  go_loopw [3, 11] (fun vs vi W => ∃ i : Nat, vi = .int .i64 (i : Int) ∧ i ≤ ps.length ∧ vs = .int .i64 ((catP (ps.take i)).length : Int) ∧ W = w) (fun _ vi _ => ps.length - (intOf vi).toNat)
  case atStart => exact ⟨0, rfl, Nat.zero_le _, rfl, rfl⟩
  case round =>
    obtain ⟨i, rfl, hi, rfl, hw⟩ := hrel
    obtain rfl := hw.symm
    by_cases hlt : i < ps.length
    · obtain ⟨p, hp⟩ : ∃ p, ps[i]? = some p := ⟨ps[i], by simp [hlt]⟩
      have k0 := HC.out i p hp w (Below.refl _ _)
      have e1 := HL.out (i + 1)
      have hn := HN.out i p hp
      rw [hn, List.length_append] at e1
      have HNN := Lib.hid (show ((catP (ps.take (i + 1))).length : Int) = ((catP (ps.take i)).length : Int) + (p.l.length : Int) by rw [hn, List.length_append]; omega)
      clear hn hp
      generalize (catP (ps.take i)).length = N at *
      go_wp2
      go_roundw
      case rel => exact ⟨i + 1, by go_num, hlt, by rw [HNN.out], by trivial⟩
      case measure => simp [intOf]; omega
    · have hall := catP_all (ps := ps) (i := i) (by omega)
      rw [hall]
      have HLL := Lib.hid hl
      have hl2 : (catP ps).length ≤ 3000 := by omega
      clear hall
      go_wp2_with (go_at_call 58; refine (growI64 _ _ hl2).mono ?_; rintro e y ⟨vy, rfl, hy⟩; have HY := Lib.hid hy; clear hy)
      go_loopw [6, 27] (fun vo vi W => ∃ i : Nat, vi = .int .i64 (i : Int) ∧ i ≤ ps.length ∧ SetSt w.heap.size w 2 1 (catP (ps.take i)) vo W) (fun _ vi _ => ps.length - (intOf vi).toNat)
      case atStart => exact ⟨0, rfl, Nat.zero_le _, HY.out⟩
      case round =>
        clear HY
        obtain ⟨j, rfl, hj, hst⟩ := hrel
        have HS := Lib.hid hst
        clear hst
        by_cases hlt : j < ps.length
        · obtain ⟨p, hp⟩ : ∃ p, ps[j]? = some p := ⟨ps[j], by simp [hlt]⟩
          have k0 := HC.out j p hp _ HS.out.lo
          have e1 := HL.out (j + 1)
          have hn := HN.out j p hp
          rw [hn, List.length_append] at e1
          obtain ⟨v', w', hap, hown, hgr⟩ := app_partC (P := Tryz.prog) Tryz.underlying41 hi0 hz0 hz1 hz2 (by decide) (by decide) 41 HS.out.row HS.out.sz (c := p.c) (HR.out j p hp _ HS.out.lo) (HK.out j p hp) (by unfold maxLen; omega) (by omega)
          have HNX := Lib.hid (show SetSt w.heap.size w 2 1 (catP (ps.take (j + 1))) v' w' by rw [hn]; exact HS.out.appG hown hgr)
          clear hn hp hown hgr
          go_wp2_with (at_builtin; refine Lib.wpList_append_run _ rfl _ _ _ _ rfl _ _ rfl rfl _ _ hap ?_)
          go_roundw
          case rel => exact ⟨j + 1, by go_num, hlt, HNX.out⟩
          case measure => simp [intOf]; omega
        · have HE := Lib.hid (show SetSt w.heap.size w 2 1 (catP ps) _ _ by have h := HS.out; rw [catP_all (by omega)] at h; exact h)
          go_wp2
          go_ret
          exact ⟨_, rfl, HE.out⟩
theorem flat_single : ∀ V : List Int, flatI (V.map (fun z => [z])) = V.map (Value.int .i64)
  | [] => rfl
  | z :: V => by
    show [z].map (Value.int .i64) ++ flatI (V.map (fun z => [z])) = _
    rw [flat_single V]; rfl
theorem I64s.rows {W : World} {a : Option Addr} {V : List Int} (h : I64s W a V) : RowsOf 1 W a (V.map (fun z => [z])) := by
  rcases h with h | ⟨k, off, h1, h2, h3⟩
  · subst h; exact .inl rfl
  · refine .inr ⟨k, off, h1, h2, fun i x hi j z hz => ?_⟩
    rw [List.getElem?_map] at hi
    obtain ⟨y, hy, rfl⟩ := Option.map_eq_some_iff.1 hi
    obtain ⟨rfl, rfl⟩ : j = 0 ∧ y = z := by
      cases j with
      | zero => exact ⟨rfl, by simpa using hz⟩
      | succ j => simp at hz
    rw [Nat.mul_one, Nat.add_zero]
    exact h3 i y hy
theorem val_own {W : World} {B : Nat} {v : Value} {V : List Int} (h : W.ownsRow B 2 1 v V.length (V.map (Value.int .i64))) : ∃ a c, v = .slice a V.length c ∧ ValAt W a V := by
  rcases h.2 with ⟨rfl, hn⟩ | ⟨g, cap, cur, rfl, _, hg, hc, _, hs, ht⟩
  · exact ⟨none, 0, by rw [hn], .inl (List.length_eq_zero_iff.1 hn)⟩
  · refine ⟨_, _, rfl, .inr ⟨g, 0, cur, rfl, hg, fun i z hi => ?_⟩⟩
    have h1 : (V.map (Value.int .i64))[i]? = some (.int .i64 z) := by rw [List.getElem?_map, hi]; rfl
    rw [← ht] at h1
    have h2 := (List.getElem?_eq_some_iff.1 h1).1
    rw [List.length_take] at h2
    rw [List.getElem?_take_of_lt (by omega)] at h1
    rw [Nat.zero_add]
    simpa using h1
theorem concatOne (g c0 : Nat) (A : Option Addr) (C : Nat) (V : List Int) (w : World) (hg : g < w.heap.size) (hc : w.cell? ⟨g, 0, none⟩ = some (.slice A V.length C)) (hV : I64s w A V) (hl : V.length ≤ 1500) :
    Calls Tryz.prog 25 #[.slice (some ⟨g, 0, none⟩) 1 c0] w fun e w' => ∃ a c, e = .returned (.slice a V.length c) ∧ ValAt w' a V ∧ Below w.heap.size w w' := by
  have hps : catP [⟨A, C, V.map (fun z => [z])⟩] = V.map (fun z => [z]) := by simp [catP]
  refine (concatI64 g c0 [⟨A, C, V.map (fun z => [z])⟩] w hg ?_ ?_ ?_ (by rw [hps, List.length_map]; exact hl) (by simp)).mono ?_
  · intro i p hp
    cases i with
    | zero => obtain rfl : _ = p := by simpa using hp
              rw [List.length_map]; exact hc
    | succ i => simp at hp
  · intro p hp
    obtain rfl := List.mem_singleton.1 hp
    exact hV.rows
  · intro p hp x hx
    obtain rfl := List.mem_singleton.1 hp
    obtain ⟨z, _, rfl⟩ := List.mem_map.1 hx
    rfl
  · rintro e w' ⟨v, rfl, hs⟩
    have hr := hs.row
    rw [hps, flat_single, List.length_map] at hr
    obtain ⟨a, c, rfl, hv⟩ := val_own hr
    exact ⟨a, c, rfl, hv, hs.lo⟩
end Go.Proofs.YtellifcjamedkaaGreat
namespace Go.Proofs.YtellifcjamedkaaGreat
open Go.RowKit Base Base2
open List renaming getElem_toArray → lgT, getElem_cons_zero → lgZ, getElem_cons_succ → lgS, setIfInBounds_toArray → lsT, set_cons_zero → lsZ, set_cons_succ → lsS
set_option maxRecDepth 100000 in
set_option maxHeartbeats 16000000 in
theorem turn14 (a : Option Addr) (p : Nat) (l : List ChV) (w : World) (h8 : l.length ≤ 20000) (hr : RowsK 59 5 w a (l.map ChV.cells)) (hv : ∀ x ∈ l, I64s w x.a1 x.c.was ∧ I64s w x.a2 x.c.now) (hl : ∀ x ∈ l, x.c.was.length ≤ 1500 ∧ x.c.now.length ≤ 1500) :
    Calls Tryz.prog 10 #[.slice a l.length p] w fun e w' => ∃ vo o, e = .returned vo ∧ CpS w.heap.size w o vo w' ∧ o.map ChV.c = turnT (l.map ChV.c) := by
  obtain ⟨i0, hi0, hz0, hz1, hz2⟩ := info_parts infoCp
  have HLD := Lib.hid (fun (i : Nat) (x : ChV) (hi : l[i]? = some x) => load_chR hr hi)
  have HV := Lib.hid hv
  have HLL := Lib.hid hl
  have HS0 := Lib.hid (CpS.nil (W0 := w) (Nat.le_refl w.heap.size))
  obtain ⟨n, hn⟩ : ∃ n, l.length = n := ⟨_, rfl⟩
  have HN := Lib.hid hn
  have HNX := Lib.hid (show ∀ i, i < n → ∃ x, l[i]? = some x from fun i h => ⟨l[i]'(by omega), by simp [show i < l.length by omega]⟩)
  rw [hn] at h8 ⊢
  clear hr hv hn hl
  go_enter Tryz.func10, Tryz.ntmps10
  go_wp2
  go_loopw [3, 8] (fun vo vi W => ∃ (i : Nat) (o : List ChV), vi = .int .i64 (i : Int) ∧ i ≤ n ∧ CpS w.heap.size w o vo W ∧ o.map ChV.c = turnT ((l.map ChV.c).take i)) (fun _ vi _ => n - (intOf vi).toNat)
  case atStart => exact ⟨0, [], rfl, Nat.zero_le _, HS0.out, by rw [List.take_zero]; rfl⟩
  case round =>
    clear HS0
    obtain ⟨i, o, rfl, hi, hs, hto⟩ := hrel
    have HS := Lib.hid hs
    have HTO := Lib.hid hto
    clear hs hto
    by_cases hlx : i < n
    · obtain ⟨x, hx⟩ := HNX.out i hlx
      obtain ⟨g, of, ha, hld⟩ := HLD.out i x hx
      subst ha
      have HLX := Lib.hid hld
      have HVX := Lib.hid (HV.out x (List.mem_of_getElem? hx))
      have HLN := Lib.hid (HLL.out x (List.mem_of_getElem? hx))
      have HTK := Lib.hid (take_oneC (rise_at hx))
      have hol : o.length = i := by have h := congrArg List.length HTO.out; unfold turnT at h; rw [List.length_map, List.length_map, List.length_take, List.length_map, HN.out] at h; omega
      clear hld hx
      obtain ⟨⟨xl, xa, xb, xv, yv⟩, A, C, B, D⟩ := x
      dsimp only [ChV.cells, List.toArray] at HLX
      dsimp only at HVX HLN HTK
      have b1 : o.length + 1 ≤ maxLen := by rw [hol]; unfold maxLen; omega
      have b2 : (o.length + 1) * 72 ≤ 140737488355328 := by rw [hol]; omega
      have HOL := Lib.hid hol
      clear hol
      obtain ⟨na, hna⟩ : ∃ na, xv.length = na := ⟨_, rfl⟩
      obtain ⟨nb, hnb⟩ : ∃ nb, yv.length = nb := ⟨_, rfl⟩
      have HNA := Lib.hid hna
      have HNB := Lib.hid hnb
      rw [hna, hnb] at HLX
      clear hna hnb
      go_upto_region 5 with (((with_reducible refine atLoad (ty := 59) (x := .tmp 10) rfl ?_); refine loadE (by rfl) 59 (.tmp 10) rfl _ (.agg #[.int .i64 xl, .int .i64 xa, .int .i64 xb, .slice A na C, .slice B nb D]) rfl (HLX.out _ HS.out.lo) ?_))
      refine at_world (Φ := fun W => W.heap[wr.heap.size]? = some (.cells #[.int .i64 xl, .int .i64 xa, .int .i64 xb, .slice A na C, .slice B nb D] 59 (0, 0)) ∧ CpS w.heap.size w o u3 W ∧ ∀ k, u3.ownBlock = some k → k < wr.heap.size) ⟨heap_alloc_new wr _, HS.out.below ((Below.refl _ _).alloc (Nat.le_refl _) _), fun k e => (HS.out.row.lt k e).2⟩ ?_
      clear HS
      rintro W9 ⟨hbox, hs9, hne⟩
      have HNE := Lib.hid hne
      clear hne
      generalize wr.heap.size = gb at *
      have HGB := Lib.hid (lt_of_blk hbox)
      have HS9 := Lib.hid hs9
      have HSD := Lib.hid (show CpS w.heap.size w o u3 W9.drew from hs9.below ((Below.refl _ _).drew))
      have HBX := Lib.hid (fun W (h : Below W9.heap.size W9 W) => (h.block _ (lt_of_blk hbox)).trans hbox)
      have HVA := Lib.hid (show I64s W9.drew A xv ∧ I64s W9.drew B yv from ⟨HVX.out.1.below HSD.out.lo, HVX.out.2.below HSD.out.lo⟩)
      have HSC := Lib.hid (show ∀ W, Below W9.heap.size W9 W → Below w.heap.size w W ∧ W.heap[gb]? = some (.cells #[.int .i64 xl, .int .i64 xa, .int .i64 xb, .slice A na C, .slice B nb D] 59 (0, 0)) from fun W h => ⟨hs9.lo.trans (h.mono hs9.sz), (h.block _ (lt_of_blk hbox)).trans hbox⟩)
      clear hs9 hbox
      have HNBC := Lib.hid (fun (g c0 : Nat) (W : World) (hg : g < W.heap.size) (hc : W.cell? ⟨g, 0, none⟩ = some (.slice B nb D)) (hw : Below w.heap.size w W) => show Calls Tryz.prog 25 #[.slice (some ⟨g, 0, none⟩) 1 c0] W fun e w' => ∃ a c, e = .returned (.slice a nb c) ∧ ValAt w' a yv ∧ Below W.heap.size W w' by
        have h := concatOne g c0 B D yv W hg (by rw [HNB.out]; exact hc) (HVX.out.2.below hw) HLN.out.2
        rw [HNB.out] at h
        exact h)
      have HNAC := Lib.hid (fun (g c0 : Nat) (W : World) (hg : g < W.heap.size) (hc : W.cell? ⟨g, 0, none⟩ = some (.slice A na C)) (hw : Below w.heap.size w W) => show Calls Tryz.prog 25 #[.slice (some ⟨g, 0, none⟩) 1 c0] W fun e w' => ∃ a c, e = .returned (.slice a na c) ∧ ValAt w' a xv ∧ Below W.heap.size W w' by
        have h := concatOne g c0 A C xv W hg (by rw [HNA.out]; exact hc) (HVX.out.1.below hw) HLN.out.1
        rw [HNA.out] at h
        exact h)
      have hC : Below W9.heap.size W9 W9.drew := (Below.refl _ _).drew
      refine wp_region_held_drew (S := fun W => Below w.heap.size w W ∧ W.heap[gb]? = some (.cells #[.int .i64 xl, .int .i64 xa, .int .i64 xb, .slice A na C, .slice B nb D] 59 (0, 0))) (by kernel_rfl) (HSC.out _ hC) (fun hS => ?_)
      refine wpAnyH_take (i := 0) (v := u3) rfl (by kernel_rfl) (by kernel_rfl) (by kernel_rfl) (fun _ _ _ h => h) (Or.inl ⟨by simp [Region.wanted], fun W _ => by go_simp⟩) hS ?_
      simp only [lgT, lgZ, Act.put, lsT, lsZ, lsS]
      refine wpAnyH_take (i := 1) (v := .pointer (some ⟨gb, 0, none⟩)) rfl (by kernel_rfl) (by kernel_rfl) (by kernel_rfl) (fun _ _ _ h => h) (Or.inl ⟨by simp [Region.wanted], fun W _ => by go_simp⟩) hS ?_
      simp only [lgT, lgZ, lgS, Act.put, lsT, lsZ, lsS]
      refine wpAnyH_take (i := 2) (v := .int .i64 xl) rfl (by kernel_rfl) (by kernel_rfl) (by kernel_rfl) (fun _ _ _ h => h) (Or.inl ⟨by simp [Region.wanted], fun W hW => by have kc := cell_of_row _ _ 0 _ _ _ hW.2; go_simp⟩) hS ?_
      simp only [lgT, lgZ, lgS, Act.put, lsT, lsZ, lsS]
      refine wpAnyH_take (i := 3) (v := .pointer (some ⟨gb, 1, none⟩)) rfl (by kernel_rfl) (by kernel_rfl) (by kernel_rfl) (fun _ _ _ h => h) (Or.inl ⟨by simp [Region.wanted], fun W _ => by go_simp⟩) hS ?_
      simp only [lgT, lgZ, lgS, Act.put, lsT, lsZ, lsS]
      refine wpAnyH_take (i := 4) (v := .int .i64 xa) rfl (by kernel_rfl) (by kernel_rfl) (by kernel_rfl) (fun _ _ _ h => h) (Or.inl ⟨by simp [Region.wanted], fun W hW => by have kc := cell_of_row _ _ 1 _ _ _ hW.2; go_simp⟩) hS ?_
      simp only [lgT, lgZ, lgS, Act.put, lsT, lsZ, lsS]
      refine wpAnyH_take (i := 5) (v := .pointer (some ⟨gb, 2, none⟩)) rfl (by kernel_rfl) (by kernel_rfl) (by kernel_rfl) (fun _ _ _ h => h) (Or.inl ⟨by simp [Region.wanted], fun W _ => by go_simp⟩) hS ?_
      simp only [lgT, lgZ, lgS, Act.put, lsT, lsZ, lsS]
      refine wpAnyH_take (i := 6) (v := .int .i64 xb) rfl (by kernel_rfl) (by kernel_rfl) (by kernel_rfl) (fun _ _ _ h => h) (Or.inl ⟨by simp [Region.wanted], fun W hW => by have kc := cell_of_row _ _ 2 _ _ _ hW.2; go_simp⟩) hS ?_
      simp only [lgT, lgZ, lgS, Act.put, lsT, lsZ, lsS]
      refine wpAnyH_take (i := 7) (v := .pointer (some ⟨gb, 4, none⟩)) rfl (by kernel_rfl) (by kernel_rfl) (by kernel_rfl) (fun _ _ _ h => h) (Or.inl ⟨by simp [Region.wanted], fun W _ => by go_simp⟩) hS ?_
      simp only [lgT, lgZ, lgS, Act.put, lsT, lsZ, lsS]
      refine wpAnyH_take (i := 8) (v := .slice B nb D) rfl (by kernel_rfl) (by kernel_rfl) (by kernel_rfl) (fun _ _ _ h => h) (Or.inl ⟨by simp [Region.wanted], fun W hW => by have kc := cell_of_row _ _ 4 _ _ _ hW.2; go_simp⟩) hS ?_
      simp only [lgT, lgZ, lgS, Act.put, lsT, lsZ, lsS]
      refine wpAnyH_take (i := 11) (v := .pointer (some ⟨gb, 3, none⟩)) rfl (by kernel_rfl) (by kernel_rfl) (by kernel_rfl) (fun _ _ _ h => h) (Or.inl ⟨by simp [Region.wanted], fun W _ => by go_simp⟩) hS ?_
      simp only [lgT, lgZ, lgS, Act.put, lsT, lsZ, lsS]
      refine wpAnyH_take (i := 12) (v := .slice A na C) rfl (by kernel_rfl) (by kernel_rfl) (by kernel_rfl) (fun _ _ _ h => h) (Or.inl ⟨by simp [Region.wanted], fun W hW => by have kc := cell_of_row _ _ 3 _ _ _ hW.2; go_simp⟩) hS ?_
      simp only [lgT, lgZ, lgS, Act.put, lsT, lsZ, lsS]
      refine wpAnyH_ready (rs := [9, 13]) (by kernel_rfl) (by simp) ?_
      refine AllReadyH.cons rfl (fun KA hKA => ?_) (AllReadyH.cons rfl (fun KA hKA => ?_) AllReadyH.nil)
      · refine wanted_go rfl ?_
        simp only [lgT, lgZ, lgS]
        go_wp2
        have hx1 := heap_alloc_new W9.drew (.cells #[.slice B nb D] 41)
        have hb1 : Below (W9.drew).heap.size W9.drew ((W9.drew).alloc (.cells #[.slice B nb D] 41)) := (Below.refl _ _).alloc (Nat.le_refl _) _
        have HX1 := Lib.hid (fun W (h : Below ((W9.drew).alloc (.cells #[.slice B nb D] 41)).heap.size ((W9.drew).alloc (.cells #[.slice B nb D] 41)) W) => show W.cell? ⟨W9.heap.size, 0, none⟩ = some (.slice B nb D) by rw [show W9.heap.size = (W9.drew).heap.size by simp]; exact cell_of_row _ _ 0 _ _ _ ((h.block _ (lt_of_blk hx1)).trans hx1))
        have HL1 := Lib.hid (show W9.heap.size < ((W9.drew).alloc (.cells #[.slice B nb D] 41)).heap.size by simp)
        have hC1 := hC.trans (hb1.mono hC.size)
        refine hKA.out _ _ (HSC.out _ hC1) (fun qhC1 => ?_)
        clear hx1 hb1
        refine wpAnyH_ready (rs := [10, 13]) (by kernel_rfl) (by simp) ?_
        refine AllReadyH.cons rfl (fun KB hKB => ?_) (AllReadyH.cons rfl (fun KB hKB => ?_) AllReadyH.nil)
        · refine wanted_go rfl ?_
          simp only [lgT, lgZ, lgS]
          go_wp2_with (go_at_call 25; refine (HNBC.out _ _ (W9.drew.alloc (.cells #[.slice B nb D] 41)) (HL1.out) (HX1.out _ (Below.refl _ _)) (HSC.out _ (hC1)).1).mono ?_; rintro e w4 ⟨a1, c1, rfl, hv1, hb1⟩; have HV1 := Lib.hid hv1; have HB1 := Lib.hid hb1; clear hv1 hb1)
          have hC2 := hC1.trans (HB1.out.mono hC1.size)
          refine hKB.out _ _ (HSC.out _ hC2) (fun qhC2 => ?_)
          refine wpAnyH_ready (rs := [13]) (by kernel_rfl) (by simp) ?_
          refine AllReadyH.cons rfl (fun KC hKC => ?_) AllReadyH.nil
          refine wanted_go rfl ?_
          simp only [lgT, lgZ, lgS]
          go_wp2
          have hx2 := heap_alloc_new w4 (.cells #[.slice A na C] 41)
          have hb2 : Below (w4).heap.size w4 ((w4).alloc (.cells #[.slice A na C] 41)) := (Below.refl _ _).alloc (Nat.le_refl _) _
          have HX2 := Lib.hid (fun W (h : Below ((w4).alloc (.cells #[.slice A na C] 41)).heap.size ((w4).alloc (.cells #[.slice A na C] 41)) W) => show W.cell? ⟨w4.heap.size, 0, none⟩ = some (.slice A na C) by rw [show w4.heap.size = (w4).heap.size by simp]; exact cell_of_row _ _ 0 _ _ _ ((h.block _ (lt_of_blk hx2)).trans hx2))
          have HL2 := Lib.hid (show w4.heap.size < ((w4).alloc (.cells #[.slice A na C] 41)).heap.size by simp)
          have hC3 := hC2.trans (hb2.mono hC2.size)
          refine hKC.out _ _ (HSC.out _ hC3) (fun qhC3 => ?_)
          clear hx2 hb2
          refine wpAnyH_ready (rs := [14]) (by kernel_rfl) (by simp) ?_
          refine AllReadyH.cons rfl (fun KD hKD => ?_) AllReadyH.nil
          refine wanted_go rfl ?_
          simp only [lgT, lgZ, lgS]
          go_wp2_with (go_at_call 25; refine (HNAC.out _ _ (w4.alloc (.cells #[.slice A na C] 41)) (HL2.out) (HX2.out _ (Below.refl _ _)) (HSC.out _ (hC3)).1).mono ?_; rintro e w5 ⟨a2, c2, rfl, hv2, hb2⟩; have HV2 := Lib.hid hv2; have HB2 := Lib.hid hb2; clear hv2 hb2)
          have hC4 := hC3.trans (HB2.out.mono hC3.size)
          refine hKD.out _ _ (HSC.out _ hC4) (fun qhC4 => ?_)
          have HB45 := Lib.hid (show Below w4.heap.size w4 w5 from ((Below.refl _ _).alloc (Nat.le_refl _) (.cells #[.slice A na C] 41)).trans (HB2.out.mono (by simp)))
          have HSX := Lib.hid (show CpS w.heap.size w o u3 w5 from HS9.out.below hC4)
          have HVV := Lib.hid (show ValAt w5 a1 yv ∧ ValAt w5 a2 xv from ⟨HV1.out.below HB45.out, HV2.out⟩)
          refine wpAnyH_take (i := 15) (v := .agg #[.int .i64 xl, .int .i64 xa, .int .i64 xb, .slice a1 nb c1, .slice a2 na c2]) rfl (by kernel_rfl) (by kernel_rfl) (by kernel_rfl) (fun _ _ _ h => h) (Or.inl ⟨by simp [Region.wanted], fun W _ => by go_simp⟩) qhC4 ?_
          simp only [lgT, lgZ, lgS, Act.put, lsT, lsZ, lsS]
          refine wpAnyH_ready (rs := [16]) (by kernel_rfl) (by simp) ?_
          refine AllReadyH.cons rfl (fun KP hKP => ?_) AllReadyH.nil
          refine wanted_go rfl ?_
          simp only [lgT, lgZ, lgS]
          go_wp2
          refine hKP.out _ _ (HSC.out _ (hC4.alloc hC4.size _)) (fun hSP => ?_)
          refine wpAnyH_ready (rs := [17]) (by kernel_rfl) (by simp) ?_
          refine AllReadyH.cons rfl (fun KQ hKQ => ?_) AllReadyH.nil
          refine wanted_go rfl ?_
          simp only [lgT, lgZ, lgS]
          (obtain ⟨v', w9, hr, hown, hgrow, _⟩ := run_append_own (P := Tryz.prog) (w := w5.alloc (.cells #[.int .i64 xl, .int .i64 xa, .int .i64 xb, .slice a1 nb c1, .slice a2 na c2] 59)) w.heap.size 35 35 59 i0 _ 5 72 Tryz.underlying35 hi0 hz0 hz1 hz2 rfl (by decide) _ _ _ (HSX.out.row.alloc _) ⟨w5.heap.size, 0, none⟩ 1 1 [.int .i64 xl, .int .i64 xa, .int .i64 xb, .slice a1 nb c1, .slice a2 na c2] rfl (fun j u hu => new_cells w5 [.int .i64 xl, .int .i64 xa, .int .i64 xb, .slice a1 nb c1, .slice a2 na c2] 59 j u hu) (by have h := one_chV ⟨⟨xl, xa, xb, yv, xv⟩, a1, c1, a2, c2⟩; rw [show (ChV.cells ⟨⟨xl, xa, xb, yv, xv⟩, a1, c1, a2, c2⟩) = [.int .i64 xl, .int .i64 xa, .int .i64 xb, .slice a1 nb c1, .slice a2 na c2] by simp only [ChV.cells, HNA.out, HNB.out]] at h; exact h) b1 b2 (by have := HSX.out.sz; rw [World.size_alloc]; omega); have HA := Lib.hid (HSX.out.app (x := ⟨⟨xl, xa, xb, yv, xv⟩, a1, c1, a2, c2⟩) HVV.out (by rw [show (ChV.cells ⟨⟨xl, xa, xb, yv, xv⟩, a1, c1, a2, c2⟩) = [.int .i64 xl, .int .i64 xa, .int .i64 xb, .slice a1 nb c1, .slice a2 na c2] by simp only [ChV.cells, HNA.out, HNB.out]]; exact hown) hgrow); refine Lib.wp_append_run _ _ _ _ _ rfl _ _ rfl rfl _ _ hr ?_)
          refine hKQ.out _ _ ⟨HA.out.lo, (hgrow.block gb (by have := qhC4.1.size; have := hC4.size; rw [World.size_alloc]; have := HGB.out; omega) (fun e => by have := HNE.out gb e.symm; omega)).trans hSP.2⟩ (fun hSQ => ?_)
          refine wpAnyH_take (i := 18) (v := v') rfl (by kernel_rfl) (by kernel_rfl) (by kernel_rfl) (fun _ _ _ h => h) (Or.inl ⟨by simp [Region.wanted], fun W _ => by go_simp⟩) hSQ ?_
          simp only [lgT, lgZ, lgS, Act.put, lsT, lsZ, lsS]
          refine wpAnyH_done (by kernel_rfl) ?_ _
          have HT := Lib.hid HA.out
          clear HA
          go_wp2
          go_roundw
          case rel => exact ⟨i + 1, _, by go_num, by omega, HT.out, by rw [HTK.out, turnT, List.map_append, List.map_append, HTO.out]; rfl⟩
          case measure => simp [intOf]; omega
        · refine wanted_go rfl ?_
          simp only [lgT, lgZ, lgS]
          go_wp2
          have hx2 := heap_alloc_new (W9.drew.alloc (.cells #[.slice B nb D] 41)) (.cells #[.slice A na C] 41)
          have hb2 : Below ((W9.drew.alloc (.cells #[.slice B nb D] 41))).heap.size (W9.drew.alloc (.cells #[.slice B nb D] 41)) (((W9.drew.alloc (.cells #[.slice B nb D] 41))).alloc (.cells #[.slice A na C] 41)) := (Below.refl _ _).alloc (Nat.le_refl _) _
          have HX2 := Lib.hid (fun W (h : Below (((W9.drew.alloc (.cells #[.slice B nb D] 41))).alloc (.cells #[.slice A na C] 41)).heap.size (((W9.drew.alloc (.cells #[.slice B nb D] 41))).alloc (.cells #[.slice A na C] 41)) W) => show W.cell? ⟨W9.heap.size + 1, 0, none⟩ = some (.slice A na C) by rw [show W9.heap.size + 1 = ((W9.drew.alloc (.cells #[.slice B nb D] 41))).heap.size by simp]; exact cell_of_row _ _ 0 _ _ _ ((h.block _ (lt_of_blk hx2)).trans hx2))
          have HL2 := Lib.hid (show W9.heap.size + 1 < (((W9.drew.alloc (.cells #[.slice B nb D] 41))).alloc (.cells #[.slice A na C] 41)).heap.size by simp)
          have hC2 := hC1.trans (hb2.mono hC1.size)
          refine hKB.out _ _ (HSC.out _ hC2) (fun qhC2 => ?_)
          clear hx2 hb2
          refine wpAnyH_ready (rs := [10]) (by kernel_rfl) (by simp) ?_
          refine AllReadyH.cons rfl (fun KC hKC => ?_) AllReadyH.nil
          refine wanted_go rfl ?_
          simp only [lgT, lgZ, lgS]
          go_wp2_with (go_at_call 25; refine (HNBC.out _ _ ((W9.drew.alloc (.cells #[.slice B nb D] 41)).alloc (.cells #[.slice A na C] 41)) (Nat.lt_of_lt_of_le HL1.out ((Below.refl _ (W9.drew.alloc (.cells #[.slice B nb D] 41))).alloc (Nat.le_refl _) (.cells #[.slice A na C] 41)).size) (HX1.out _ ((Below.refl _ (W9.drew.alloc (.cells #[.slice B nb D] 41))).alloc (Nat.le_refl _) (.cells #[.slice A na C] 41))) (HSC.out _ (hC2)).1).mono ?_; rintro e w4 ⟨a1, c1, rfl, hv1, hb1⟩; have HV1 := Lib.hid hv1; have HB1 := Lib.hid hb1; clear hv1 hb1)
          have hC3 := hC2.trans (HB1.out.mono hC2.size)
          refine hKC.out _ _ (HSC.out _ hC3) (fun qhC3 => ?_)
          refine wpAnyH_ready (rs := [14]) (by kernel_rfl) (by simp) ?_
          refine AllReadyH.cons rfl (fun KD hKD => ?_) AllReadyH.nil
          refine wanted_go rfl ?_
          simp only [lgT, lgZ, lgS]
          go_wp2_with (go_at_call 25; refine (HNAC.out _ _ w4 (Nat.lt_of_lt_of_le HL2.out (HB1.out).size) (HX2.out _ (HB1.out)) (HSC.out _ (hC3)).1).mono ?_; rintro e w5 ⟨a2, c2, rfl, hv2, hb2⟩; have HV2 := Lib.hid hv2; have HB2 := Lib.hid hb2; clear hv2 hb2)
          have hC4 := hC3.trans (HB2.out.mono hC3.size)
          refine hKD.out _ _ (HSC.out _ hC4) (fun qhC4 => ?_)
          have HB45 := Lib.hid HB2.out
          have HSX := Lib.hid (show CpS w.heap.size w o u3 w5 from HS9.out.below hC4)
          have HVV := Lib.hid (show ValAt w5 a1 yv ∧ ValAt w5 a2 xv from ⟨HV1.out.below HB45.out, HV2.out⟩)
          refine wpAnyH_take (i := 15) (v := .agg #[.int .i64 xl, .int .i64 xa, .int .i64 xb, .slice a1 nb c1, .slice a2 na c2]) rfl (by kernel_rfl) (by kernel_rfl) (by kernel_rfl) (fun _ _ _ h => h) (Or.inl ⟨by simp [Region.wanted], fun W _ => by go_simp⟩) qhC4 ?_
          simp only [lgT, lgZ, lgS, Act.put, lsT, lsZ, lsS]
          refine wpAnyH_ready (rs := [16]) (by kernel_rfl) (by simp) ?_
          refine AllReadyH.cons rfl (fun KP hKP => ?_) AllReadyH.nil
          refine wanted_go rfl ?_
          simp only [lgT, lgZ, lgS]
          go_wp2
          refine hKP.out _ _ (HSC.out _ (hC4.alloc hC4.size _)) (fun hSP => ?_)
          refine wpAnyH_ready (rs := [17]) (by kernel_rfl) (by simp) ?_
          refine AllReadyH.cons rfl (fun KQ hKQ => ?_) AllReadyH.nil
          refine wanted_go rfl ?_
          simp only [lgT, lgZ, lgS]
          (obtain ⟨v', w9, hr, hown, hgrow, _⟩ := run_append_own (P := Tryz.prog) (w := w5.alloc (.cells #[.int .i64 xl, .int .i64 xa, .int .i64 xb, .slice a1 nb c1, .slice a2 na c2] 59)) w.heap.size 35 35 59 i0 _ 5 72 Tryz.underlying35 hi0 hz0 hz1 hz2 rfl (by decide) _ _ _ (HSX.out.row.alloc _) ⟨w5.heap.size, 0, none⟩ 1 1 [.int .i64 xl, .int .i64 xa, .int .i64 xb, .slice a1 nb c1, .slice a2 na c2] rfl (fun j u hu => new_cells w5 [.int .i64 xl, .int .i64 xa, .int .i64 xb, .slice a1 nb c1, .slice a2 na c2] 59 j u hu) (by have h := one_chV ⟨⟨xl, xa, xb, yv, xv⟩, a1, c1, a2, c2⟩; rw [show (ChV.cells ⟨⟨xl, xa, xb, yv, xv⟩, a1, c1, a2, c2⟩) = [.int .i64 xl, .int .i64 xa, .int .i64 xb, .slice a1 nb c1, .slice a2 na c2] by simp only [ChV.cells, HNA.out, HNB.out]] at h; exact h) b1 b2 (by have := HSX.out.sz; rw [World.size_alloc]; omega); have HA := Lib.hid (HSX.out.app (x := ⟨⟨xl, xa, xb, yv, xv⟩, a1, c1, a2, c2⟩) HVV.out (by rw [show (ChV.cells ⟨⟨xl, xa, xb, yv, xv⟩, a1, c1, a2, c2⟩) = [.int .i64 xl, .int .i64 xa, .int .i64 xb, .slice a1 nb c1, .slice a2 na c2] by simp only [ChV.cells, HNA.out, HNB.out]]; exact hown) hgrow); refine Lib.wp_append_run _ _ _ _ _ rfl _ _ rfl rfl _ _ hr ?_)
          refine hKQ.out _ _ ⟨HA.out.lo, (hgrow.block gb (by have := qhC4.1.size; have := hC4.size; rw [World.size_alloc]; have := HGB.out; omega) (fun e => by have := HNE.out gb e.symm; omega)).trans hSP.2⟩ (fun hSQ => ?_)
          refine wpAnyH_take (i := 18) (v := v') rfl (by kernel_rfl) (by kernel_rfl) (by kernel_rfl) (fun _ _ _ h => h) (Or.inl ⟨by simp [Region.wanted], fun W _ => by go_simp⟩) hSQ ?_
          simp only [lgT, lgZ, lgS, Act.put, lsT, lsZ, lsS]
          refine wpAnyH_done (by kernel_rfl) ?_ _
          have HT := Lib.hid HA.out
          clear HA
          go_wp2
          go_roundw
          case rel => exact ⟨i + 1, _, by go_num, by omega, HT.out, by rw [HTK.out, turnT, List.map_append, List.map_append, HTO.out]; rfl⟩
          case measure => simp [intOf]; omega
      · refine wanted_go rfl ?_
        simp only [lgT, lgZ, lgS]
        go_wp2
        have hx2 := heap_alloc_new W9.drew (.cells #[.slice A na C] 41)
        have hb2 : Below (W9.drew).heap.size W9.drew ((W9.drew).alloc (.cells #[.slice A na C] 41)) := (Below.refl _ _).alloc (Nat.le_refl _) _
        have HX2 := Lib.hid (fun W (h : Below ((W9.drew).alloc (.cells #[.slice A na C] 41)).heap.size ((W9.drew).alloc (.cells #[.slice A na C] 41)) W) => show W.cell? ⟨W9.heap.size, 0, none⟩ = some (.slice A na C) by rw [show W9.heap.size = (W9.drew).heap.size by simp]; exact cell_of_row _ _ 0 _ _ _ ((h.block _ (lt_of_blk hx2)).trans hx2))
        have HL2 := Lib.hid (show W9.heap.size < ((W9.drew).alloc (.cells #[.slice A na C] 41)).heap.size by simp)
        have hC1 := hC.trans (hb2.mono hC.size)
        refine hKA.out _ _ (HSC.out _ hC1) (fun qhC1 => ?_)
        clear hx2 hb2
        refine wpAnyH_ready (rs := [9]) (by kernel_rfl) (by simp) ?_
        refine AllReadyH.cons rfl (fun KB hKB => ?_) AllReadyH.nil
        refine wanted_go rfl ?_
        simp only [lgT, lgZ, lgS]
        go_wp2
        have hx1 := heap_alloc_new (W9.drew.alloc (.cells #[.slice A na C] 41)) (.cells #[.slice B nb D] 41)
        have hb1 : Below ((W9.drew.alloc (.cells #[.slice A na C] 41))).heap.size (W9.drew.alloc (.cells #[.slice A na C] 41)) (((W9.drew.alloc (.cells #[.slice A na C] 41))).alloc (.cells #[.slice B nb D] 41)) := (Below.refl _ _).alloc (Nat.le_refl _) _
        have HX1 := Lib.hid (fun W (h : Below (((W9.drew.alloc (.cells #[.slice A na C] 41))).alloc (.cells #[.slice B nb D] 41)).heap.size (((W9.drew.alloc (.cells #[.slice A na C] 41))).alloc (.cells #[.slice B nb D] 41)) W) => show W.cell? ⟨W9.heap.size + 1, 0, none⟩ = some (.slice B nb D) by rw [show W9.heap.size + 1 = ((W9.drew.alloc (.cells #[.slice A na C] 41))).heap.size by simp]; exact cell_of_row _ _ 0 _ _ _ ((h.block _ (lt_of_blk hx1)).trans hx1))
        have HL1 := Lib.hid (show W9.heap.size + 1 < (((W9.drew.alloc (.cells #[.slice A na C] 41))).alloc (.cells #[.slice B nb D] 41)).heap.size by simp)
        have hC2 := hC1.trans (hb1.mono hC1.size)
        refine hKB.out _ _ (HSC.out _ hC2) (fun qhC2 => ?_)
        clear hx1 hb1
        refine wpAnyH_ready (rs := [10]) (by kernel_rfl) (by simp) ?_
        refine AllReadyH.cons rfl (fun KC hKC => ?_) AllReadyH.nil
        refine wanted_go rfl ?_
        simp only [lgT, lgZ, lgS]
        go_wp2_with (go_at_call 25; refine (HNBC.out _ _ ((W9.drew.alloc (.cells #[.slice A na C] 41)).alloc (.cells #[.slice B nb D] 41)) (HL1.out) (HX1.out _ (Below.refl _ _)) (HSC.out _ (hC2)).1).mono ?_; rintro e w4 ⟨a1, c1, rfl, hv1, hb1⟩; have HV1 := Lib.hid hv1; have HB1 := Lib.hid hb1; clear hv1 hb1)
        have hC3 := hC2.trans (HB1.out.mono hC2.size)
        refine hKC.out _ _ (HSC.out _ hC3) (fun qhC3 => ?_)
        refine wpAnyH_ready (rs := [14]) (by kernel_rfl) (by simp) ?_
        refine AllReadyH.cons rfl (fun KD hKD => ?_) AllReadyH.nil
        refine wanted_go rfl ?_
        simp only [lgT, lgZ, lgS]
        go_wp2_with (go_at_call 25; refine (HNAC.out _ _ w4 (Nat.lt_of_lt_of_le HL2.out (((Below.refl _ (W9.drew.alloc (.cells #[.slice A na C] 41))).alloc (Nat.le_refl _) (.cells #[.slice B nb D] 41)).trans (HB1.out.mono (by simp))).size) (HX2.out _ (((Below.refl _ (W9.drew.alloc (.cells #[.slice A na C] 41))).alloc (Nat.le_refl _) (.cells #[.slice B nb D] 41)).trans (HB1.out.mono (by simp)))) (HSC.out _ (hC3)).1).mono ?_; rintro e w5 ⟨a2, c2, rfl, hv2, hb2⟩; have HV2 := Lib.hid hv2; have HB2 := Lib.hid hb2; clear hv2 hb2)
        have hC4 := hC3.trans (HB2.out.mono hC3.size)
        refine hKD.out _ _ (HSC.out _ hC4) (fun qhC4 => ?_)
        have HB45 := Lib.hid HB2.out
        have HSX := Lib.hid (show CpS w.heap.size w o u3 w5 from HS9.out.below hC4)
        have HVV := Lib.hid (show ValAt w5 a1 yv ∧ ValAt w5 a2 xv from ⟨HV1.out.below HB45.out, HV2.out⟩)
        refine wpAnyH_take (i := 15) (v := .agg #[.int .i64 xl, .int .i64 xa, .int .i64 xb, .slice a1 nb c1, .slice a2 na c2]) rfl (by kernel_rfl) (by kernel_rfl) (by kernel_rfl) (fun _ _ _ h => h) (Or.inl ⟨by simp [Region.wanted], fun W _ => by go_simp⟩) qhC4 ?_
        simp only [lgT, lgZ, lgS, Act.put, lsT, lsZ, lsS]
        refine wpAnyH_ready (rs := [16]) (by kernel_rfl) (by simp) ?_
        refine AllReadyH.cons rfl (fun KP hKP => ?_) AllReadyH.nil
        refine wanted_go rfl ?_
        simp only [lgT, lgZ, lgS]
        go_wp2
        refine hKP.out _ _ (HSC.out _ (hC4.alloc hC4.size _)) (fun hSP => ?_)
        refine wpAnyH_ready (rs := [17]) (by kernel_rfl) (by simp) ?_
        refine AllReadyH.cons rfl (fun KQ hKQ => ?_) AllReadyH.nil
        refine wanted_go rfl ?_
        simp only [lgT, lgZ, lgS]
        (obtain ⟨v', w9, hr, hown, hgrow, _⟩ := run_append_own (P := Tryz.prog) (w := w5.alloc (.cells #[.int .i64 xl, .int .i64 xa, .int .i64 xb, .slice a1 nb c1, .slice a2 na c2] 59)) w.heap.size 35 35 59 i0 _ 5 72 Tryz.underlying35 hi0 hz0 hz1 hz2 rfl (by decide) _ _ _ (HSX.out.row.alloc _) ⟨w5.heap.size, 0, none⟩ 1 1 [.int .i64 xl, .int .i64 xa, .int .i64 xb, .slice a1 nb c1, .slice a2 na c2] rfl (fun j u hu => new_cells w5 [.int .i64 xl, .int .i64 xa, .int .i64 xb, .slice a1 nb c1, .slice a2 na c2] 59 j u hu) (by have h := one_chV ⟨⟨xl, xa, xb, yv, xv⟩, a1, c1, a2, c2⟩; rw [show (ChV.cells ⟨⟨xl, xa, xb, yv, xv⟩, a1, c1, a2, c2⟩) = [.int .i64 xl, .int .i64 xa, .int .i64 xb, .slice a1 nb c1, .slice a2 na c2] by simp only [ChV.cells, HNA.out, HNB.out]] at h; exact h) b1 b2 (by have := HSX.out.sz; rw [World.size_alloc]; omega); have HA := Lib.hid (HSX.out.app (x := ⟨⟨xl, xa, xb, yv, xv⟩, a1, c1, a2, c2⟩) HVV.out (by rw [show (ChV.cells ⟨⟨xl, xa, xb, yv, xv⟩, a1, c1, a2, c2⟩) = [.int .i64 xl, .int .i64 xa, .int .i64 xb, .slice a1 nb c1, .slice a2 na c2] by simp only [ChV.cells, HNA.out, HNB.out]]; exact hown) hgrow); refine Lib.wp_append_run _ _ _ _ _ rfl _ _ rfl rfl _ _ hr ?_)
        refine hKQ.out _ _ ⟨HA.out.lo, (hgrow.block gb (by have := qhC4.1.size; have := hC4.size; rw [World.size_alloc]; have := HGB.out; omega) (fun e => by have := HNE.out gb e.symm; omega)).trans hSP.2⟩ (fun hSQ => ?_)
        refine wpAnyH_take (i := 18) (v := v') rfl (by kernel_rfl) (by kernel_rfl) (by kernel_rfl) (fun _ _ _ h => h) (Or.inl ⟨by simp [Region.wanted], fun W _ => by go_simp⟩) hSQ ?_
        simp only [lgT, lgZ, lgS, Act.put, lsT, lsZ, lsS]
        refine wpAnyH_done (by kernel_rfl) ?_ _
        have HT := Lib.hid HA.out
        clear HA
        go_wp2
        go_roundw
        case rel => exact ⟨i + 1, _, by go_num, by omega, HT.out, by rw [HTK.out, turnT, List.map_append, List.map_append, HTO.out]; rfl⟩
        case measure => simp [intOf]; omega
    · have HF := Lib.hid (show (l.map ChV.c).take i = l.map ChV.c by rw [List.take_of_length_le]; rw [List.length_map, HN.out]; omega)
      go_wp2
      go_ret
      exact ⟨_, _, rfl, HS.out, by rw [← HF.out]; exact HTO.out⟩
end Go.Proofs.YtellifcjamedkaaGreat

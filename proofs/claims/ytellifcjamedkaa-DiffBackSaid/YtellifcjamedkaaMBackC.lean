/- The library's Grow, Concat of numbers: contracts. Turn: the program's contract. The program's Same of changes: the contract. The walk of DiffBack. Every type of the program lies laid out: for the frames of the laws. -/
import Derived.Test.YtellifcjamedkaaBkSet
import Derived.Test.YtellifcjamedkaaDfRef1
import Derived.Lib.AppendZeros
import Derived.Test.YtellifcjamedkaaMBackA
import Derived.Test.YtellifcjamedkaaDpAlive
import Derived.Test.YtellifcjamedkaaDfSame
import Derived.Test.YtellifcjamedkaaMBackB
import Derived.Test.YtellifcjamedkaaBkIn
import Derived.Test.YtellifcjamedkaaBkRef9
namespace Go.Proofs.Ytellifcjamedkaa
open Go.RowKit Base Base2

theorem flat_lenC {k : Nat} : ∀ {l : List Item}, (∀ x ∈ l, x.length = k) → (flatI l).length = l.length * k
  | [], _ => by simp [flatI]
  | y :: l, h => by
    have ih := flat_lenC (l := l) (fun x hx => h x (List.mem_cons_of_mem _ hx))
    show (y.map (Value.int .i64) ++ flatI l).length = _
    rw [List.length_append, ih, List.length_map, h y (List.mem_cons_self ..), List.length_cons, Nat.add_mul]; omega
theorem flat_oneC {l : List Item} : ∀ u ∈ flatI l, u.oneCell' = true := by
  intro u hu
  unfold flatI at hu
  obtain ⟨y, hy, hu⟩ := List.mem_flatten.1 hu
  obtain ⟨x, _, rfl⟩ := List.mem_map.1 hy
  exact one_items x u hu
theorem flat_cellsC {k b : Nat} {W : World} : ∀ (l : List Item) (off : Nat), (∀ x ∈ l, x.length = k) → (∀ (i : Nat) (x : Item), l[i]? = some x → ∀ (j : Nat) (z : Int), x[j]? = some z → W.cell? ⟨b, off + i * k + j, none⟩ = some (.int .i64 z)) → ∀ (m : Nat) (u : Value), (flatI l)[m]? = some u → W.cell? ⟨b, off + m, none⟩ = some u
  | [], _, _, _, m, u, hu => by simp [flatI] at hu
  | y :: l, off, hk, h, m, u, hu => by
    have hy := hk y (List.mem_cons_self ..)
    have hu : (y.map (Value.int .i64) ++ flatI l)[m]? = some u := hu
    by_cases hm : m < k
    · rw [List.getElem?_append_left (by simpa [hy] using hm), List.getElem?_map] at hu
      obtain ⟨z, hz, rfl⟩ := Option.map_eq_some_iff.1 hu
      have := h 0 y rfl m z hz
      rwa [Nat.zero_mul, Nat.add_zero] at this
    · rw [List.getElem?_append_right (by simpa [hy] using hm), List.length_map, hy] at hu
      have := flat_cellsC l (off + k) (fun x hx => hk x (List.mem_cons_of_mem _ hx)) (fun i x hi j z hz => by
        have := h (i + 1) x (by simpa using hi) j z hz
        rw [Nat.add_mul, Nat.one_mul] at this
        rwa [show off + k + i * k + j = off + (i * k + k) + j by omega]) (m - k) u hu
      rwa [show off + k + (m - k) = off + m by omega] at this
theorem append_noneC {P : Program} {w : World} (base c : Nat) (t ty e : TypeId) (i : TypeInfo) (size : Nat) (ht : P.underlying t = some (.slice e)) (hi : P.info? e = some i) (v : Value) (n : Nat) (xs : List Value) (hown : w.ownsRow base e size v n xs) :
    (Builtin.append_ #[t, t] ty #[v, .slice none 0 c]).run P w = .ok v w := by
  rcases hown.2 with ⟨rfl, rfl⟩ | ⟨g, cap, cur, rfl, _, _, hnc, _⟩
  · simp [Builtin.append_, run_underlying ht, sizeOf, typeInfo, hi, Builtin.lenOf, Builtin.firstCells]
  · simp [Builtin.append_, run_underlying ht, sizeOf, typeInfo, hi, Builtin.lenOf, Builtin.firstCells, hnc, storeCells]
theorem grown_reflC (w : World) (r : Option Nat) : w.grownBy w r := ⟨rfl, rfl, rfl, Nat.le_refl _, fun _ _ _ => rfl⟩
/-- A row of things put behind a row that is being made. -/
theorem app_partC {P : Program} {T E : TypeId} {i0 : TypeInfo} {z0 : Value} {k bytes : Nat} (hT : P.underlying T = some (.slice E)) (hi : P.info? E = some i0) (hz : i0.zero = some z0) (hs : i0.size = k) (hb : i0.bytes = bytes) (hzs : z0.cells.size = k) (hk0 : 0 < k) (ty : TypeId)
    {B : Nat} {W : World} {v : Value} {n : Nat} {xs : List Value} (hown : W.ownsRow B E k v n xs) (hB : B ≤ W.heap.size) {a : Option Addr} {c : Nat} {l : List Item} (hr : RowsOf k W a l) (hk : ∀ x ∈ l, x.length = k)
    (h63 : n + l.length ≤ maxLen) (hby : (n + l.length) * bytes ≤ 140737488355328) :
    ∃ v' w', (Builtin.append_ #[T, T] ty #[v, .slice a l.length c]).run P W = .ok v' w' ∧ w'.ownsRow B E k v' (n + l.length) (xs ++ flatI l) ∧ W.grownBy w' v.ownBlock := by
  cases a with
  | none =>
    have hl : l = [] := by
      rcases hr with h | ⟨b, off, h, _⟩
      · exact h
      · cases h
    subst hl
    exact ⟨v, W, append_noneC B c T ty E i0 k hT hi v n xs hown, by simpa [flatI] using hown, grown_reflC _ _⟩
  | some ad =>
    obtain ⟨v', w', h1, h2, h3, _⟩ := run_append_own (P := P) (w := W) B T ty E i0 z0 k bytes hT hi hz hs hb hzs hk0 v n xs hown ad l.length c (flatI l) (flat_lenC hk) (fun j u hu => by
      rcases hr with rfl | ⟨b, off, hab, _, h⟩
      · simp [flatI] at hu
      · obtain rfl : ad = ⟨b, off, none⟩ := by simpa using hab
        rw [Addr.add_mid]
        exact flat_cellsC l off hk h j u hu) flat_oneC h63 hby hB
    exact ⟨v', w', h1, h2, h3⟩
theorem SetSt.appG {B : Nat} {W0 : World} {T : TypeId} {k : Nat} {o l : List Item} {v v' : Value} {W w2 : World} (h : SetSt B W0 T k o v W) (hr : w2.ownsRow B T k v' (o.length + l.length) (flatI o ++ flatI l)) (hg : W.grownBy w2 v.ownBlock) : SetSt B W0 T k (o ++ l) v' w2 :=
  ⟨by rw [flatI_app, List.length_append]; exact hr, h.lo.grown hg h.sz (own_block_ge h.row), Nat.le_trans h.sz hg.size⟩
/-- Rows that are put one behind the other. -/
structure Part where
  a : Option Addr
  c : Nat
  l : List Item
def catP (ps : List Part) : List Item := (ps.map Part.l).flatten
theorem catP_next {ps : List Part} {i : Nat} {p : Part} (h : ps[i]? = some p) : catP (ps.take (i + 1)) = catP (ps.take i) ++ p.l := by
  unfold catP
  rw [List.take_add_one, h]; simp
theorem catP_all {ps : List Part} {i : Nat} (h : ps.length ≤ i) : catP (ps.take i) = catP ps := by rw [List.take_of_length_le h]
theorem catP_le (ps : List Part) (i : Nat) : (catP (ps.take i)).length ≤ (catP ps).length := by
  have h : catP ps = catP (ps.take i) ++ catP (ps.drop i) := by
    unfold catP
    rw [← List.flatten_append, ← List.map_append, List.take_append_drop]
  rw [h, List.length_append]; omega

theorem infoI64C : (Try.prog.info? 2).map (fun i => (i.zero, i.size, i.bytes)) = some (some (.int .i64 0), 1, 8) := by kernel_rfl

set_option maxRecDepth 100000 in
set_option maxHeartbeats 4000000 in
theorem growI64 (n : Nat) (w : World) (hn : n ≤ 3000) : Calls Try.prog 60 #[.slice none 0 0, .int .i64 (n : Int)] w fun e w' => ∃ v, e = .returned v ∧ SetSt w.heap.size w 2 1 [] v w' := by
  by_cases h0 : n = 0
  · subst h0
    go_enter Try.func60, Try.ntmps60
    go_wp2
    go_ret
    exact ⟨_, rfl, SetSt.nil (Nat.le_refl _)⟩
  · obtain ⟨i0, hi0, hz0, hz1, hz2⟩ := info_parts infoI64C
    have hap := Lib.run_append_nil_zeros (P := Try.prog) w 45 3 45 2 i0 _ .i64 .i64 Try.underlying45 Try.underlying3 hi0 hz0 n (by omega) (by rw [hz1]; decide) (by omega) (by rw [hz2]; omega)
    have hC1 := grownCap_ge w n 0 2
    have hC2 := grownCap_le_maxLen w n 0 2 (by unfold maxLen; omega)
    have hcs : (Builtin.zeroCells (Value.int .i64 0).cells n ++ Builtin.zeroCells (Value.int .i64 0).cells (grownCap w n 0 2 - n)).size = grownCap w n 0 2 * 1 := by
      rw [Array.size_append, size_zeroCells, size_zeroCells, show (Value.int .i64 0).cells.size = 1 from rfl]; omega
    generalize grownCap w n 0 2 = C at *
    generalize (Builtin.zeroCells (Value.int .i64 0).cells n ++ Builtin.zeroCells (Value.int .i64 0).cells (C - n)) = CU at *
    have hS := Lib.hid (show SetSt w.heap.size w 2 1 [] (.slice (some ⟨w.heap.size, 0, none⟩) 0 C) (w.drew.alloc (.cells CU 2)) from
      ⟨by have h := World.ownsRow_made (base := w.heap.size) (size := 1) (e := 2) w.drew CU C (Nat.le_refl _) hC2 hcs; simpa [flatI] using h, (below_drewN' (Below.refl _ w) 1).alloc (Nat.le_refl _) _, by simp⟩)
    have hC0 : ¬ C = 0 := by omega
    clear hcs hC1 hC2
    go_enter Try.func60, Try.ntmps60
    go_wp2_with (at_builtin; refine Lib.wpList_append_run _ rfl _ _ _ _ rfl _ _ rfl rfl _ _ hap ?_)
    go_ret
    exact ⟨_, rfl, hS.out⟩
set_option maxRecDepth 100000 in
set_option maxHeartbeats 8000000 in
theorem concatI64 (g c0 : Nat) (ps : List Part) (w : World) (hg : g < w.heap.size) (hc : ∀ (i : Nat) (p : Part), ps[i]? = some p → w.cell? ⟨g, i, none⟩ = some (.slice p.a p.l.length p.c)) (hr : ∀ p ∈ ps, RowsOf 1 w p.a p.l) (hk : ∀ p ∈ ps, ∀ x ∈ p.l, x.length = 1) (hl : (catP ps).length ≤ 1500) (hps : ps.length ≤ 10) :
    Calls Try.prog 31 #[.slice (some ⟨g, 0, none⟩) ps.length c0] w fun e w' => ∃ v, e = .returned v ∧ SetSt w.heap.size w 2 1 (catP ps) v w' := by
  obtain ⟨i0, hi0, hz0, hz1, hz2⟩ := info_parts infoI64C
  have HC := Lib.hid (fun (i : Nat) (p : Part) (h : ps[i]? = some p) (W : World) (hb : Below w.heap.size w W) => (hb.cell (p := ⟨g, i, none⟩) hg).trans (hc i p h))
  have HR := Lib.hid (fun (i : Nat) (p : Part) (h : ps[i]? = some p) (W : World) (hb : Below w.heap.size w W) => (hr p (List.mem_of_getElem? h)).below hb)
  have HK := Lib.hid (fun (i : Nat) (p : Part) (h : ps[i]? = some p) => hk p (List.mem_of_getElem? h))
  have HN := Lib.hid (fun (i : Nat) (p : Part) (h : ps[i]? = some p) => catP_next h)
  have HL := Lib.hid (fun i => Nat.le_trans (catP_le ps i) hl)
  clear hc hr hk
  go_enter Try.func31, Try.ntmps31
  go_wp2
  go_loopw [3, 11] (fun vs vi W => ∃ i : Nat, vi = .int .i64 (i : Int) ∧ i ≤ ps.length ∧ vs = .int .i64 ((catP (ps.take i)).length : Int) ∧ W = w) (fun _ vi _ => ps.length - (intOf vi).toNat)
  case atStart => exact ⟨0, rfl, Nat.zero_le _, rfl, rfl⟩
  case round =>
    obtain ⟨i, rfl, hi, rfl, hw⟩ := hrel
    obtain rfl := hw.symm
    by_cases hlt : i < ps.length
    · obtain ⟨p, hp⟩ : ∃ p, ps[i]? = some p := ⟨ps[i], by simp [hlt]⟩
      have k0 := HC.out i p hp w (Below.refl _ _)
      have e1 := HL.out (i + 1)
      have hn := HN.out i p hp
      rw [hn, List.length_append] at e1
      have HNN := Lib.hid (show ((catP (ps.take (i + 1))).length : Int) = ((catP (ps.take i)).length : Int) + (p.l.length : Int) by rw [hn, List.length_append]; omega)
      clear hn hp
      generalize (catP (ps.take i)).length = N at *
      go_wp2
      go_roundw
      case rel => exact ⟨i + 1, by go_num, hlt, by rw [HNN.out], by trivial⟩
      case measure => simp [intOf]; omega
    · have hall := catP_all (ps := ps) (i := i) (by omega)
      rw [hall]
      have HLL := Lib.hid hl
      have hl2 : (catP ps).length ≤ 3000 := by omega
      clear hall
      go_wp2_with (go_at_call 60; refine (growI64 _ _ hl2).mono ?_; rintro e y ⟨vy, rfl, hy⟩; have HY := Lib.hid hy; clear hy)
      go_loopw [6, 27] (fun vo vi W => ∃ i : Nat, vi = .int .i64 (i : Int) ∧ i ≤ ps.length ∧ SetSt w.heap.size w 2 1 (catP (ps.take i)) vo W) (fun _ vi _ => ps.length - (intOf vi).toNat)
      case atStart => exact ⟨0, rfl, Nat.zero_le _, HY.out⟩
      case round =>
        clear HY
        obtain ⟨j, rfl, hj, hst⟩ := hrel
        have HS := Lib.hid hst
        clear hst
        by_cases hlt : j < ps.length
        · obtain ⟨p, hp⟩ : ∃ p, ps[j]? = some p := ⟨ps[j], by simp [hlt]⟩
          have k0 := HC.out j p hp _ HS.out.lo
          have e1 := HL.out (j + 1)
          have hn := HN.out j p hp
          rw [hn, List.length_append] at e1
          obtain ⟨v', w', hap, hown, hgr⟩ := app_partC (P := Try.prog) Try.underlying45 hi0 hz0 hz1 hz2 (by decide) (by decide) 45 HS.out.row HS.out.sz (c := p.c) (HR.out j p hp _ HS.out.lo) (HK.out j p hp) (by unfold maxLen; omega) (by omega)
          have HNX := Lib.hid (show SetSt w.heap.size w 2 1 (catP (ps.take (j + 1))) v' w' by rw [hn]; exact HS.out.appG hown hgr)
          clear hn hp hown hgr
          go_wp2_with (at_builtin; refine Lib.wpList_append_run _ rfl _ _ _ _ rfl _ _ rfl rfl _ _ hap ?_)
          go_roundw
          case rel => exact ⟨j + 1, by go_num, hlt, HNX.out⟩
          case measure => simp [intOf]; omega
        · have HE := Lib.hid (show SetSt w.heap.size w 2 1 (catP ps) _ _ by have h := HS.out; rw [catP_all (by omega)] at h; exact h)
          go_wp2
          go_ret
          exact ⟨_, rfl, HE.out⟩

theorem flat_single : ∀ V : List Int, flatI (V.map (fun z => [z])) = V.map (Value.int .i64)
  | [] => rfl
  | z :: V => by
    show [z].map (Value.int .i64) ++ flatI (V.map (fun z => [z])) = _
    rw [flat_single V]; rfl
theorem ValAt.rows {W : World} {a : Option Addr} {V : List Int} (h : ValAt W a V) : RowsOf 1 W a (V.map (fun z => [z])) := by
  rcases h with h | ⟨k, off, cs, h1, h2, h3⟩
  · subst h; exact .inl rfl
  · refine .inr ⟨k, off, h1, lt_of_blk h2, fun i x hi j z hz => ?_⟩
    rw [List.getElem?_map] at hi
    obtain ⟨y, hy, rfl⟩ := Option.map_eq_some_iff.1 hi
    obtain ⟨rfl, rfl⟩ : j = 0 ∧ y = z := by
      cases j with
      | zero => exact ⟨rfl, by simpa using hz⟩
      | succ j => simp at hz
    rw [cell_of_row _ _ _ _ _ _ h2, Nat.mul_one, Nat.add_zero]
    exact h3 i y hy
theorem val_own {W : World} {B : Nat} {v : Value} {V : List Int} (h : W.ownsRow B 2 1 v V.length (V.map (Value.int .i64))) : ∃ a c, v = .slice a V.length c ∧ ValAt W a V := by
  rcases h.2 with ⟨rfl, hn⟩ | ⟨g, cap, cur, rfl, _, hg, hc, _, hs, ht⟩
  · exact ⟨none, 0, by rw [hn], .inl (List.length_eq_zero_iff.1 hn)⟩
  · refine ⟨_, _, rfl, .inr ⟨g, 0, cur, rfl, hg, fun i z hi => ?_⟩⟩
    have h1 : (V.map (Value.int .i64))[i]? = some (.int .i64 z) := by rw [List.getElem?_map, hi]; rfl
    rw [← ht] at h1
    have h2 := (List.getElem?_eq_some_iff.1 h1).1
    rw [List.length_take] at h2
    rw [List.getElem?_take_of_lt (by omega)] at h1
    rw [Nat.zero_add]
    simpa using h1
theorem concatOne (g c0 : Nat) (A : Option Addr) (C : Nat) (V : List Int) (w : World) (hg : g < w.heap.size) (hc : w.cell? ⟨g, 0, none⟩ = some (.slice A V.length C)) (hV : ValAt w A V) (hl : V.length ≤ 1500) :
    Calls Try.prog 31 #[.slice (some ⟨g, 0, none⟩) 1 c0] w fun e w' => ∃ a c, e = .returned (.slice a V.length c) ∧ ValAt w' a V ∧ Below w.heap.size w w' := by
  have hps : catP [⟨A, C, V.map (fun z => [z])⟩] = V.map (fun z => [z]) := by simp [catP]
  refine (concatI64 g c0 [⟨A, C, V.map (fun z => [z])⟩] w hg ?_ ?_ ?_ (by rw [hps, List.length_map]; exact hl) (by simp)).mono ?_
  · intro i p hp
    cases i with
    | zero => obtain rfl : _ = p := by simpa using hp
              rw [List.length_map]; exact hc
    | succ i => simp at hp
  · intro p hp
    obtain rfl := List.mem_singleton.1 hp
    exact hV.rows
  · intro p hp x hx
    obtain rfl := List.mem_singleton.1 hp
    obtain ⟨z, _, rfl⟩ := List.mem_map.1 hx
    rfl
  · rintro e w' ⟨v, rfl, hs⟩
    have hr := hs.row
    rw [hps, flat_single, List.length_map] at hr
    obtain ⟨a, c, rfl, hv⟩ := val_own hr
    exact ⟨a, c, rfl, hv, hs.lo⟩
end Go.Proofs.Ytellifcjamedkaa

namespace Go.Proofs.Ytellifcjamedkaa
open Go.RowKit Base Base2

def turnV (x : ChT) : ChT := ⟨x.l, x.a, x.b, x.now, x.was⟩
set_option maxRecDepth 100000 in
set_option maxHeartbeats 16000000 in
theorem turn14 (a : Option Addr) (p : Nat) (l : List ChV) (w : World) (h8 : l.length ≤ 20000) (hr : RowsK 62 5 w a (l.map ChV.cells)) (hv : ∀ x ∈ l, ValAt w x.a1 x.c.was ∧ ValAt w x.a2 x.c.now) (hl : ∀ x ∈ l, x.c.was.length ≤ 1500 ∧ x.c.now.length ≤ 1500) :
    Calls Try.prog 14 #[.slice a l.length p] w fun e w' => ∃ vo o, e = .returned vo ∧ CpS w.heap.size w o vo w' ∧ o.map ChV.c = turnT (l.map ChV.c) := by
  obtain ⟨i0, hi0, hz0, hz1, hz2⟩ := info_parts infoCp
  have HLD := Lib.hid (fun (i : Nat) (x : ChV) (hi : l[i]? = some x) => load_chR hr hi)
  have HV := Lib.hid hv
  have HLL := Lib.hid hl
  have HS0 := Lib.hid (CpS.nil (W0 := w) (Nat.le_refl w.heap.size))
  obtain ⟨n, hn⟩ : ∃ n, l.length = n := ⟨_, rfl⟩
  have HN := Lib.hid hn
  have HNX := Lib.hid (show ∀ i, i < n → ∃ x, l[i]? = some x from fun i h => ⟨l[i]'(by omega), by simp [show i < l.length by omega]⟩)
  rw [hn] at h8 ⊢
  clear hr hv hn hl
  go_enter Try.func14, Try.ntmps14
  go_wp2
  go_loopw [3, 8] (fun vo vi W => ∃ (i : Nat) (o : List ChV), vi = .int .i64 (i : Int) ∧ i ≤ n ∧ CpS w.heap.size w o vo W ∧ o.map ChV.c = turnT ((l.map ChV.c).take i)) (fun _ vi _ => n - (intOf vi).toNat)
  case atStart => exact ⟨0, [], rfl, Nat.zero_le _, HS0.out, by rw [List.take_zero]; rfl⟩
  case round =>
    clear HS0
    obtain ⟨i, o, rfl, hi, hs, hto⟩ := hrel
    have HS := Lib.hid hs
    have HTO := Lib.hid hto
    clear hs hto
    by_cases hlx : i < n
    · obtain ⟨x, hx⟩ := HNX.out i hlx
      obtain ⟨g, of, ha, hld⟩ := HLD.out i x hx
      subst ha
      have HLX := Lib.hid hld
      have HVX := Lib.hid (HV.out x (List.mem_of_getElem? hx))
      have HLN := Lib.hid (HLL.out x (List.mem_of_getElem? hx))
      have HTK := Lib.hid (take_oneC (rise_at hx))
      have hol : o.length = i := by have h := congrArg List.length HTO.out; unfold turnT at h; rw [List.length_map, List.length_map, List.length_take, List.length_map, HN.out] at h; omega
      clear hld hx
      obtain ⟨⟨xl, xa, xb, xv, yv⟩, A, C, B, D⟩ := x
      dsimp only [ChV.cells, List.toArray] at HLX
      dsimp only at HVX HLN HTK
      have b1 : o.length + 1 ≤ maxLen := by rw [hol]; unfold maxLen; omega
      have b2 : (o.length + 1) * 72 ≤ 140737488355328 := by rw [hol]; omega
      have HOL := Lib.hid hol
      clear hol
      obtain ⟨na, hna⟩ : ∃ na, xv.length = na := ⟨_, rfl⟩
      obtain ⟨nb, hnb⟩ : ∃ nb, yv.length = nb := ⟨_, rfl⟩
      have HNA := Lib.hid hna
      have HNB := Lib.hid hnb
      rw [hna, hnb] at HLX
      clear hna hnb
      go_upto_region 5 with (((with_reducible refine atLoad (ty := 62) (x := .tmp 10) rfl ?_); refine loadE (by rfl) 62 (.tmp 10) rfl _ (.agg #[.int .i64 xl, .int .i64 xa, .int .i64 xb, .slice A na C, .slice B nb D]) rfl (HLX.out _ HS.out.lo) ?_))
      refine at_world (Φ := fun W => W.heap[wr.heap.size]? = some (.cells #[.int .i64 xl, .int .i64 xa, .int .i64 xb, .slice A na C, .slice B nb D] 62 (0, 0)) ∧ CpS w.heap.size w o u3 W ∧ ∀ k, u3.ownBlock = some k → k < wr.heap.size) ⟨heap_alloc_new wr _, HS.out.below ((Below.refl _ _).alloc (Nat.le_refl _) _), fun k e => (HS.out.row.lt k e).2⟩ ?_
      clear HS
      rintro W9 ⟨hbox, hs9, hne⟩
      have HNE := Lib.hid hne
      clear hne
      generalize wr.heap.size = gb at *
      have HGB := Lib.hid (lt_of_blk hbox)
      have HS9 := Lib.hid hs9
      have HSD := Lib.hid (show CpS w.heap.size w o u3 W9.drew from hs9.below ((Below.refl _ _).drew))
      have HBX := Lib.hid (fun W (h : Below W9.heap.size W9 W) => (h.block _ (lt_of_blk hbox)).trans hbox)
      have HVA := Lib.hid (show ValAt W9.drew A xv ∧ ValAt W9.drew B yv from ⟨HVX.out.1.below HSD.out.lo, HVX.out.2.below HSD.out.lo⟩)
      have HSC := Lib.hid (show ∀ W, Below W9.heap.size W9 W → Below w.heap.size w W ∧ W.heap[gb]? = some (.cells #[.int .i64 xl, .int .i64 xa, .int .i64 xb, .slice A na C, .slice B nb D] 62 (0, 0)) from fun W h => ⟨hs9.lo.trans (h.mono hs9.sz), (h.block _ (lt_of_blk hbox)).trans hbox⟩)
      clear hs9 hbox
      have HNBC := Lib.hid (fun (g c0 : Nat) (W : World) (hg : g < W.heap.size) (hc : W.cell? ⟨g, 0, none⟩ = some (.slice B nb D)) (hw : Below w.heap.size w W) => show Calls Try.prog 31 #[.slice (some ⟨g, 0, none⟩) 1 c0] W fun e w' => ∃ a c, e = .returned (.slice a nb c) ∧ ValAt w' a yv ∧ Below W.heap.size W w' by
        have h := concatOne g c0 B D yv W hg (by rw [HNB.out]; exact hc) (HVX.out.2.below hw) HLN.out.2
        rw [HNB.out] at h
        exact h)
      have HNAC := Lib.hid (fun (g c0 : Nat) (W : World) (hg : g < W.heap.size) (hc : W.cell? ⟨g, 0, none⟩ = some (.slice A na C)) (hw : Below w.heap.size w W) => show Calls Try.prog 31 #[.slice (some ⟨g, 0, none⟩) 1 c0] W fun e w' => ∃ a c, e = .returned (.slice a na c) ∧ ValAt w' a xv ∧ Below W.heap.size W w' by
        have h := concatOne g c0 A C xv W hg (by rw [HNA.out]; exact hc) (HVX.out.1.below hw) HLN.out.1
        rw [HNA.out] at h
        exact h)
      have hC : Below W9.heap.size W9 W9.drew := (Below.refl _ _).drew
      refine wp_region_held_drew (S := fun W => Below w.heap.size w W ∧ W.heap[gb]? = some (.cells #[.int .i64 xl, .int .i64 xa, .int .i64 xb, .slice A na C, .slice B nb D] 62 (0, 0))) (by kernel_rfl) (HSC.out _ hC) (fun hS => ?_)
      refine wpAnyH_take (i := 0) (v := u3) rfl (by kernel_rfl) (by kernel_rfl) (by kernel_rfl) (fun _ _ _ h => h) (Or.inl ⟨by simp [Region.wanted], fun W _ => by go_simp⟩) hS ?_
      simp only [List.getElem_toArray, List.getElem_cons_zero, Act.put, List.setIfInBounds_toArray, List.set_cons_zero, List.set_cons_succ]
      refine wpAnyH_take (i := 1) (v := .pointer (some ⟨gb, 0, none⟩)) rfl (by kernel_rfl) (by kernel_rfl) (by kernel_rfl) (fun _ _ _ h => h) (Or.inl ⟨by simp [Region.wanted], fun W _ => by go_simp⟩) hS ?_
      simp only [List.getElem_toArray, List.getElem_cons_zero, List.getElem_cons_succ, Act.put, List.setIfInBounds_toArray, List.set_cons_zero, List.set_cons_succ]
      refine wpAnyH_take (i := 2) (v := .int .i64 xl) rfl (by kernel_rfl) (by kernel_rfl) (by kernel_rfl) (fun _ _ _ h => h) (Or.inl ⟨by simp [Region.wanted], fun W hW => by have kc := cell_of_row _ _ 0 _ _ _ hW.2; go_simp⟩) hS ?_
      simp only [List.getElem_toArray, List.getElem_cons_zero, List.getElem_cons_succ, Act.put, List.setIfInBounds_toArray, List.set_cons_zero, List.set_cons_succ]
      refine wpAnyH_take (i := 3) (v := .pointer (some ⟨gb, 1, none⟩)) rfl (by kernel_rfl) (by kernel_rfl) (by kernel_rfl) (fun _ _ _ h => h) (Or.inl ⟨by simp [Region.wanted], fun W _ => by go_simp⟩) hS ?_
      simp only [List.getElem_toArray, List.getElem_cons_zero, List.getElem_cons_succ, Act.put, List.setIfInBounds_toArray, List.set_cons_zero, List.set_cons_succ]
      refine wpAnyH_take (i := 4) (v := .int .i64 xa) rfl (by kernel_rfl) (by kernel_rfl) (by kernel_rfl) (fun _ _ _ h => h) (Or.inl ⟨by simp [Region.wanted], fun W hW => by have kc := cell_of_row _ _ 1 _ _ _ hW.2; go_simp⟩) hS ?_
      simp only [List.getElem_toArray, List.getElem_cons_zero, List.getElem_cons_succ, Act.put, List.setIfInBounds_toArray, List.set_cons_zero, List.set_cons_succ]
      refine wpAnyH_take (i := 5) (v := .pointer (some ⟨gb, 2, none⟩)) rfl (by kernel_rfl) (by kernel_rfl) (by kernel_rfl) (fun _ _ _ h => h) (Or.inl ⟨by simp [Region.wanted], fun W _ => by go_simp⟩) hS ?_
      simp only [List.getElem_toArray, List.getElem_cons_zero, List.getElem_cons_succ, Act.put, List.setIfInBounds_toArray, List.set_cons_zero, List.set_cons_succ]
      refine wpAnyH_take (i := 6) (v := .int .i64 xb) rfl (by kernel_rfl) (by kernel_rfl) (by kernel_rfl) (fun _ _ _ h => h) (Or.inl ⟨by simp [Region.wanted], fun W hW => by have kc := cell_of_row _ _ 2 _ _ _ hW.2; go_simp⟩) hS ?_
      simp only [List.getElem_toArray, List.getElem_cons_zero, List.getElem_cons_succ, Act.put, List.setIfInBounds_toArray, List.set_cons_zero, List.set_cons_succ]
      refine wpAnyH_take (i := 7) (v := .pointer (some ⟨gb, 4, none⟩)) rfl (by kernel_rfl) (by kernel_rfl) (by kernel_rfl) (fun _ _ _ h => h) (Or.inl ⟨by simp [Region.wanted], fun W _ => by go_simp⟩) hS ?_
      simp only [List.getElem_toArray, List.getElem_cons_zero, List.getElem_cons_succ, Act.put, List.setIfInBounds_toArray, List.set_cons_zero, List.set_cons_succ]
      refine wpAnyH_take (i := 8) (v := .slice B nb D) rfl (by kernel_rfl) (by kernel_rfl) (by kernel_rfl) (fun _ _ _ h => h) (Or.inl ⟨by simp [Region.wanted], fun W hW => by have kc := cell_of_row _ _ 4 _ _ _ hW.2; go_simp⟩) hS ?_
      simp only [List.getElem_toArray, List.getElem_cons_zero, List.getElem_cons_succ, Act.put, List.setIfInBounds_toArray, List.set_cons_zero, List.set_cons_succ]
      refine wpAnyH_take (i := 11) (v := .pointer (some ⟨gb, 3, none⟩)) rfl (by kernel_rfl) (by kernel_rfl) (by kernel_rfl) (fun _ _ _ h => h) (Or.inl ⟨by simp [Region.wanted], fun W _ => by go_simp⟩) hS ?_
      simp only [List.getElem_toArray, List.getElem_cons_zero, List.getElem_cons_succ, Act.put, List.setIfInBounds_toArray, List.set_cons_zero, List.set_cons_succ]
      refine wpAnyH_take (i := 12) (v := .slice A na C) rfl (by kernel_rfl) (by kernel_rfl) (by kernel_rfl) (fun _ _ _ h => h) (Or.inl ⟨by simp [Region.wanted], fun W hW => by have kc := cell_of_row _ _ 3 _ _ _ hW.2; go_simp⟩) hS ?_
      simp only [List.getElem_toArray, List.getElem_cons_zero, List.getElem_cons_succ, Act.put, List.setIfInBounds_toArray, List.set_cons_zero, List.set_cons_succ]
      refine wpAnyH_ready (rs := [9, 13]) (by kernel_rfl) (by simp) ?_
      refine AllReadyH.cons rfl (fun KA hKA => ?_) (AllReadyH.cons rfl (fun KA hKA => ?_) AllReadyH.nil)
      · refine wanted_go rfl ?_
        simp only [List.getElem_toArray, List.getElem_cons_zero, List.getElem_cons_succ]
        go_wp2
        have hx1 := heap_alloc_new W9.drew (.cells #[.slice B nb D] 45)
        have hb1 : Below (W9.drew).heap.size W9.drew ((W9.drew).alloc (.cells #[.slice B nb D] 45)) := (Below.refl _ _).alloc (Nat.le_refl _) _
        have HX1 := Lib.hid (fun W (h : Below ((W9.drew).alloc (.cells #[.slice B nb D] 45)).heap.size ((W9.drew).alloc (.cells #[.slice B nb D] 45)) W) => show W.cell? ⟨W9.heap.size, 0, none⟩ = some (.slice B nb D) by rw [show W9.heap.size = (W9.drew).heap.size by simp]; exact cell_of_row _ _ 0 _ _ _ ((h.block _ (lt_of_blk hx1)).trans hx1))
        have HL1 := Lib.hid (show W9.heap.size < ((W9.drew).alloc (.cells #[.slice B nb D] 45)).heap.size by simp)
        have hC1 := hC.trans (hb1.mono hC.size)
        refine hKA.out _ _ (HSC.out _ hC1) (fun qhC1 => ?_)
        clear hx1 hb1
        refine wpAnyH_ready (rs := [10, 13]) (by kernel_rfl) (by simp) ?_
        refine AllReadyH.cons rfl (fun KB hKB => ?_) (AllReadyH.cons rfl (fun KB hKB => ?_) AllReadyH.nil)
        · refine wanted_go rfl ?_
          simp only [List.getElem_toArray, List.getElem_cons_zero, List.getElem_cons_succ]
          go_wp2_with (go_at_call 31; refine (HNBC.out _ _ (W9.drew.alloc (.cells #[.slice B nb D] 45)) (HL1.out) (HX1.out _ (Below.refl _ _)) (HSC.out _ (hC1)).1).mono ?_; rintro e w4 ⟨a1, c1, rfl, hv1, hb1⟩; have HV1 := Lib.hid hv1; have HB1 := Lib.hid hb1; clear hv1 hb1)
          have hC2 := hC1.trans (HB1.out.mono hC1.size)
          refine hKB.out _ _ (HSC.out _ hC2) (fun qhC2 => ?_)
          refine wpAnyH_ready (rs := [13]) (by kernel_rfl) (by simp) ?_
          refine AllReadyH.cons rfl (fun KC hKC => ?_) AllReadyH.nil
          refine wanted_go rfl ?_
          simp only [List.getElem_toArray, List.getElem_cons_zero, List.getElem_cons_succ]
          go_wp2
          have hx2 := heap_alloc_new w4 (.cells #[.slice A na C] 45)
          have hb2 : Below (w4).heap.size w4 ((w4).alloc (.cells #[.slice A na C] 45)) := (Below.refl _ _).alloc (Nat.le_refl _) _
          have HX2 := Lib.hid (fun W (h : Below ((w4).alloc (.cells #[.slice A na C] 45)).heap.size ((w4).alloc (.cells #[.slice A na C] 45)) W) => show W.cell? ⟨w4.heap.size, 0, none⟩ = some (.slice A na C) by rw [show w4.heap.size = (w4).heap.size by simp]; exact cell_of_row _ _ 0 _ _ _ ((h.block _ (lt_of_blk hx2)).trans hx2))
          have HL2 := Lib.hid (show w4.heap.size < ((w4).alloc (.cells #[.slice A na C] 45)).heap.size by simp)
          have hC3 := hC2.trans (hb2.mono hC2.size)
          refine hKC.out _ _ (HSC.out _ hC3) (fun qhC3 => ?_)
          clear hx2 hb2
          refine wpAnyH_ready (rs := [14]) (by kernel_rfl) (by simp) ?_
          refine AllReadyH.cons rfl (fun KD hKD => ?_) AllReadyH.nil
          refine wanted_go rfl ?_
          simp only [List.getElem_toArray, List.getElem_cons_zero, List.getElem_cons_succ]
          go_wp2_with (go_at_call 31; refine (HNAC.out _ _ (w4.alloc (.cells #[.slice A na C] 45)) (HL2.out) (HX2.out _ (Below.refl _ _)) (HSC.out _ (hC3)).1).mono ?_; rintro e w5 ⟨a2, c2, rfl, hv2, hb2⟩; have HV2 := Lib.hid hv2; have HB2 := Lib.hid hb2; clear hv2 hb2)
          have hC4 := hC3.trans (HB2.out.mono hC3.size)
          refine hKD.out _ _ (HSC.out _ hC4) (fun qhC4 => ?_)
          have HB45 := Lib.hid (show Below w4.heap.size w4 w5 from ((Below.refl _ _).alloc (Nat.le_refl _) (.cells #[.slice A na C] 45)).trans (HB2.out.mono (by simp)))
          have HSX := Lib.hid (show CpS w.heap.size w o u3 w5 from HS9.out.below hC4)
          have HVV := Lib.hid (show ValAt w5 a1 yv ∧ ValAt w5 a2 xv from ⟨HV1.out.below HB45.out, HV2.out⟩)
          refine wpAnyH_take (i := 15) (v := .agg #[.int .i64 xl, .int .i64 xa, .int .i64 xb, .slice a1 nb c1, .slice a2 na c2]) rfl (by kernel_rfl) (by kernel_rfl) (by kernel_rfl) (fun _ _ _ h => h) (Or.inl ⟨by simp [Region.wanted], fun W _ => by go_simp⟩) qhC4 ?_
          simp only [List.getElem_toArray, List.getElem_cons_zero, List.getElem_cons_succ, Act.put, List.setIfInBounds_toArray, List.set_cons_zero, List.set_cons_succ]
          refine wpAnyH_ready (rs := [16]) (by kernel_rfl) (by simp) ?_
          refine AllReadyH.cons rfl (fun KP hKP => ?_) AllReadyH.nil
          refine wanted_go rfl ?_
          simp only [List.getElem_toArray, List.getElem_cons_zero, List.getElem_cons_succ]
          go_wp2
          refine hKP.out _ _ (HSC.out _ (hC4.alloc hC4.size _)) (fun hSP => ?_)
          refine wpAnyH_ready (rs := [17]) (by kernel_rfl) (by simp) ?_
          refine AllReadyH.cons rfl (fun KQ hKQ => ?_) AllReadyH.nil
          refine wanted_go rfl ?_
          simp only [List.getElem_toArray, List.getElem_cons_zero, List.getElem_cons_succ]
          (obtain ⟨v', w9, hr, hown, hgrow, _⟩ := run_append_own (P := Try.prog) (w := w5.alloc (.cells #[.int .i64 xl, .int .i64 xa, .int .i64 xb, .slice a1 nb c1, .slice a2 na c2] 62)) w.heap.size 30 30 62 i0 _ 5 72 Try.underlying30 hi0 hz0 hz1 hz2 rfl (by decide) _ _ _ (HSX.out.row.alloc _) ⟨w5.heap.size, 0, none⟩ 1 1 [.int .i64 xl, .int .i64 xa, .int .i64 xb, .slice a1 nb c1, .slice a2 na c2] rfl (fun j u hu => new_cells w5 [.int .i64 xl, .int .i64 xa, .int .i64 xb, .slice a1 nb c1, .slice a2 na c2] 62 j u hu) (by have h := one_chV ⟨⟨xl, xa, xb, yv, xv⟩, a1, c1, a2, c2⟩; rw [show (ChV.cells ⟨⟨xl, xa, xb, yv, xv⟩, a1, c1, a2, c2⟩) = [.int .i64 xl, .int .i64 xa, .int .i64 xb, .slice a1 nb c1, .slice a2 na c2] by simp only [ChV.cells, HNA.out, HNB.out]] at h; exact h) b1 b2 (by have := HSX.out.sz; rw [World.size_alloc]; omega); have HA := Lib.hid (HSX.out.app (x := ⟨⟨xl, xa, xb, yv, xv⟩, a1, c1, a2, c2⟩) HVV.out (by rw [show (ChV.cells ⟨⟨xl, xa, xb, yv, xv⟩, a1, c1, a2, c2⟩) = [.int .i64 xl, .int .i64 xa, .int .i64 xb, .slice a1 nb c1, .slice a2 na c2] by simp only [ChV.cells, HNA.out, HNB.out]]; exact hown) hgrow); refine Lib.wp_append_run _ _ _ _ _ rfl _ _ rfl rfl _ _ hr ?_)
          refine hKQ.out _ _ ⟨HA.out.lo, (hgrow.block gb (by have := qhC4.1.size; have := hC4.size; rw [World.size_alloc]; have := HGB.out; omega) (fun e => by have := HNE.out gb e.symm; omega)).trans hSP.2⟩ (fun hSQ => ?_)
          refine wpAnyH_take (i := 18) (v := v') rfl (by kernel_rfl) (by kernel_rfl) (by kernel_rfl) (fun _ _ _ h => h) (Or.inl ⟨by simp [Region.wanted], fun W _ => by go_simp⟩) hSQ ?_
          simp only [List.getElem_toArray, List.getElem_cons_zero, List.getElem_cons_succ, Act.put, List.setIfInBounds_toArray, List.set_cons_zero, List.set_cons_succ]
          refine wpAnyH_done (by kernel_rfl) ?_ _
          have HT := Lib.hid HA.out
          clear HA
          go_wp2
          go_roundw
          case rel => exact ⟨i + 1, _, by go_num, by omega, HT.out, by rw [HTK.out, turnT, List.map_append, List.map_append, HTO.out]; rfl⟩
          case measure => simp [intOf]; omega
        · refine wanted_go rfl ?_
          simp only [List.getElem_toArray, List.getElem_cons_zero, List.getElem_cons_succ]
          go_wp2
          have hx2 := heap_alloc_new (W9.drew.alloc (.cells #[.slice B nb D] 45)) (.cells #[.slice A na C] 45)
          have hb2 : Below ((W9.drew.alloc (.cells #[.slice B nb D] 45))).heap.size (W9.drew.alloc (.cells #[.slice B nb D] 45)) (((W9.drew.alloc (.cells #[.slice B nb D] 45))).alloc (.cells #[.slice A na C] 45)) := (Below.refl _ _).alloc (Nat.le_refl _) _
          have HX2 := Lib.hid (fun W (h : Below (((W9.drew.alloc (.cells #[.slice B nb D] 45))).alloc (.cells #[.slice A na C] 45)).heap.size (((W9.drew.alloc (.cells #[.slice B nb D] 45))).alloc (.cells #[.slice A na C] 45)) W) => show W.cell? ⟨W9.heap.size + 1, 0, none⟩ = some (.slice A na C) by rw [show W9.heap.size + 1 = ((W9.drew.alloc (.cells #[.slice B nb D] 45))).heap.size by simp]; exact cell_of_row _ _ 0 _ _ _ ((h.block _ (lt_of_blk hx2)).trans hx2))
          have HL2 := Lib.hid (show W9.heap.size + 1 < (((W9.drew.alloc (.cells #[.slice B nb D] 45))).alloc (.cells #[.slice A na C] 45)).heap.size by simp)
          have hC2 := hC1.trans (hb2.mono hC1.size)
          refine hKB.out _ _ (HSC.out _ hC2) (fun qhC2 => ?_)
          clear hx2 hb2
          refine wpAnyH_ready (rs := [10]) (by kernel_rfl) (by simp) ?_
          refine AllReadyH.cons rfl (fun KC hKC => ?_) AllReadyH.nil
          refine wanted_go rfl ?_
          simp only [List.getElem_toArray, List.getElem_cons_zero, List.getElem_cons_succ]
          go_wp2_with (go_at_call 31; refine (HNBC.out _ _ ((W9.drew.alloc (.cells #[.slice B nb D] 45)).alloc (.cells #[.slice A na C] 45)) (Nat.lt_of_lt_of_le HL1.out ((Below.refl _ (W9.drew.alloc (.cells #[.slice B nb D] 45))).alloc (Nat.le_refl _) (.cells #[.slice A na C] 45)).size) (HX1.out _ ((Below.refl _ (W9.drew.alloc (.cells #[.slice B nb D] 45))).alloc (Nat.le_refl _) (.cells #[.slice A na C] 45))) (HSC.out _ (hC2)).1).mono ?_; rintro e w4 ⟨a1, c1, rfl, hv1, hb1⟩; have HV1 := Lib.hid hv1; have HB1 := Lib.hid hb1; clear hv1 hb1)
          have hC3 := hC2.trans (HB1.out.mono hC2.size)
          refine hKC.out _ _ (HSC.out _ hC3) (fun qhC3 => ?_)
          refine wpAnyH_ready (rs := [14]) (by kernel_rfl) (by simp) ?_
          refine AllReadyH.cons rfl (fun KD hKD => ?_) AllReadyH.nil
          refine wanted_go rfl ?_
          simp only [List.getElem_toArray, List.getElem_cons_zero, List.getElem_cons_succ]
          go_wp2_with (go_at_call 31; refine (HNAC.out _ _ w4 (Nat.lt_of_lt_of_le HL2.out (HB1.out).size) (HX2.out _ (HB1.out)) (HSC.out _ (hC3)).1).mono ?_; rintro e w5 ⟨a2, c2, rfl, hv2, hb2⟩; have HV2 := Lib.hid hv2; have HB2 := Lib.hid hb2; clear hv2 hb2)
          have hC4 := hC3.trans (HB2.out.mono hC3.size)
          refine hKD.out _ _ (HSC.out _ hC4) (fun qhC4 => ?_)
          have HB45 := Lib.hid HB2.out
          have HSX := Lib.hid (show CpS w.heap.size w o u3 w5 from HS9.out.below hC4)
          have HVV := Lib.hid (show ValAt w5 a1 yv ∧ ValAt w5 a2 xv from ⟨HV1.out.below HB45.out, HV2.out⟩)
          refine wpAnyH_take (i := 15) (v := .agg #[.int .i64 xl, .int .i64 xa, .int .i64 xb, .slice a1 nb c1, .slice a2 na c2]) rfl (by kernel_rfl) (by kernel_rfl) (by kernel_rfl) (fun _ _ _ h => h) (Or.inl ⟨by simp [Region.wanted], fun W _ => by go_simp⟩) qhC4 ?_
          simp only [List.getElem_toArray, List.getElem_cons_zero, List.getElem_cons_succ, Act.put, List.setIfInBounds_toArray, List.set_cons_zero, List.set_cons_succ]
          refine wpAnyH_ready (rs := [16]) (by kernel_rfl) (by simp) ?_
          refine AllReadyH.cons rfl (fun KP hKP => ?_) AllReadyH.nil
          refine wanted_go rfl ?_
          simp only [List.getElem_toArray, List.getElem_cons_zero, List.getElem_cons_succ]
          go_wp2
          refine hKP.out _ _ (HSC.out _ (hC4.alloc hC4.size _)) (fun hSP => ?_)
          refine wpAnyH_ready (rs := [17]) (by kernel_rfl) (by simp) ?_
          refine AllReadyH.cons rfl (fun KQ hKQ => ?_) AllReadyH.nil
          refine wanted_go rfl ?_
          simp only [List.getElem_toArray, List.getElem_cons_zero, List.getElem_cons_succ]
          (obtain ⟨v', w9, hr, hown, hgrow, _⟩ := run_append_own (P := Try.prog) (w := w5.alloc (.cells #[.int .i64 xl, .int .i64 xa, .int .i64 xb, .slice a1 nb c1, .slice a2 na c2] 62)) w.heap.size 30 30 62 i0 _ 5 72 Try.underlying30 hi0 hz0 hz1 hz2 rfl (by decide) _ _ _ (HSX.out.row.alloc _) ⟨w5.heap.size, 0, none⟩ 1 1 [.int .i64 xl, .int .i64 xa, .int .i64 xb, .slice a1 nb c1, .slice a2 na c2] rfl (fun j u hu => new_cells w5 [.int .i64 xl, .int .i64 xa, .int .i64 xb, .slice a1 nb c1, .slice a2 na c2] 62 j u hu) (by have h := one_chV ⟨⟨xl, xa, xb, yv, xv⟩, a1, c1, a2, c2⟩; rw [show (ChV.cells ⟨⟨xl, xa, xb, yv, xv⟩, a1, c1, a2, c2⟩) = [.int .i64 xl, .int .i64 xa, .int .i64 xb, .slice a1 nb c1, .slice a2 na c2] by simp only [ChV.cells, HNA.out, HNB.out]] at h; exact h) b1 b2 (by have := HSX.out.sz; rw [World.size_alloc]; omega); have HA := Lib.hid (HSX.out.app (x := ⟨⟨xl, xa, xb, yv, xv⟩, a1, c1, a2, c2⟩) HVV.out (by rw [show (ChV.cells ⟨⟨xl, xa, xb, yv, xv⟩, a1, c1, a2, c2⟩) = [.int .i64 xl, .int .i64 xa, .int .i64 xb, .slice a1 nb c1, .slice a2 na c2] by simp only [ChV.cells, HNA.out, HNB.out]]; exact hown) hgrow); refine Lib.wp_append_run _ _ _ _ _ rfl _ _ rfl rfl _ _ hr ?_)
          refine hKQ.out _ _ ⟨HA.out.lo, (hgrow.block gb (by have := qhC4.1.size; have := hC4.size; rw [World.size_alloc]; have := HGB.out; omega) (fun e => by have := HNE.out gb e.symm; omega)).trans hSP.2⟩ (fun hSQ => ?_)
          refine wpAnyH_take (i := 18) (v := v') rfl (by kernel_rfl) (by kernel_rfl) (by kernel_rfl) (fun _ _ _ h => h) (Or.inl ⟨by simp [Region.wanted], fun W _ => by go_simp⟩) hSQ ?_
          simp only [List.getElem_toArray, List.getElem_cons_zero, List.getElem_cons_succ, Act.put, List.setIfInBounds_toArray, List.set_cons_zero, List.set_cons_succ]
          refine wpAnyH_done (by kernel_rfl) ?_ _
          have HT := Lib.hid HA.out
          clear HA
          go_wp2
          go_roundw
          case rel => exact ⟨i + 1, _, by go_num, by omega, HT.out, by rw [HTK.out, turnT, List.map_append, List.map_append, HTO.out]; rfl⟩
          case measure => simp [intOf]; omega
      · refine wanted_go rfl ?_
        simp only [List.getElem_toArray, List.getElem_cons_zero, List.getElem_cons_succ]
        go_wp2
        have hx2 := heap_alloc_new W9.drew (.cells #[.slice A na C] 45)
        have hb2 : Below (W9.drew).heap.size W9.drew ((W9.drew).alloc (.cells #[.slice A na C] 45)) := (Below.refl _ _).alloc (Nat.le_refl _) _
        have HX2 := Lib.hid (fun W (h : Below ((W9.drew).alloc (.cells #[.slice A na C] 45)).heap.size ((W9.drew).alloc (.cells #[.slice A na C] 45)) W) => show W.cell? ⟨W9.heap.size, 0, none⟩ = some (.slice A na C) by rw [show W9.heap.size = (W9.drew).heap.size by simp]; exact cell_of_row _ _ 0 _ _ _ ((h.block _ (lt_of_blk hx2)).trans hx2))
        have HL2 := Lib.hid (show W9.heap.size < ((W9.drew).alloc (.cells #[.slice A na C] 45)).heap.size by simp)
        have hC1 := hC.trans (hb2.mono hC.size)
        refine hKA.out _ _ (HSC.out _ hC1) (fun qhC1 => ?_)
        clear hx2 hb2
        refine wpAnyH_ready (rs := [9]) (by kernel_rfl) (by simp) ?_
        refine AllReadyH.cons rfl (fun KB hKB => ?_) AllReadyH.nil
        refine wanted_go rfl ?_
        simp only [List.getElem_toArray, List.getElem_cons_zero, List.getElem_cons_succ]
        go_wp2
        have hx1 := heap_alloc_new (W9.drew.alloc (.cells #[.slice A na C] 45)) (.cells #[.slice B nb D] 45)
        have hb1 : Below ((W9.drew.alloc (.cells #[.slice A na C] 45))).heap.size (W9.drew.alloc (.cells #[.slice A na C] 45)) (((W9.drew.alloc (.cells #[.slice A na C] 45))).alloc (.cells #[.slice B nb D] 45)) := (Below.refl _ _).alloc (Nat.le_refl _) _
        have HX1 := Lib.hid (fun W (h : Below (((W9.drew.alloc (.cells #[.slice A na C] 45))).alloc (.cells #[.slice B nb D] 45)).heap.size (((W9.drew.alloc (.cells #[.slice A na C] 45))).alloc (.cells #[.slice B nb D] 45)) W) => show W.cell? ⟨W9.heap.size + 1, 0, none⟩ = some (.slice B nb D) by rw [show W9.heap.size + 1 = ((W9.drew.alloc (.cells #[.slice A na C] 45))).heap.size by simp]; exact cell_of_row _ _ 0 _ _ _ ((h.block _ (lt_of_blk hx1)).trans hx1))
        have HL1 := Lib.hid (show W9.heap.size + 1 < (((W9.drew.alloc (.cells #[.slice A na C] 45))).alloc (.cells #[.slice B nb D] 45)).heap.size by simp)
        have hC2 := hC1.trans (hb1.mono hC1.size)
        refine hKB.out _ _ (HSC.out _ hC2) (fun qhC2 => ?_)
        clear hx1 hb1
        refine wpAnyH_ready (rs := [10]) (by kernel_rfl) (by simp) ?_
        refine AllReadyH.cons rfl (fun KC hKC => ?_) AllReadyH.nil
        refine wanted_go rfl ?_
        simp only [List.getElem_toArray, List.getElem_cons_zero, List.getElem_cons_succ]
        go_wp2_with (go_at_call 31; refine (HNBC.out _ _ ((W9.drew.alloc (.cells #[.slice A na C] 45)).alloc (.cells #[.slice B nb D] 45)) (HL1.out) (HX1.out _ (Below.refl _ _)) (HSC.out _ (hC2)).1).mono ?_; rintro e w4 ⟨a1, c1, rfl, hv1, hb1⟩; have HV1 := Lib.hid hv1; have HB1 := Lib.hid hb1; clear hv1 hb1)
        have hC3 := hC2.trans (HB1.out.mono hC2.size)
        refine hKC.out _ _ (HSC.out _ hC3) (fun qhC3 => ?_)
        refine wpAnyH_ready (rs := [14]) (by kernel_rfl) (by simp) ?_
        refine AllReadyH.cons rfl (fun KD hKD => ?_) AllReadyH.nil
        refine wanted_go rfl ?_
        simp only [List.getElem_toArray, List.getElem_cons_zero, List.getElem_cons_succ]
        go_wp2_with (go_at_call 31; refine (HNAC.out _ _ w4 (Nat.lt_of_lt_of_le HL2.out (((Below.refl _ (W9.drew.alloc (.cells #[.slice A na C] 45))).alloc (Nat.le_refl _) (.cells #[.slice B nb D] 45)).trans (HB1.out.mono (by simp))).size) (HX2.out _ (((Below.refl _ (W9.drew.alloc (.cells #[.slice A na C] 45))).alloc (Nat.le_refl _) (.cells #[.slice B nb D] 45)).trans (HB1.out.mono (by simp)))) (HSC.out _ (hC3)).1).mono ?_; rintro e w5 ⟨a2, c2, rfl, hv2, hb2⟩; have HV2 := Lib.hid hv2; have HB2 := Lib.hid hb2; clear hv2 hb2)
        have hC4 := hC3.trans (HB2.out.mono hC3.size)
        refine hKD.out _ _ (HSC.out _ hC4) (fun qhC4 => ?_)
        have HB45 := Lib.hid HB2.out
        have HSX := Lib.hid (show CpS w.heap.size w o u3 w5 from HS9.out.below hC4)
        have HVV := Lib.hid (show ValAt w5 a1 yv ∧ ValAt w5 a2 xv from ⟨HV1.out.below HB45.out, HV2.out⟩)
        refine wpAnyH_take (i := 15) (v := .agg #[.int .i64 xl, .int .i64 xa, .int .i64 xb, .slice a1 nb c1, .slice a2 na c2]) rfl (by kernel_rfl) (by kernel_rfl) (by kernel_rfl) (fun _ _ _ h => h) (Or.inl ⟨by simp [Region.wanted], fun W _ => by go_simp⟩) qhC4 ?_
        simp only [List.getElem_toArray, List.getElem_cons_zero, List.getElem_cons_succ, Act.put, List.setIfInBounds_toArray, List.set_cons_zero, List.set_cons_succ]
        refine wpAnyH_ready (rs := [16]) (by kernel_rfl) (by simp) ?_
        refine AllReadyH.cons rfl (fun KP hKP => ?_) AllReadyH.nil
        refine wanted_go rfl ?_
        simp only [List.getElem_toArray, List.getElem_cons_zero, List.getElem_cons_succ]
        go_wp2
        refine hKP.out _ _ (HSC.out _ (hC4.alloc hC4.size _)) (fun hSP => ?_)
        refine wpAnyH_ready (rs := [17]) (by kernel_rfl) (by simp) ?_
        refine AllReadyH.cons rfl (fun KQ hKQ => ?_) AllReadyH.nil
        refine wanted_go rfl ?_
        simp only [List.getElem_toArray, List.getElem_cons_zero, List.getElem_cons_succ]
        (obtain ⟨v', w9, hr, hown, hgrow, _⟩ := run_append_own (P := Try.prog) (w := w5.alloc (.cells #[.int .i64 xl, .int .i64 xa, .int .i64 xb, .slice a1 nb c1, .slice a2 na c2] 62)) w.heap.size 30 30 62 i0 _ 5 72 Try.underlying30 hi0 hz0 hz1 hz2 rfl (by decide) _ _ _ (HSX.out.row.alloc _) ⟨w5.heap.size, 0, none⟩ 1 1 [.int .i64 xl, .int .i64 xa, .int .i64 xb, .slice a1 nb c1, .slice a2 na c2] rfl (fun j u hu => new_cells w5 [.int .i64 xl, .int .i64 xa, .int .i64 xb, .slice a1 nb c1, .slice a2 na c2] 62 j u hu) (by have h := one_chV ⟨⟨xl, xa, xb, yv, xv⟩, a1, c1, a2, c2⟩; rw [show (ChV.cells ⟨⟨xl, xa, xb, yv, xv⟩, a1, c1, a2, c2⟩) = [.int .i64 xl, .int .i64 xa, .int .i64 xb, .slice a1 nb c1, .slice a2 na c2] by simp only [ChV.cells, HNA.out, HNB.out]] at h; exact h) b1 b2 (by have := HSX.out.sz; rw [World.size_alloc]; omega); have HA := Lib.hid (HSX.out.app (x := ⟨⟨xl, xa, xb, yv, xv⟩, a1, c1, a2, c2⟩) HVV.out (by rw [show (ChV.cells ⟨⟨xl, xa, xb, yv, xv⟩, a1, c1, a2, c2⟩) = [.int .i64 xl, .int .i64 xa, .int .i64 xb, .slice a1 nb c1, .slice a2 na c2] by simp only [ChV.cells, HNA.out, HNB.out]]; exact hown) hgrow); refine Lib.wp_append_run _ _ _ _ _ rfl _ _ rfl rfl _ _ hr ?_)
        refine hKQ.out _ _ ⟨HA.out.lo, (hgrow.block gb (by have := qhC4.1.size; have := hC4.size; rw [World.size_alloc]; have := HGB.out; omega) (fun e => by have := HNE.out gb e.symm; omega)).trans hSP.2⟩ (fun hSQ => ?_)
        refine wpAnyH_take (i := 18) (v := v') rfl (by kernel_rfl) (by kernel_rfl) (by kernel_rfl) (fun _ _ _ h => h) (Or.inl ⟨by simp [Region.wanted], fun W _ => by go_simp⟩) hSQ ?_
        simp only [List.getElem_toArray, List.getElem_cons_zero, List.getElem_cons_succ, Act.put, List.setIfInBounds_toArray, List.set_cons_zero, List.set_cons_succ]
        refine wpAnyH_done (by kernel_rfl) ?_ _
        have HT := Lib.hid HA.out
        clear HA
        go_wp2
        go_roundw
        case rel => exact ⟨i + 1, _, by go_num, by omega, HT.out, by rw [HTK.out, turnT, List.map_append, List.map_append, HTO.out]; rfl⟩
        case measure => simp [intOf]; omega
    · have HF := Lib.hid (show (l.map ChV.c).take i = l.map ChV.c by rw [List.take_of_length_le]; rw [List.length_map, HN.out]; omega)
      go_wp2
      go_ret
      exact ⟨_, _, rfl, HS.out, by rw [← HF.out]; exact HTO.out⟩
end Go.Proofs.Ytellifcjamedkaa

namespace Go.Proofs.Ytellifcjamedkaa
open Go.RowKit Base Base2

theorem eqC_iff {x y : ChT} : (x.l = y.l ∧ x.a = y.a ∧ x.b = y.b ∧ x.was = y.was ∧ x.now = y.now) ↔ x = y :=
  ⟨fun h => ChV.ext_c h.1 h.2.1 h.2.2.1 h.2.2.2.1 h.2.2.2.2, fun h => by subst h; exact ⟨rfl, rfl, rfl, rfl, rfl⟩⟩
set_option maxRecDepth 100000 in
set_option maxHeartbeats 8000000 in
theorem same33 (x y : ChV) (w : World) (hx : ValAt w x.a1 x.c.was ∧ ValAt w x.a2 x.c.now) (hy : ValAt w y.a1 y.c.was ∧ ValAt w y.a2 y.c.now) (hl : x.c.was.length ≤ 100000 ∧ x.c.now.length ≤ 100000) (R : Bool) (hR : R = true ↔ x.c = y.c) :
    Calls Try.prog 33 #[.agg x.cells.toArray, .agg y.cells.toArray] w fun e w' => e = .returned (.bool R) ∧ Below w.heap.size w w' := by
  have HW := Lib.hid (fun W (h : Below w.heap.size w W) => equalI x.a1 y.a1 x.c1 y.c1 x.c.was y.c.was W ((hx.1.below h).i64s) ((hy.1.below h).i64s) hl.1)
  have HN := Lib.hid (fun W (h : Below w.heap.size w W) => equalI x.a2 y.a2 x.c2 y.c2 x.c.now y.c.now W ((hx.2.below h).i64s) ((hy.2.below h).i64s) hl.2)
  have HR := Lib.hid (hR.trans eqC_iff.symm)
  clear hR hx hy hl
  obtain ⟨⟨xl, xa, xb, xv, xn⟩, A1, C1, A2, C2⟩ := x
  obtain ⟨⟨yl, ya, yb, yv, yn⟩, B1, D1, B2, D2⟩ := y
  dsimp only [ChV.cells, List.toArray] at HW HN HR ⊢
  obtain ⟨r0, g0⟩ : ∃ r : Bool, (xl == yl) = r := ⟨_, rfl⟩
  obtain ⟨r1, g1⟩ : ∃ r : Bool, (xa == ya) = r := ⟨_, rfl⟩
  obtain ⟨r2, g2⟩ : ∃ r : Bool, (xb == yb) = r := ⟨_, rfl⟩
  obtain ⟨r3, g3⟩ : ∃ r : Bool, (xv == yv) = r := ⟨_, rfl⟩
  obtain ⟨r4, g4⟩ : ∃ r : Bool, (xn == yn) = r := ⟨_, rfl⟩
  rw [g3] at HW
  rw [g4] at HN
  have HP := Lib.hid (show R = (r0 && r1 && r2 && r3 && r4) by
    rw [Bool.eq_iff_iff, HR.out, ← g0, ← g1, ← g2, ← g3, ← g4]
    simp only [Bool.and_eq_true, beq_iff_eq, and_assoc])
  clear HR g3 g4
  obtain ⟨n1, hn1⟩ : ∃ n, xv.length = n := ⟨_, rfl⟩
  obtain ⟨n2, hn2⟩ : ∃ n, xn.length = n := ⟨_, rfl⟩
  obtain ⟨m1, hm1⟩ : ∃ n, yv.length = n := ⟨_, rfl⟩
  obtain ⟨m2, hm2⟩ : ∃ n, yn.length = n := ⟨_, rfl⟩
  rw [hn1, hm1] at HW
  rw [hn2, hm2] at HN
  rw [hn1, hn2, hm1, hm2]
  clear hn1 hn2 hm1 hm2
  have HB := Lib.hid (show Below w.heap.size w ((w.alloc (.cells #[.int .i64 xl, .int .i64 xa, .int .i64 xb, .slice A1 n1 C1, .slice A2 n2 C2] 62)).alloc (.cells #[.int .i64 yl, .int .i64 ya, .int .i64 yb, .slice B1 m1 D1, .slice B2 m2 D2] 62)) from ((Below.refl _ w).alloc (Nat.le_refl _) _).alloc (by simp) _)
  cases r0 with
  | false =>
    go_enter Try.func33, Try.ntmps33
    go_wp2_with (first | (have hq := H1.out; clear hq; go_at_call 20; refine (HN.out _ H1.out).mono ?_; rintro e w2 ⟨rfl, k, hw2⟩; have H2 := Lib.hid (show Below w.heap.size w w2 by rw [hw2]; exact H1.out.trans ((below_drews k).mono H1.out.size)); clear hw2) | (go_at_call 20; refine (HW.out _ HB.out).mono ?_; rintro e w1 ⟨rfl, j, hw1⟩; have H1 := Lib.hid (show Below w.heap.size w w1 by rw [hw1]; exact HB.out.trans ((below_drews j).mono HB.out.size)); have q4 : w1.cell? ⟨w.heap.size, 4, none⟩ = some (.slice A2 n2 C2) := (by rw [hw1]; show World.cell? ((w.alloc (.cells #[.int .i64 xl, .int .i64 xa, .int .i64 xb, .slice A1 n1 C1, .slice A2 n2 C2] 62)).alloc (.cells #[.int .i64 yl, .int .i64 ya, .int .i64 yb, .slice B1 m1 D1, .slice B2 m2 D2] 62)) _ = _; rw [cell_of_row _ _ _ _ _ _ two_new.1]; rfl); have q5 : w1.cell? ⟨w.heap.size + 1, 4, none⟩ = some (.slice B2 m2 D2) := (by rw [hw1]; show World.cell? ((w.alloc (.cells #[.int .i64 xl, .int .i64 xa, .int .i64 xb, .slice A1 n1 C1, .slice A2 n2 C2] 62)).alloc (.cells #[.int .i64 yl, .int .i64 ya, .int .i64 yb, .slice B1 m1 D1, .slice B2 m2 D2] 62)) _ = _; rw [cell_of_row _ _ _ _ _ _ two_new.2]; rfl); clear hw1))
    go_ret
    exact ⟨ret_bool (by rw [HP.out]; cases r1 <;> cases r2 <;> cases r3 <;> cases r4 <;> rfl), HB.out⟩
  | true =>
    cases r1 with
    | false =>
      go_enter Try.func33, Try.ntmps33
      go_wp2_with (first | (have hq := H1.out; clear hq; go_at_call 20; refine (HN.out _ H1.out).mono ?_; rintro e w2 ⟨rfl, k, hw2⟩; have H2 := Lib.hid (show Below w.heap.size w w2 by rw [hw2]; exact H1.out.trans ((below_drews k).mono H1.out.size)); clear hw2) | (go_at_call 20; refine (HW.out _ HB.out).mono ?_; rintro e w1 ⟨rfl, j, hw1⟩; have H1 := Lib.hid (show Below w.heap.size w w1 by rw [hw1]; exact HB.out.trans ((below_drews j).mono HB.out.size)); have q4 : w1.cell? ⟨w.heap.size, 4, none⟩ = some (.slice A2 n2 C2) := (by rw [hw1]; show World.cell? ((w.alloc (.cells #[.int .i64 xl, .int .i64 xa, .int .i64 xb, .slice A1 n1 C1, .slice A2 n2 C2] 62)).alloc (.cells #[.int .i64 yl, .int .i64 ya, .int .i64 yb, .slice B1 m1 D1, .slice B2 m2 D2] 62)) _ = _; rw [cell_of_row _ _ _ _ _ _ two_new.1]; rfl); have q5 : w1.cell? ⟨w.heap.size + 1, 4, none⟩ = some (.slice B2 m2 D2) := (by rw [hw1]; show World.cell? ((w.alloc (.cells #[.int .i64 xl, .int .i64 xa, .int .i64 xb, .slice A1 n1 C1, .slice A2 n2 C2] 62)).alloc (.cells #[.int .i64 yl, .int .i64 ya, .int .i64 yb, .slice B1 m1 D1, .slice B2 m2 D2] 62)) _ = _; rw [cell_of_row _ _ _ _ _ _ two_new.2]; rfl); clear hw1))
      go_ret
      exact ⟨ret_bool (by rw [HP.out]; cases r2 <;> cases r3 <;> cases r4 <;> rfl), HB.out⟩
    | true =>
      cases r2 with
      | false =>
        go_enter Try.func33, Try.ntmps33
        go_wp2_with (first | (have hq := H1.out; clear hq; go_at_call 20; refine (HN.out _ H1.out).mono ?_; rintro e w2 ⟨rfl, k, hw2⟩; have H2 := Lib.hid (show Below w.heap.size w w2 by rw [hw2]; exact H1.out.trans ((below_drews k).mono H1.out.size)); clear hw2) | (go_at_call 20; refine (HW.out _ HB.out).mono ?_; rintro e w1 ⟨rfl, j, hw1⟩; have H1 := Lib.hid (show Below w.heap.size w w1 by rw [hw1]; exact HB.out.trans ((below_drews j).mono HB.out.size)); have q4 : w1.cell? ⟨w.heap.size, 4, none⟩ = some (.slice A2 n2 C2) := (by rw [hw1]; show World.cell? ((w.alloc (.cells #[.int .i64 xl, .int .i64 xa, .int .i64 xb, .slice A1 n1 C1, .slice A2 n2 C2] 62)).alloc (.cells #[.int .i64 yl, .int .i64 ya, .int .i64 yb, .slice B1 m1 D1, .slice B2 m2 D2] 62)) _ = _; rw [cell_of_row _ _ _ _ _ _ two_new.1]; rfl); have q5 : w1.cell? ⟨w.heap.size + 1, 4, none⟩ = some (.slice B2 m2 D2) := (by rw [hw1]; show World.cell? ((w.alloc (.cells #[.int .i64 xl, .int .i64 xa, .int .i64 xb, .slice A1 n1 C1, .slice A2 n2 C2] 62)).alloc (.cells #[.int .i64 yl, .int .i64 ya, .int .i64 yb, .slice B1 m1 D1, .slice B2 m2 D2] 62)) _ = _; rw [cell_of_row _ _ _ _ _ _ two_new.2]; rfl); clear hw1))
        go_ret
        exact ⟨ret_bool (by rw [HP.out]; cases r3 <;> cases r4 <;> rfl), HB.out⟩
      | true =>
        cases r3 with
        | false =>
          go_enter Try.func33, Try.ntmps33
          go_wp2_with (first | (have hq := H1.out; clear hq; go_at_call 20; refine (HN.out _ H1.out).mono ?_; rintro e w2 ⟨rfl, k, hw2⟩; have H2 := Lib.hid (show Below w.heap.size w w2 by rw [hw2]; exact H1.out.trans ((below_drews k).mono H1.out.size)); clear hw2) | (go_at_call 20; refine (HW.out _ HB.out).mono ?_; rintro e w1 ⟨rfl, j, hw1⟩; have H1 := Lib.hid (show Below w.heap.size w w1 by rw [hw1]; exact HB.out.trans ((below_drews j).mono HB.out.size)); have q4 : w1.cell? ⟨w.heap.size, 4, none⟩ = some (.slice A2 n2 C2) := (by rw [hw1]; show World.cell? ((w.alloc (.cells #[.int .i64 xl, .int .i64 xa, .int .i64 xb, .slice A1 n1 C1, .slice A2 n2 C2] 62)).alloc (.cells #[.int .i64 yl, .int .i64 ya, .int .i64 yb, .slice B1 m1 D1, .slice B2 m2 D2] 62)) _ = _; rw [cell_of_row _ _ _ _ _ _ two_new.1]; rfl); have q5 : w1.cell? ⟨w.heap.size + 1, 4, none⟩ = some (.slice B2 m2 D2) := (by rw [hw1]; show World.cell? ((w.alloc (.cells #[.int .i64 xl, .int .i64 xa, .int .i64 xb, .slice A1 n1 C1, .slice A2 n2 C2] 62)).alloc (.cells #[.int .i64 yl, .int .i64 ya, .int .i64 yb, .slice B1 m1 D1, .slice B2 m2 D2] 62)) _ = _; rw [cell_of_row _ _ _ _ _ _ two_new.2]; rfl); clear hw1))
          go_ret
          exact ⟨ret_bool (by rw [HP.out]; cases r4 <;> rfl), H1.out⟩
        | true =>
          go_enter Try.func33, Try.ntmps33
          go_wp2_with (first | (have hq := H1.out; clear hq; go_at_call 20; refine (HN.out _ H1.out).mono ?_; rintro e w2 ⟨rfl, k, hw2⟩; have H2 := Lib.hid (show Below w.heap.size w w2 by rw [hw2]; exact H1.out.trans ((below_drews k).mono H1.out.size)); clear hw2) | (go_at_call 20; refine (HW.out _ HB.out).mono ?_; rintro e w1 ⟨rfl, j, hw1⟩; have H1 := Lib.hid (show Below w.heap.size w w1 by rw [hw1]; exact HB.out.trans ((below_drews j).mono HB.out.size)); have q4 : w1.cell? ⟨w.heap.size, 4, none⟩ = some (.slice A2 n2 C2) := (by rw [hw1]; show World.cell? ((w.alloc (.cells #[.int .i64 xl, .int .i64 xa, .int .i64 xb, .slice A1 n1 C1, .slice A2 n2 C2] 62)).alloc (.cells #[.int .i64 yl, .int .i64 ya, .int .i64 yb, .slice B1 m1 D1, .slice B2 m2 D2] 62)) _ = _; rw [cell_of_row _ _ _ _ _ _ two_new.1]; rfl); have q5 : w1.cell? ⟨w.heap.size + 1, 4, none⟩ = some (.slice B2 m2 D2) := (by rw [hw1]; show World.cell? ((w.alloc (.cells #[.int .i64 xl, .int .i64 xa, .int .i64 xb, .slice A1 n1 C1, .slice A2 n2 C2] 62)).alloc (.cells #[.int .i64 yl, .int .i64 ya, .int .i64 yb, .slice B1 m1 D1, .slice B2 m2 D2] 62)) _ = _; rw [cell_of_row _ _ _ _ _ _ two_new.2]; rfl); clear hw1))
          go_ret
          exact ⟨ret_bool (by rw [HP.out]; cases r4 <;> rfl), H2.out⟩
set_option maxRecDepth 100000 in
set_option maxHeartbeats 16000000 in
theorem equalF32 (a u : Option Addr) (p q : Nat) (A B : List ChV) (w : World) (hA : RowsK 62 5 w a (A.map ChV.cells)) (hB : RowsK 62 5 w u (B.map ChV.cells)) (vA : ∀ x ∈ A, ValAt w x.a1 x.c.was ∧ ValAt w x.a2 x.c.now) (vB : ∀ x ∈ B, ValAt w x.a1 x.c.was ∧ ValAt w x.a2 x.c.now) (hl : ∀ x ∈ A, x.c.was.length ≤ 100000 ∧ x.c.now.length ≤ 100000) (R : Bool) (hR : R = true ↔ A.map ChV.c = B.map ChV.c) (hm : A.length ≤ 100000) :
    Calls Try.prog 32 #[.slice a A.length p, .slice u B.length q, .func (.func 33) #[] #[]] w fun e w' => e = .returned (.bool R) ∧ Below w.heap.size w w' := by
  have HR := Lib.hid hR
  have HLA := Lib.hid (fun (i : Nat) (x : ChV) (hi : A[i]? = some x) => load_chR hA hi)
  have HLB := Lib.hid (fun (i : Nat) (x : ChV) (hi : B[i]? = some x) => load_chR hB hi)
  have HSM := Lib.hid (fun (x y : ChV) (W : World) (hx : x ∈ A) (hy : y ∈ B) (h : Below w.heap.size w W) (r : Bool) (hr : r = true ↔ x.c = y.c) => same33 x y W ⟨(vA x hx).1.below h, (vA x hx).2.below h⟩ ⟨(vB y hy).1.below h, (vB y hy).2.below h⟩ (hl x hx) r hr)
  clear hR hA hB vA vB hl
  obtain ⟨n, hn⟩ : ∃ n, A.length = n := ⟨_, rfl⟩
  obtain ⟨k, hk⟩ : ∃ k, B.length = k := ⟨_, rfl⟩
  have HN := Lib.hid hn
  have HK := Lib.hid hk
  rw [hn] at hm ⊢
  rw [hk]
  clear hn hk
  by_cases hnk : n = k
  case neg =>
    have g1 : ((n : Int) != (k : Int)) = true := by simp; omega
    have HXY := Lib.hid (show R = false by rw [← Bool.not_eq_true, HR.out]; intro e; have h := congrArg List.length e; rw [List.length_map, List.length_map, HN.out, HK.out] at h; exact hnk h)
    go_enter Try.func32, Try.ntmps32
    go_wp2
    go_ret
    exact ⟨ret_bool HXY.out.symm, Below.refl _ _⟩
  subst hnk
  go_enter Try.func32, Try.ntmps32
  go_wp2
  go_loopw [17] (fun vi W => ∃ i : Nat, vi = .int .i64 (i : Int) ∧ i ≤ n ∧ (∀ j, j < i → (A[j]?).map ChV.c = (B[j]?).map ChV.c) ∧ Below w.heap.size w W) (fun vi _ => n - (intOf vi).toNat)
  case atStart => exact ⟨0, rfl, Nat.zero_le _, fun j h => absurd h (Nat.not_lt_zero _), Below.refl _ _⟩
  case round =>
    obtain ⟨i, rfl, hi, he, hw⟩ := hrel
    have HE := Lib.hid he
    have HWR := Lib.hid hw
    clear he hw
    by_cases hlt : i < n
    case neg =>
      have HXY := Lib.hid (show R = true by
        rw [HR.out]
        refine List.ext_getElem? fun j => ?_
        rw [List.getElem?_map, List.getElem?_map]
        by_cases hj : j < i
        · exact HE.out j hj
        · rw [List.getElem?_eq_none (by have := HN.out; omega), List.getElem?_eq_none (by have := HK.out; omega)])
      go_wp2
      go_ret
      exact ⟨ret_bool HXY.out.symm, HWR.out⟩
    obtain ⟨x, hx⟩ : ∃ x, A[i]? = some x := ⟨A[i]'(by have := HN.out; omega), by simp [show i < A.length by have := HN.out; omega]⟩
    obtain ⟨y, hy⟩ : ∃ y, B[i]? = some y := ⟨B[i]'(by have := HK.out; omega), by simp [show i < B.length by have := HK.out; omega]⟩
    obtain ⟨g, o, ha, hlx⟩ := HLA.out i x hx
    obtain ⟨g2, o2, hu, hly⟩ := HLB.out i y hy
    subst ha hu
    have HLX := Lib.hid hlx
    have HLY := Lib.hid hly
    clear hlx hly
    obtain ⟨r, hr⟩ : ∃ r : Bool, r = decide (x.c.l = y.c.l ∧ x.c.a = y.c.a ∧ x.c.b = y.c.b ∧ x.c.was = y.c.was ∧ x.c.now = y.c.now) := ⟨_, rfl⟩
    have hrc : r = true ↔ x.c = y.c := by rw [hr, decide_eq_true_eq]; exact eqC_iff
    have HRC := Lib.hid hrc
    have HSX := Lib.hid (fun W h => HSM.out x y W (List.mem_of_getElem? hx) (List.mem_of_getElem? hy) h r hrc)
    have HX := Lib.hid hx
    have HY := Lib.hid hy
    clear hr hrc hx hy
    obtain ⟨⟨xl, xa, xb, xw, xn⟩, X1, c1, X2, c2⟩ := x
    obtain ⟨⟨yl, ya, yb, yw, yn⟩, Y1, d1, Y2, d2⟩ := y
    dsimp only [ChV.cells, List.toArray] at HLX HLY HSX
    obtain ⟨n1, hn1⟩ : ∃ n, xw.length = n := ⟨_, rfl⟩
    obtain ⟨n2, hn2⟩ : ∃ n, xn.length = n := ⟨_, rfl⟩
    obtain ⟨m1, hm1⟩ : ∃ n, yw.length = n := ⟨_, rfl⟩
    obtain ⟨m2, hm2⟩ : ∃ n, yn.length = n := ⟨_, rfl⟩
    rw [hn1, hn2] at HLX HSX
    rw [hm1, hm2] at HLY HSX
    clear hn1 hn2 hm1 hm2
    go_upto_region 6 with (((with_reducible refine atLoad (ty := 62) (x := .tmp 20) rfl ?_); refine loadE (by rfl) 62 (.tmp 20) rfl _ (.agg #[.int .i64 xl, .int .i64 xa, .int .i64 xb, .slice X1 n1 c1, .slice X2 n2 c2]) rfl (HLX.out _ HWR.out) ?_))
    refine at_world (Φ := fun W => W.heap[wr.heap.size]? = some (.cells #[.int .i64 xl, .int .i64 xa, .int .i64 xb, .slice X1 n1 c1, .slice X2 n2 c2] 62 (0, 0)) ∧ Below wr.heap.size wr W ∧ W.heap.size = wr.heap.size + 1) ⟨heap_alloc_new wr _, (Below.refl _ _).alloc (Nat.le_refl _) _, by simp⟩ ?_
    rintro W3 ⟨hb1, hw3, hz3⟩
    have HW3 := Lib.hid (HWR.out.trans (hw3.mono HWR.out.size))
    have HBX1 := Lib.hid hb1
    clear hb1 hw3 hz3
    generalize wr.heap.size = gb at *
    go_upto_region 7 with (((with_reducible refine atLoad (ty := 62) (x := .tmp 24) rfl ?_); refine loadE (by rfl) 62 (.tmp 24) rfl _ (.agg #[.int .i64 yl, .int .i64 ya, .int .i64 yb, .slice Y1 m1 d1, .slice Y2 m2 d2]) rfl (HLY.out _ HW3.out) ?_))
    refine at_world (Φ := fun W => W.heap[W3.heap.size]? = some (.cells #[.int .i64 yl, .int .i64 ya, .int .i64 yb, .slice Y1 m1 d1, .slice Y2 m2 d2] 62 (0, 0)) ∧ W.heap[gb]? = some (.cells #[.int .i64 xl, .int .i64 xa, .int .i64 xb, .slice X1 n1 c1, .slice X2 n2 c2] 62 (0, 0)) ∧ Below W3.heap.size W3 W) ⟨heap_alloc_new W3 _, (Below.heap_alloc _ _ _ (lt_of_blk HBX1.out)).trans HBX1.out, (Below.refl _ _).alloc (Nat.le_refl _) _⟩ ?_
    rintro W4 ⟨hb2, hb1, hw4⟩
    have HW4 := Lib.hid (HW3.out.trans (hw4.mono HW3.out.size))
    have HLB1 := Lib.hid (load_chB hb1)
    have HLB2 := Lib.hid (load_chB hb2)
    clear hb2 hb1 hw4
    generalize W3.heap.size = gc at *
    cases r with
    | false =>
      have HF := Lib.hid (show R = false by
        rw [← Bool.not_eq_true, HR.out]
        intro e
        have h := congrArg (fun l : List ChT => l[i]?) e
        rw [List.getElem?_map, List.getElem?_map, HX.out, HY.out] at h
        exact absurd (HRC.out.2 (Option.some.inj h)) (by decide))
      go_wp2_with (first | ((with_reducible refine atLoad (ty := 62) (x := .tmp 8) rfl ?_); refine loadE (by rfl) 62 (.tmp 8) rfl _ (.agg #[.int .i64 xl, .int .i64 xa, .int .i64 xb, .slice X1 n1 c1, .slice X2 n2 c2]) rfl HLB1.out ?_) | ((with_reducible refine atLoad (ty := 62) (x := .tmp 9) rfl ?_); refine loadE (by rfl) 62 (.tmp 9) rfl _ (.agg #[.int .i64 yl, .int .i64 ya, .int .i64 yb, .slice Y1 m1 d1, .slice Y2 m2 d2]) rfl HLB2.out ?_) | (go_at_call 33; refine (HSX.out _ HW4.out).mono ?_; rintro e w5 ⟨rfl, hb5⟩; have HW5 := Lib.hid (HW4.out.trans (hb5.mono HW4.out.size)); clear hb5))
      go_ret
      exact ⟨ret_bool HF.out.symm, HW5.out⟩
    | true =>
      have HT := Lib.hid (HRC.out.1 rfl)
      go_wp2_with (first | ((with_reducible refine atLoad (ty := 62) (x := .tmp 8) rfl ?_); refine loadE (by rfl) 62 (.tmp 8) rfl _ (.agg #[.int .i64 xl, .int .i64 xa, .int .i64 xb, .slice X1 n1 c1, .slice X2 n2 c2]) rfl HLB1.out ?_) | ((with_reducible refine atLoad (ty := 62) (x := .tmp 9) rfl ?_); refine loadE (by rfl) 62 (.tmp 9) rfl _ (.agg #[.int .i64 yl, .int .i64 ya, .int .i64 yb, .slice Y1 m1 d1, .slice Y2 m2 d2]) rfl HLB2.out ?_) | (go_at_call 33; refine (HSX.out _ HW4.out).mono ?_; rintro e w5 ⟨rfl, hb5⟩; have HW5 := Lib.hid (HW4.out.trans (hb5.mono HW4.out.size)); clear hb5))
      go_roundw
      case rel => exact ⟨i + 1, by go_num, hlt, fun j hj => (Nat.lt_succ_iff_lt_or_eq.1 hj).elim (HE.out j) (fun e => by rw [e, HX.out, HY.out]; show some _ = some _; exact congrArg some HT.out), HW5.out⟩
      case measure => simp [intOf]; omega
set_option maxRecDepth 100000 in
set_option maxHeartbeats 8000000 in
theorem same15 (a u : Option Addr) (p q : Nat) (A B : List ChV) (w : World) (hA : RowsK 62 5 w a (A.map ChV.cells)) (hB : RowsK 62 5 w u (B.map ChV.cells)) (vA : ∀ x ∈ A, ValAt w x.a1 x.c.was ∧ ValAt w x.a2 x.c.now) (vB : ∀ x ∈ B, ValAt w x.a1 x.c.was ∧ ValAt w x.a2 x.c.now) (hl : ∀ x ∈ A, x.c.was.length ≤ 100000 ∧ x.c.now.length ≤ 100000) (R : Bool) (hR : R = true ↔ A.map ChV.c = B.map ChV.c) (hm : A.length ≤ 100000) :
    Calls Try.prog 15 #[.slice a A.length p, .slice u B.length q] w fun e w' => e = .returned (.bool R) ∧ Below w.heap.size w w' := by
  have HE := Lib.hid (equalF32 a u p q A B w hA hB vA vB hl R hR hm)
  clear hA hB vA vB hl hR hm
  go_enter Try.func15, Try.ntmps15
  go_wp2_with (go_at_call 32; refine HE.out.mono ?_; rintro e w1 ⟨rfl, hb⟩; have HB := Lib.hid hb; clear hb)
  go_ret
  exact ⟨rfl, HB.out⟩
end Go.Proofs.Ytellifcjamedkaa

namespace Go.Proofs.Ytellifcjamedkaa
open Go.RowKit Base Base2

theorem chOf_len (p : Option RowT × Option RowT) : (chOf p).length ≤ 1 := by
  obtain ⟨_ | x, _ | y⟩ := p
  · show 0 ≤ 1; omega
  · exact Nat.le_refl _
  · exact Nat.le_refl _
  · show (if x.v = y.v then [] else [chgC x y]).length ≤ 1
    split <;> simp
theorem flat_len : ∀ l : List (Option RowT × Option RowT), (l.flatMap chOf).length ≤ l.length
  | [] => Nat.le_refl _
  | p :: l => by
    rw [List.flatMap_cons, List.length_append, List.length_cons]
    have := chOf_len p
    have := flat_len l
    omega
theorem merge_len (xs ys : List RowT) : (mergeD xs ys).length ≤ xs.length + ys.length := by
  rw [← beside_merge]
  exact Nat.le_trans (flat_len _) (beside_len keyT keyT xs ys)
theorem values_short {l : Int} {v : List Int} (h : valuesT l v = true) : v.length ≤ 5 := by
  unfold valuesT at h
  split at h
  · rename_i e; rw [e]; simp
  · simp only [Bool.and_eq_true, beq_iff_eq] at h
    rw [h.1]; unfold allT; split <;> (try split) <;> omega
theorem diff_short {a b : BookT} (ha : MayB a) (hb : MayB b) : ∀ c ∈ diffT a b, c.was.length ≤ 5 ∧ c.now.length ≤ 5 := fun c hc => by
  have h := diff_one ha hb c hc
  unfold mayOne at h
  simp only [Bool.and_eq_true] at h
  exact ⟨values_short h.1.1.1.1.2, values_short h.1.1.1.2⟩
theorem rows_few {m : Nat} {b : BookT} (h : BookOk m b) : (rowsD b).length ≤ 4 * m + 1 := by
  have h1 := h.hs.1
  have h2 := h.ss.1
  have h3 := h.os.1
  have h4 := h.rs.1
  unfold rowsD
  simp only [List.length_append, List.length_map, List.length_cons, List.length_nil]
  omega
theorem diff_few {a b : BookT} (ha : BookOk 200 a) (hb : BookOk 200 b) : (diffT a b).length ≤ 1700 := by
  have h1 := merge_len (rowsD a) (rowsD b)
  have h2 := rows_few ha
  have h3 := rows_few hb
  unfold diffT
  omega
theorem restC_of {B : Nat} {W0 W : World} {o : List ChV} {v : Value} (h : CpS B W0 o v W) : ∃ a c, v = .slice a o.length c ∧ o.length ≤ c ∧ RowsK 62 5 W a (o.map ChV.cells) := by
  rcases h.row.2 with ⟨rfl, hn⟩ | ⟨g, cap, cur, rfl, _, hg, hc, _, hs, ht⟩
  · have e : o = [] := List.length_eq_zero_iff.1 hn
    subst e
    exact ⟨none, 0, rfl, Nat.le_refl _, .inl rfl⟩
  · refine ⟨_, cap, rfl, hc, .inr ⟨g, 0, cur, rfl, hg, fun i xs hi j u hu => ?_⟩⟩
    rw [List.getElem?_map] at hi
    cases hx : o[i]? with
    | none => rw [hx] at hi; cases hi
    | some x =>
      rw [hx] at hi
      cases hi
      have h1 := flatK_get o i x hx j u hu
      rw [← ht] at h1
      have h2 := (List.getElem?_eq_some_iff.1 h1).1
      rw [List.length_take] at h2
      rw [List.getElem?_take_of_lt (by omega)] at h1
      rw [Nat.zero_add]
      simpa using h1
/-- Changes that lie, as the calls want them. -/
structure ChL (W : World) (D : List ChT) (o : List ChV) (oa : Option Addr) (oc : Nat) : Prop where
  r : RowsK 62 5 W oa (o.map ChV.cells)
  c : o.length ≤ oc
  v : ∀ y ∈ o, ChOk W y
  d : o.map ChV.c = D
theorem ChL.below {W W' : World} {D : List ChT} {o : List ChV} {oa : Option Addr} {oc : Nat} (h : ChL W D o oa oc) (hb : Below W.heap.size W W') : ChL W' D o oa oc :=
  ⟨h.r.below hb, h.c, fun y hy => ⟨(h.v y hy).1.below hb, (h.v y hy).2.below hb⟩, h.d⟩
theorem chL_of {B : Nat} {W0 W : World} {o : List ChV} {v : Value} {D : List ChT} (h : CpS B W0 o v W) (hd : o.map ChV.c = D) : ∃ a c, v = .slice a o.length c ∧ ChL W D o a c := by
  obtain ⟨a, c, hv, hc, hr⟩ := restC_of h
  exact ⟨a, c, hv, hr, hc, h.val, hd⟩
theorem ChL.short {W : World} {D : List ChT} {o : List ChV} {oa : Option Addr} {oc : Nat} (h : ChL W D o oa oc) (hs : ∀ c ∈ D, c.was.length ≤ 5 ∧ c.now.length ≤ 5) {m : Nat} (hm : 5 ≤ m) : ∀ x ∈ o, x.c.was.length ≤ m ∧ x.c.now.length ≤ m := fun x hx => by
  have := hs x.c (by rw [← h.d]; exact List.mem_map_of_mem hx)
  omega
theorem ChL.len {W : World} {D : List ChT} {o : List ChV} {oa : Option Addr} {oc : Nat} (h : ChL W D o oa oc) {m : Nat} (hs : D.length ≤ m) : o.length ≤ m := by rw [← h.d, List.length_map] at hs; exact hs
/-- A book patched by its diff. -/
theorem patch_back (v _ : Slots) (a b : BookT) (o : List ChV) (oa : Option Addr) (oc : Nat) (W : World) (ha : BookIn W v a) (ka : BookOk 200 a) (kb : BookOk 200 b) (h1 : mayT a = true) (h2 : mayT b = true) (h : ChL W (diffT a b) o oa oc) :
    Calls Try.prog 13 #[.agg (cellsB v a), .slice oa o.length oc] W (PatchOut W (b, 0)) := by
  have ka2 : BookOk 2000 a := ka.mono (by omega)
  have kb2 : BookOk 2000 b := kb.mono (by omega)
  have MA := mayB h1 ka
  have MB := mayB h2 kb
  have hs := diff_short MA MB
  have hp : patchP a (o.map ChV.c) = (b, 0) := by rw [h.d]; exact patchP_diff h1 h2 ka kb
  rw [← hp]
  exact patch_yes v a oa oc o W ha ka2 h1 (by rw [h.d]; exact diff_may MA MB) h.r h.c h.v (h.short hs (by omega)) (Nat.le_trans (h.len (diff_few ka kb)) (by omega)) (fun _ => by rw [h.d, lay_diff h1 h2 ka kb]; exact kb2)
theorem turn_back (a b : BookT) (o : List ChV) (oa : Option Addr) (oc : Nat) (W : World) (ka : BookOk 200 a) (kb : BookOk 200 b) (h1 : mayT a = true) (h2 : mayT b = true) (h : ChL W (diffT a b) o oa oc) :
    Calls Try.prog 14 #[.slice oa o.length oc] W fun e w' => ∃ (p : List ChV) (pa : Option Addr) (pc : Nat), e = .returned (.slice pa p.length pc) ∧ ChL w' (diffT b a) p pa pc ∧ Below W.heap.size W w' := by
  have hs := diff_short (mayB h1 ka) (mayB h2 kb)
  refine (turn14 oa oc o W (Nat.le_trans (h.len (diff_few ka kb)) (by omega)) h.r h.v (h.short hs (by omega))).mono ?_
  rintro e w' ⟨vo, p, rfl, hp, hd⟩
  obtain ⟨pa, pc, rfl, hl⟩ := chL_of (D := diffT b a) hp ((hd.trans (congrArg turnT h.d)).trans (diff_turn a b).symm)
  exact ⟨p, pa, pc, rfl, hl, hp.lo⟩
theorem diff_back (v u : Slots) (a b : BookT) (W : World) (ha : BookIn W v a) (hb : BookIn W u b) (ka : BookOk 200 a) (kb : BookOk 200 b) (h1 : mayT a = true) (h2 : mayT b = true) :
    Calls Try.prog 7 #[.agg (cellsB v a), .agg (cellsB u b)] W fun e w' => ∃ (p : List ChV) (pa : Option Addr) (pc : Nat), e = .returned (.tuple #[.slice pa p.length pc, .int .i64 0]) ∧ ChL w' (diffT a b) p pa pc ∧ Below W.heap.size W w' := by
  refine (diff_yes v u a b W ha hb (ka.mono (by omega)) (kb.mono (by omega)) h1 h2).mono ?_
  rintro e w' ⟨vo, p, rfl, hp, hd⟩
  obtain ⟨pa, pc, rfl, hl⟩ := chL_of hp hd
  exact ⟨p, pa, pc, rfl, hl, hp.lo⟩
theorem same_back (D : List ChT) (o p : List ChV) (oa pa : Option Addr) (oc pc : Nat) (W : World) (hs : ∀ c ∈ D, c.was.length ≤ 5 ∧ c.now.length ≤ 5) (hl : D.length ≤ 1700) (h : ChL W D o oa oc) (k : ChL W D p pa pc) :
    Calls Try.prog 15 #[.slice oa o.length oc, .slice pa p.length pc] W fun e w' => e = .returned (.bool true) ∧ Below W.heap.size W w' :=
  same15 oa pa oc pc o p W h.r k.r h.v k.v (h.short hs (by omega)) true ⟨fun _ => h.d.trans k.d.symm, fun _ => rfl⟩ (Nat.le_trans (h.len hl) (by omega))
theorem refl_back (v u : Slots) (a : BookT) (W : World) (ha : BookIn W v a) (hb : BookIn W u a) (ka : BookOk 200 a) : Calls Try.prog 12 #[.agg (cellsB v a), .agg (cellsB u a)] W fun e w' => e = .returned (.bool true) ∧ Below W.heap.size W w' := by
  have h := same12 v u a a W ha hb (ka.mono (by omega)) (ka.mono (by omega))
  rw [sameT_refl] at h
  exact h
theorem set_in {W : World} {B g : Nat} {v : Slots} {b : BookT} {cs : Array Value} (hf : BookFrom B v b) (hi : BookIn W v b) (hg : g < B) : BookIn (W.setRow g cs) v b :=
  book_farP hf hi (by simp) (fun i h => setRow_ne _ (by omega))
theorem set_lo {W V : World} {g : Nat} {o : Obj} {cs : Array Value} (h : Below V.heap.size V W) (hg : V.heap.size ≤ g) (hb : W.heap[g]? = some o) : Below V.heap.size V (W.setRow g cs) :=
  h.trans (((TurnsK.refl (fun k _ => k = g) W).setRow hb rfl cs).lo h.size (fun k ob hk a => by omega))
theorem cells5 {v : Slots} {b : BookT} : (cellsB v b).size = 5 ∧ (cellsB v b).all (·.oneCell') = true := ⟨rfl, by simp [cellsB, Value.oneCell']⟩
set_option maxRecDepth 100000 in
set_option maxHeartbeats 16000000 in
theorem back4 (v u : Slots) (a b : BookT) (w : World) (ha : BookIn w v a) (hb : BookIn w u b) (hwa : BookWf a) (hwb : BookWf b) :
    Calls Try.prog 4 #[.agg (cellsB v a), .agg (cellsB u b)] w fun e w' => e = .returned (.bool true) ∧ Below w.heap.size w w' := by
  obtain ⟨W0, hW0⟩ : ∃ x, ((w.alloc (.cells (cellsB v a) 27)).alloc (.cells (cellsB u b) 27)) = x := ⟨_, rfl⟩
  have hA : Below w.heap.size w W0 := by rw [← hW0]; exact ((Below.refl _ w).alloc (Nat.le_refl _) _).alloc (by simp) _
  have hg1 : BoxB W0 w.heap.size v a := by rw [← hW0]; exact two_new.1
  have hg2 : BoxB W0 (w.heap.size + 1) u b := by rw [← hW0]; exact two_new.2
  have HLO := Lib.hid (fun W (h : Below W0.heap.size W0 W) => show Below w.heap.size w W from hA.trans (h.mono hA.size))
  have HL1 := Lib.hid (fun W (h : Below W0.heap.size W0 W) => load_book (hg1.below h (lt_of_blk hg1)))
  have HL2 := Lib.hid (fun W (h : Below W0.heap.size W0 W) => load_book (hg2.below h (lt_of_blk hg2)))
  have HBA := Lib.hid (fun W (h : Below W0.heap.size W0 W) => ha.below (HLO.out W h))
  have HBB := Lib.hid (fun W (h : Below W0.heap.size W0 W) => hb.below (HLO.out W h))
  have HAL := Lib.hid (alive5 W0)
  have HAL := Lib.hid (fun (_ : Unit) => HAL.out)
  have HGA := Lib.hid (fun W => great8 v a W)
  have HGB := Lib.hid (fun W => great8 u b W)
  clear hg1 hg2 hA ha hb
  cases hga : greatT a with
  | true =>
    rw [hga] at HGA
    clear hga hwa hwb HBA HBB
    generalize cellsB v a = CA at *
    generalize cellsB u b = CB at *
    go_enter Try.func4, Try.ntmps4
    go_wp2_with (first | ((with_reducible refine atLoad (ty := 27) (x := .tmp 2) rfl ?_); refine loadE (by rfl) 27 (.tmp 2) rfl _ (.agg CA) rfl (HL1.out _ (by first | exact H16.out | exact H15.out | exact H14.out | exact H13.out | exact H12.out | exact H11.out | exact H8.out | exact H7.out | exact H6.out | exact H5.out | exact H4.out | exact H3.out | exact H2.out | exact H1.out)) ?_) | ((with_reducible refine atLoad (ty := 27) (x := .tmp 3) rfl ?_); refine loadE (by rfl) 27 (.tmp 3) rfl _ (.agg CB) rfl (HL2.out _ (by first | exact H16.out | exact H15.out | exact H14.out | exact H13.out | exact H12.out | exact H11.out | exact H8.out | exact H7.out | exact H6.out | exact H5.out | exact H4.out | exact H3.out | exact H2.out | exact H1.out)) ?_) | (go_at_call 5; refine (HAL.out ()).mono ?_; rintro e w1 ⟨rfl, hb⟩; have H1 := Lib.hid hb; clear hb) | (go_at_call 6; refine (HGA.out _).mono ?_; rintro e w2 ⟨rfl, hb⟩; have H2 := Lib.hid (H1.out.trans (hb.mono H1.out.size)); clear hb))
    go_ret
    exact ⟨rfl, HLO.out _ H2.out⟩
  | false =>
    have ka := ok_of_great hga hwa
    rw [hga] at HGA
    clear hga hwa
    cases hgb : greatT b with
    | true =>
      rw [hgb] at HGB
      clear hgb hwb HBA HBB ka
      generalize cellsB v a = CA at *
      generalize cellsB u b = CB at *
      go_enter Try.func4, Try.ntmps4
      go_wp2_with (first | ((with_reducible refine atLoad (ty := 27) (x := .tmp 2) rfl ?_); refine loadE (by rfl) 27 (.tmp 2) rfl _ (.agg CA) rfl (HL1.out _ (by first | exact H16.out | exact H15.out | exact H14.out | exact H13.out | exact H12.out | exact H11.out | exact H8.out | exact H7.out | exact H6.out | exact H5.out | exact H4.out | exact H3.out | exact H2.out | exact H1.out)) ?_) | ((with_reducible refine atLoad (ty := 27) (x := .tmp 3) rfl ?_); refine loadE (by rfl) 27 (.tmp 3) rfl _ (.agg CB) rfl (HL2.out _ (by first | exact H16.out | exact H15.out | exact H14.out | exact H13.out | exact H12.out | exact H11.out | exact H8.out | exact H7.out | exact H6.out | exact H5.out | exact H4.out | exact H3.out | exact H2.out | exact H1.out)) ?_) | (go_at_call 5; refine (HAL.out ()).mono ?_; rintro e w1 ⟨rfl, hb⟩; have H1 := Lib.hid hb; clear hb) | (have hq := H2.out; clear hq; go_at_call 6; refine (HGB.out _).mono ?_; rintro e w3 ⟨rfl, hb⟩; have H3 := Lib.hid (H2.out.trans (hb.mono H2.out.size)); clear hb) | (go_at_call 6; refine (HGA.out _).mono ?_; rintro e w2 ⟨rfl, hb⟩; have H2 := Lib.hid (H1.out.trans (hb.mono H1.out.size)); clear hb))
      go_ret
      exact ⟨rfl, HLO.out _ H3.out⟩
    | false =>
      have kb := ok_of_great hgb hwb
      rw [hgb] at HGB
      clear hgb hwb
      have HMA := Lib.hid (fun W (h : Below W0.heap.size W0 W) => may10 v a W (HBA.out W h) (ka.mono (by omega)))
      have HMB := Lib.hid (fun W (h : Below W0.heap.size W0 W) => may10 u b W (HBB.out W h) (kb.mono (by omega)))
      cases h1 : mayT a with
      | false =>
        rw [h1] at HMA
        clear h1 HBA HBB ka kb
        generalize cellsB v a = CA at *
        generalize cellsB u b = CB at *
        go_enter Try.func4, Try.ntmps4
        go_wp2_with (first | ((with_reducible refine atLoad (ty := 27) (x := .tmp 2) rfl ?_); refine loadE (by rfl) 27 (.tmp 2) rfl _ (.agg CA) rfl (HL1.out _ (by first | exact H16.out | exact H15.out | exact H14.out | exact H13.out | exact H12.out | exact H11.out | exact H8.out | exact H7.out | exact H6.out | exact H5.out | exact H4.out | exact H3.out | exact H2.out | exact H1.out)) ?_) | ((with_reducible refine atLoad (ty := 27) (x := .tmp 3) rfl ?_); refine loadE (by rfl) 27 (.tmp 3) rfl _ (.agg CB) rfl (HL2.out _ (by first | exact H16.out | exact H15.out | exact H14.out | exact H13.out | exact H12.out | exact H11.out | exact H8.out | exact H7.out | exact H6.out | exact H5.out | exact H4.out | exact H3.out | exact H2.out | exact H1.out)) ?_) | (go_at_call 5; refine (HAL.out ()).mono ?_; rintro e w1 ⟨rfl, hb⟩; have H1 := Lib.hid hb; clear hb) | (have hq := H2.out; clear hq; go_at_call 6; refine (HGB.out _).mono ?_; rintro e w3 ⟨rfl, hb⟩; have H3 := Lib.hid (H2.out.trans (hb.mono H2.out.size)); clear hb) | (go_at_call 6; refine (HGA.out _).mono ?_; rintro e w2 ⟨rfl, hb⟩; have H2 := Lib.hid (H1.out.trans (hb.mono H1.out.size)); clear hb) | (go_at_call 8; refine (HMA.out _ H3.out).mono ?_; rintro e w4 ⟨rfl, hb⟩; have H4 := Lib.hid (H3.out.trans (hb.mono H3.out.size)); clear hb))
        go_ret
        exact ⟨rfl, HLO.out _ H4.out⟩
      | true =>
        rw [h1] at HMA
        cases h2 : mayT b with
        | false =>
          rw [h2] at HMB
          clear h1 h2 HBA HBB ka kb
          generalize cellsB v a = CA at *
          generalize cellsB u b = CB at *
          go_enter Try.func4, Try.ntmps4
          go_wp2_with (first | ((with_reducible refine atLoad (ty := 27) (x := .tmp 2) rfl ?_); refine loadE (by rfl) 27 (.tmp 2) rfl _ (.agg CA) rfl (HL1.out _ (by first | exact H16.out | exact H15.out | exact H14.out | exact H13.out | exact H12.out | exact H11.out | exact H8.out | exact H7.out | exact H6.out | exact H5.out | exact H4.out | exact H3.out | exact H2.out | exact H1.out)) ?_) | ((with_reducible refine atLoad (ty := 27) (x := .tmp 3) rfl ?_); refine loadE (by rfl) 27 (.tmp 3) rfl _ (.agg CB) rfl (HL2.out _ (by first | exact H16.out | exact H15.out | exact H14.out | exact H13.out | exact H12.out | exact H11.out | exact H8.out | exact H7.out | exact H6.out | exact H5.out | exact H4.out | exact H3.out | exact H2.out | exact H1.out)) ?_) | (go_at_call 5; refine (HAL.out ()).mono ?_; rintro e w1 ⟨rfl, hb⟩; have H1 := Lib.hid hb; clear hb) | (have hq := H2.out; clear hq; go_at_call 6; refine (HGB.out _).mono ?_; rintro e w3 ⟨rfl, hb⟩; have H3 := Lib.hid (H2.out.trans (hb.mono H2.out.size)); clear hb) | (go_at_call 6; refine (HGA.out _).mono ?_; rintro e w2 ⟨rfl, hb⟩; have H2 := Lib.hid (H1.out.trans (hb.mono H1.out.size)); clear hb) | (have hq := H4.out; clear hq; go_at_call 8; refine (HMB.out _ H4.out).mono ?_; rintro e w5 ⟨rfl, hb⟩; have H5 := Lib.hid (H4.out.trans (hb.mono H4.out.size)); clear hb) | (go_at_call 8; refine (HMA.out _ H3.out).mono ?_; rintro e w4 ⟨rfl, hb⟩; have H4 := Lib.hid (H3.out.trans (hb.mono H3.out.size)); clear hb))
          go_ret
          exact ⟨rfl, HLO.out _ H5.out⟩
        | true =>
          rw [h2] at HMB
          have HDA := Lib.hid (fun W (h : Below W0.heap.size W0 W) => diff_back v u a b W (HBA.out W h) (HBB.out W h) ka kb h1 h2)
          have HDB := Lib.hid (fun W (h : Below W0.heap.size W0 W) => diff_back u v b a W (HBB.out W h) (HBA.out W h) kb ka h2 h1)
          have HPA := Lib.hid (fun o oa oc W (h : Below W0.heap.size W0 W) (hl : ChL W (diffT a b) o oa oc) => patch_back v u a b o oa oc W (HBA.out W h) ka kb h1 h2 hl)
          have HPB := Lib.hid (fun o oa oc W (h : Below W0.heap.size W0 W) (hl : ChL W (diffT b a) o oa oc) => patch_back u v b a o oa oc W (HBB.out W h) kb ka h2 h1 hl)
          have HTU := Lib.hid (fun o oa oc W (hl : ChL W (diffT a b) o oa oc) => turn_back a b o oa oc W ka kb h1 h2 hl)
          have HSB := Lib.hid (fun vx W (h : Below W0.heap.size W0 W) (hx : BookIn W vx b) => refl_back vx u b W hx (HBB.out W h) kb)
          have HSA := Lib.hid (fun vy W (h : Below W0.heap.size W0 W) (hy : BookIn W vy a) => refl_back vy v a W hy (HBA.out W h) ka)
          have HSC := Lib.hid (fun o p oa pa oc pc W (h : ChL W (diffT b a) o oa oc) (k : ChL W (diffT b a) p pa pc) => same_back (diffT b a) o p oa pa oc pc W (diff_short (mayB h2 kb) (mayB h1 ka)) (diff_few kb ka) h k)
          clear h1 h2 HBA HBB ka kb
          generalize cellsB v a = CA at *
          generalize cellsB u b = CB at *
          go_enter Try.func4, Try.ntmps4
          go_upto_region 6 with (first | ((with_reducible refine atLoad (ty := 27) (x := .tmp 2) rfl ?_); refine loadE (by rfl) 27 (.tmp 2) rfl _ (.agg CA) rfl (HL1.out _ (by first | exact H16.out | exact H15.out | exact H14.out | exact H13.out | exact H12.out | exact H11.out | exact H8.out | exact H7.out | exact H6.out | exact H5.out | exact H4.out | exact H3.out | exact H2.out | exact H1.out)) ?_) | ((with_reducible refine atLoad (ty := 27) (x := .tmp 3) rfl ?_); refine loadE (by rfl) 27 (.tmp 3) rfl _ (.agg CB) rfl (HL2.out _ (by first | exact H16.out | exact H15.out | exact H14.out | exact H13.out | exact H12.out | exact H11.out | exact H8.out | exact H7.out | exact H6.out | exact H5.out | exact H4.out | exact H3.out | exact H2.out | exact H1.out)) ?_) | (go_at_call 5; refine (HAL.out ()).mono ?_; rintro e w1 ⟨rfl, hb⟩; have H1 := Lib.hid hb; clear hb) | (have hq := H2.out; clear hq; go_at_call 6; refine (HGB.out _).mono ?_; rintro e w3 ⟨rfl, hb⟩; have H3 := Lib.hid (H2.out.trans (hb.mono H2.out.size)); clear hb) | (go_at_call 6; refine (HGA.out _).mono ?_; rintro e w2 ⟨rfl, hb⟩; have H2 := Lib.hid (H1.out.trans (hb.mono H1.out.size)); clear hb) | (go_at_call 7; refine (HDA.out _ H5.out).mono ?_; rintro e w6 ⟨o, oa, oc, rfl, hl, hb⟩; have HC1 := Lib.hid hl; clear hl; have H6 := Lib.hid (H5.out.trans (hb.mono H5.out.size)); clear hb) | (have hq := H4.out; clear hq; go_at_call 8; refine (HMB.out _ H4.out).mono ?_; rintro e w5 ⟨rfl, hb⟩; have H5 := Lib.hid (H4.out.trans (hb.mono H4.out.size)); clear hb) | (go_at_call 8; refine (HMA.out _ H3.out).mono ?_; rintro e w4 ⟨rfl, hb⟩; have H4 := Lib.hid (H3.out.trans (hb.mono H3.out.size)); clear hb))
          go_upto_region 7 with (first | ((with_reducible refine atLoad (ty := 27) (x := .tmp 2) rfl ?_); refine loadE (by rfl) 27 (.tmp 2) rfl _ (.agg CA) rfl (HL1.out _ (by first | exact H16.out | exact H15.out | exact H14.out | exact H13.out | exact H12.out | exact H11.out | exact H8.out | exact H7.out | exact H6.out | exact H5.out | exact H4.out | exact H3.out | exact H2.out | exact H1.out)) ?_) | (go_at_call 13; refine (HPA.out o oa oc _ H6.out HC1.out).mono ?_; rintro e w7 ⟨⟨vx, rfl, hx, hfx⟩, hb⟩; have HX := Lib.hid hx; have HB67 := Lib.hid hb; clear hx hfx; have H7 := Lib.hid (H6.out.trans (hb.mono H6.out.size)); clear hb) | ((with_reducible refine atStoreP (ty := 27) (x := .tmp 7) (y := .tmp 41) rfl ?_); refine wpList_store_row rfl 27 (.tmp 7) (.tmp 41) rfl w7.heap.size (cellsB vx b) rfl rfl 27 _ (heap_alloc_new w7 _) info27 rfl cells5.2 ?_))
          refine at_world (Φ := fun W => BoxB W w7.heap.size vx b ∧ Below w7.heap.size w7 W) ⟨setRow_heap _ _ _ _ _ _ (heap_alloc_new w7 _), set_lo ((Below.refl _ _).alloc (Nat.le_refl _) _) (Nat.le_refl _) (heap_alloc_new w7 _)⟩ ?_
          rintro w8 ⟨hbx, hb8⟩
          have H8 := Lib.hid (H7.out.trans (hb8.mono H7.out.size))
          have HXB := Lib.hid (fun W (h : Below w8.heap.size w8 W) => HX.out.below (hb8.trans (h.mono hb8.size)))
          have HLX8 := Lib.hid (fun W (h : Below w8.heap.size w8 W) => load_book (hbx.below h (lt_of_blk hbx)))
          have HC8 := Lib.hid (fun W (h : Below w8.heap.size w8 W) => HC1.out.below (HB67.out.trans ((hb8.trans (h.mono hb8.size)).mono HB67.out.size)))
          clear hbx hb8
          generalize w7.heap.size = gx at *
          generalize hCX : cellsB vx b = CX at *
          have HCX := Lib.hid hCX
          clear hCX
          have hC : Below w8.heap.size w8 w8.drew := (Below.refl _ _).drew
          refine wp_region_held_drew (S := fun W => Below w8.heap.size w8 W) (by kernel_rfl) (hC) (fun hS => ?_)
          refine wpAnyH_take (i := 0) (v := .agg CB) rfl (by kernel_rfl) (by kernel_rfl) (by kernel_rfl) (fun _ _ _ h => h) (yields_atD (by rfl) 27 (.tmp 3) rfl (.pointer (some ⟨w.heap.size + 1, 0, none⟩)) _ rfl (fun W hW => HL2.out _ (H8.out.trans ((hW).mono H8.out.size)))) hS ?_
          simp only [List.getElem_toArray, List.getElem_cons_zero, Act.put, List.setIfInBounds_toArray, List.set_cons_zero, List.set_cons_succ]
          refine wpAnyH_take (i := 1) (v := .slice oa o.length oc) rfl (by kernel_rfl) (by kernel_rfl) (by kernel_rfl) (fun _ _ _ h => h) (Or.inl ⟨by simp [Region.wanted], fun W _ => by go_simp⟩) hS ?_
          simp only [List.getElem_toArray, List.getElem_cons_zero, List.getElem_cons_succ, Act.put, List.setIfInBounds_toArray, List.set_cons_zero, List.set_cons_succ]
          refine wpAnyH_ready (rs := [2, 7]) (by kernel_rfl) (by simp) ?_
          refine AllReadyH.cons rfl (fun KA hKA => ?_) (AllReadyH.cons rfl (fun KA hKA => ?_) AllReadyH.nil)
          · refine wanted_go rfl ?_
            simp only [List.getElem_toArray, List.getElem_cons_zero, List.getElem_cons_succ]
            go_wp2_with (go_at_call 14; refine (HTU.out o oa oc _ (HC8.out _ hC)).mono ?_; rintro e w9 ⟨p, pa, pc, rfl, hl, hb⟩; have HP9 := Lib.hid hl; have HB9 := Lib.hid hb; clear hl hb)
            have hC1 := hC.trans (HB9.out.mono hC.size)
            refine hKA.out _ _ hC1 (fun qhC1 => ?_)
            refine wpAnyH_ready (rs := [3, 7]) (by kernel_rfl) (by simp) ?_
            refine AllReadyH.cons rfl (fun KB hKB => ?_) (AllReadyH.cons rfl (fun KB hKB => ?_) AllReadyH.nil)
            · refine wanted_go rfl ?_
              simp only [List.getElem_toArray, List.getElem_cons_zero, List.getElem_cons_succ]
              go_wp2_with (go_at_call 13; refine (HPB.out p pa pc w9 (H8.out.trans ((hC1).mono H8.out.size)) (HP9.out)).mono ?_; rintro e w10 ⟨⟨vy, rfl, hy, hfy⟩, hb⟩; have HY := Lib.hid hy; have HFY := Lib.hid hfy; have HB10 := Lib.hid hb; clear hy hfy hb)
              have hC2 := hC1.trans (HB10.out.mono hC1.size)
              refine hKB.out _ _ hC2 (fun qhC2 => ?_)
              refine wpAnyH_take (i := 4) (v := .tuple #[.agg (cellsB vy a), .int .i64 0]) rfl (by kernel_rfl) (by kernel_rfl) (by kernel_rfl) (fun _ _ _ h => h) (Or.inl ⟨by simp [Region.wanted], fun W _ => by go_simp⟩) qhC2 ?_
              simp only [List.getElem_toArray, List.getElem_cons_zero, List.getElem_cons_succ, Act.put, List.setIfInBounds_toArray, List.set_cons_zero, List.set_cons_succ]
              refine wpAnyH_take (i := 5) (v := .agg (cellsB vy a)) rfl (by kernel_rfl) (by kernel_rfl) (by kernel_rfl) (fun _ _ _ h => h) (Or.inl ⟨by simp [Region.wanted], fun W _ => by go_simp⟩) qhC2 ?_
              simp only [List.getElem_toArray, List.getElem_cons_zero, List.getElem_cons_succ, Act.put, List.setIfInBounds_toArray, List.set_cons_zero, List.set_cons_succ]
              refine wpAnyH_take (i := 6) (v := .int .i64 0) rfl (by kernel_rfl) (by kernel_rfl) (by kernel_rfl) (fun _ _ _ h => h) (Or.inl ⟨by simp [Region.wanted], fun W _ => by go_simp⟩) qhC2 ?_
              simp only [List.getElem_toArray, List.getElem_cons_zero, List.getElem_cons_succ, Act.put, List.setIfInBounds_toArray, List.set_cons_zero, List.set_cons_succ]
              refine wpAnyH_ready (rs := [7]) (by kernel_rfl) (by simp) ?_
              refine AllReadyH.cons rfl (fun KC hKC => ?_) AllReadyH.nil
              refine wanted_go rfl ?_
              simp only [List.getElem_toArray, List.getElem_cons_zero, List.getElem_cons_succ]
              go_wp2
              have hz9 := heap_alloc_new w10 (.cells #[.slice none 0 0, .slice none 0 0, .slice none 0 0, .slice none 0 0, .int .i64 0] 27)
              have hb9 : Below (w10).heap.size w10 ((w10).alloc (.cells #[.slice none 0 0, .slice none 0 0, .slice none 0 0, .slice none 0 0, .int .i64 0] 27)) := (Below.refl _ _).alloc (Nat.le_refl _) _
              have hC3 := hC2.trans (hb9.mono hC2.size)
              refine hKC.out _ _ hC3 (fun qhC3 => ?_)
              have hzf : (w10.alloc (.cells #[.slice none 0 0, .slice none 0 0, .slice none 0 0, .slice none 0 0, .int .i64 0] 27)).heap[w10.heap.size]? = some (.cells #[.slice none 0 0, .slice none 0 0, .slice none 0 0, .slice none 0 0, .int .i64 0] 27 (0, 0)) := hz9
              have hi11 : BookIn ((w10.alloc (.cells #[.slice none 0 0, .slice none 0 0, .slice none 0 0, .slice none 0 0, .int .i64 0] 27)).setRow w10.heap.size (cellsB vy a)) vy a := HY.out.below ((hb9).trans (((TurnsK.refl (fun k _ => k = w10.heap.size) (w10.alloc (.cells #[.slice none 0 0, .slice none 0 0, .slice none 0 0, .slice none 0 0, .int .i64 0] 27))).setRow hz9 rfl _).lo (by simp) (fun k ob hk a => by omega)))
              have hl11 : Below w8.heap.size w8 ((w10.alloc (.cells #[.slice none 0 0, .slice none 0 0, .slice none 0 0, .slice none 0 0, .int .i64 0] 27)).setRow w10.heap.size (cellsB vy a)) := set_lo hC3 hC2.size hzf
              have hb11 : BoxB ((w10.alloc (.cells #[.slice none 0 0, .slice none 0 0, .slice none 0 0, .slice none 0 0, .int .i64 0] 27)).setRow w10.heap.size (cellsB vy a)) w10.heap.size vy a := setRow_heap _ _ _ _ _ _ hzf
              refine wpAnyH_ready (rs := [8]) (by kernel_rfl) (by simp) ?_
              refine AllReadyH.cons rfl (fun KS hKS => ?_) AllReadyH.nil
              refine wanted_go rfl ?_
              simp only [List.getElem_toArray, List.getElem_cons_zero, List.getElem_cons_succ]
              refine wp_store_row 27 (.tmp 9) (.tmp 48) rfl w10.heap.size (cellsB vy a) rfl rfl 27 _ hzf info27 rfl cells5.2 ?_
              refine hKS.out _ _ hl11 (fun qS => ?_)
              refine wpAnyH_take (i := 9) (v := .int .i64 0) rfl (by kernel_rfl) (by kernel_rfl) (by kernel_rfl) (fun _ _ _ h => h) (Or.inl ⟨by simp [Region.wanted], fun W _ => by go_simp⟩) qS ?_
              simp only [List.getElem_toArray, List.getElem_cons_zero, List.getElem_cons_succ, Act.put, List.setIfInBounds_toArray, List.set_cons_zero, List.set_cons_succ]
              refine wpAnyH_done (by kernel_rfl) ?_ _
              obtain ⟨W11, hW11⟩ : ∃ x, (w10.alloc (.cells #[.slice none 0 0, .slice none 0 0, .slice none 0 0, .slice none 0 0, .int .i64 0] 27)).setRow w10.heap.size (cellsB vy a) = x := ⟨_, rfl⟩
              rw [hW11] at hi11 hl11 hb11
              have HI11 := Lib.hid hi11
              have HL11 := Lib.hid hl11
              have HB11 := Lib.hid hb11
              clear hi11 hl11 hb11 hzf
              go_upto_region 8 with (fail)
              refine at_world (Φ := fun W => W = W11) hW11 ?_
              clear hW11
              rintro W ⟨rfl⟩
              have H11 := Lib.hid (H8.out.trans (HL11.out.mono H8.out.size))
              have HLX := Lib.hid (fun W (h : Below W11.heap.size W11 W) => HLX8.out W (HL11.out.trans (h.mono HL11.out.size)))
              have HLY := Lib.hid (fun W (h : Below W11.heap.size W11 W) => load_book (HB11.out.below h (lt_of_blk HB11.out)))
              generalize hCY : cellsB vy a = CY at *
              have HCY := Lib.hid hCY
              clear hCY
              have HSBX := Lib.hid (fun W (h : Below W0.heap.size W0 W) (hx : BookIn W vx b) => by have h2 := HSB.out vx W h hx; rw [HCX.out] at h2; exact h2)
              have HSAY := Lib.hid (fun W (h : Below W0.heap.size W0 W) (hy : BookIn W vy a) => by have h2 := HSA.out vy W h hy; rw [HCY.out] at h2; exact h2)
              go_wp2_with (first | ((with_reducible refine atLoad (ty := 27) (x := .tmp 2) rfl ?_); refine loadE (by rfl) 27 (.tmp 2) rfl _ (.agg CA) rfl (HL1.out _ (by first | exact H16.out | exact H15.out | exact H14.out | exact H13.out | exact H12.out | exact H11.out)) ?_) | ((with_reducible refine atLoad (ty := 27) (x := .tmp 3) rfl ?_); refine loadE (by rfl) 27 (.tmp 3) rfl _ (.agg CB) rfl (HL2.out _ (by first | exact H16.out | exact H15.out | exact H14.out | exact H13.out | exact H12.out | exact H11.out)) ?_) | ((with_reducible refine atLoad (ty := 27) (x := .tmp 7) rfl ?_); refine loadE (by rfl) 27 (.tmp 7) rfl _ (.agg CX) rfl (HLX.out _ (by first | exact J16.out | exact J15.out | exact J14.out | exact J13.out | exact J12.out | exact Below.refl _ _)) ?_) | ((with_reducible refine atLoad (ty := 27) (x := .tmp 9) rfl ?_); refine loadE (by rfl) 27 (.tmp 9) rfl _ (.agg CY) rfl (HLY.out _ (by first | exact J16.out | exact J15.out | exact J14.out | exact J13.out | exact J12.out | exact Below.refl _ _)) ?_) | (go_at_call 7; refine (HDB.out _ H11.out).mono ?_; rintro e w12 ⟨m, ma, mc, rfl, hl, hb⟩; have HM12 := Lib.hid hl; clear hl; have H12 := Lib.hid (H11.out.trans (hb.mono H11.out.size)); have J12 := Lib.hid (show Below W11.heap.size W11 w12 from ((Below.refl _ _ : Below W11.heap.size W11 W11)).trans (hb.mono ((Below.refl _ _ : Below W11.heap.size W11 W11)).size)); clear hb) | (have hq := H13.out; clear hq; go_at_call 12; refine (HSAY.out _ H13.out (HI11.out.below J13.out)).mono ?_; rintro e w14 ⟨rfl, hb⟩; have J1214 := Lib.hid (J1213.out.trans (hb.mono J1213.out.size)); have H14 := Lib.hid (H13.out.trans (hb.mono H13.out.size)); have J14 := Lib.hid (show Below W11.heap.size W11 w14 from (J13.out).trans (hb.mono (J13.out).size)); clear hb) | (go_at_call 12; refine (HSBX.out _ H12.out (HXB.out _ (HL11.out.trans (J12.out.mono HL11.out.size)))).mono ?_; rintro e w13 ⟨rfl, hb⟩; have J1213 := Lib.hid hb; have H13 := Lib.hid (H12.out.trans (hb.mono H12.out.size)); have J13 := Lib.hid (show Below W11.heap.size W11 w13 from (J12.out).trans (hb.mono (J12.out).size)); clear hb) | (go_at_call 15; refine (HSC.out m q ma qa mc qc _ HM15.out HQ15.out).mono ?_; rintro e w16 ⟨rfl, hb⟩; have H16 := Lib.hid (H15.out.trans (hb.mono H15.out.size)); have J16 := Lib.hid (show Below W11.heap.size W11 w16 from (J15.out).trans (hb.mono (J15.out).size)); clear hb) | (go_at_call 14; refine (HTU.out o oa oc _ (HC8.out _ (HL11.out.trans (J14.out.mono HL11.out.size)))).mono ?_; rintro e w15 ⟨q, qa, qc, rfl, hl, hb⟩; have HQ15 := Lib.hid hl; have HM15 := Lib.hid (HM12.out.below (((J1214.out).trans (hb.mono J1214.out.size)))); clear hl; have H15 := Lib.hid (H14.out.trans (hb.mono H14.out.size)); have J15 := Lib.hid (show Below W11.heap.size W11 w15 from (J14.out).trans (hb.mono (J14.out).size)); clear hb))
              go_ret
              exact ⟨rfl, HLO.out _ H16.out⟩
            · refine wanted_go rfl ?_
              simp only [List.getElem_toArray, List.getElem_cons_zero, List.getElem_cons_succ]
              go_wp2
              have hz9 := heap_alloc_new w9 (.cells #[.slice none 0 0, .slice none 0 0, .slice none 0 0, .slice none 0 0, .int .i64 0] 27)
              have hb9 : Below (w9).heap.size w9 ((w9).alloc (.cells #[.slice none 0 0, .slice none 0 0, .slice none 0 0, .slice none 0 0, .int .i64 0] 27)) := (Below.refl _ _).alloc (Nat.le_refl _) _
              have hC2 := hC1.trans (hb9.mono hC1.size)
              refine hKB.out _ _ hC2 (fun qhC2 => ?_)
              refine wpAnyH_ready (rs := [3]) (by kernel_rfl) (by simp) ?_
              refine AllReadyH.cons rfl (fun KC hKC => ?_) AllReadyH.nil
              refine wanted_go rfl ?_
              simp only [List.getElem_toArray, List.getElem_cons_zero, List.getElem_cons_succ]
              go_wp2_with (go_at_call 13; refine (HPB.out p pa pc (w9.alloc (.cells #[.slice none 0 0, .slice none 0 0, .slice none 0 0, .slice none 0 0, .int .i64 0] 27)) (H8.out.trans ((hC2).mono H8.out.size)) (HP9.out.below hb9)).mono ?_; rintro e w10 ⟨⟨vy, rfl, hy, hfy⟩, hb⟩; have HY := Lib.hid hy; have HFY := Lib.hid hfy; have HB10 := Lib.hid hb; clear hy hfy hb)
              have hC3 := hC2.trans (HB10.out.mono hC2.size)
              refine hKC.out _ _ hC3 (fun qhC3 => ?_)
              refine wpAnyH_take (i := 4) (v := .tuple #[.agg (cellsB vy a), .int .i64 0]) rfl (by kernel_rfl) (by kernel_rfl) (by kernel_rfl) (fun _ _ _ h => h) (Or.inl ⟨by simp [Region.wanted], fun W _ => by go_simp⟩) qhC3 ?_
              simp only [List.getElem_toArray, List.getElem_cons_zero, List.getElem_cons_succ, Act.put, List.setIfInBounds_toArray, List.set_cons_zero, List.set_cons_succ]
              refine wpAnyH_take (i := 5) (v := .agg (cellsB vy a)) rfl (by kernel_rfl) (by kernel_rfl) (by kernel_rfl) (fun _ _ _ h => h) (Or.inl ⟨by simp [Region.wanted], fun W _ => by go_simp⟩) qhC3 ?_
              simp only [List.getElem_toArray, List.getElem_cons_zero, List.getElem_cons_succ, Act.put, List.setIfInBounds_toArray, List.set_cons_zero, List.set_cons_succ]
              refine wpAnyH_take (i := 6) (v := .int .i64 0) rfl (by kernel_rfl) (by kernel_rfl) (by kernel_rfl) (fun _ _ _ h => h) (Or.inl ⟨by simp [Region.wanted], fun W _ => by go_simp⟩) qhC3 ?_
              simp only [List.getElem_toArray, List.getElem_cons_zero, List.getElem_cons_succ, Act.put, List.setIfInBounds_toArray, List.set_cons_zero, List.set_cons_succ]
              have hzf : (w10).heap[w9.heap.size]? = some (.cells #[.slice none 0 0, .slice none 0 0, .slice none 0 0, .slice none 0 0, .int .i64 0] 27 (0, 0)) := (HB10.out.block _ (lt_of_blk hz9)).trans hz9
              have hi11 : BookIn ((w10).setRow w9.heap.size (cellsB vy a)) vy a := set_in HFY.out HY.out (by simp)
              have hl11 : Below w8.heap.size w8 ((w10).setRow w9.heap.size (cellsB vy a)) := set_lo hC3 hC1.size hzf
              have hb11 : BoxB ((w10).setRow w9.heap.size (cellsB vy a)) w9.heap.size vy a := setRow_heap _ _ _ _ _ _ hzf
              refine wpAnyH_ready (rs := [8]) (by kernel_rfl) (by simp) ?_
              refine AllReadyH.cons rfl (fun KS hKS => ?_) AllReadyH.nil
              refine wanted_go rfl ?_
              simp only [List.getElem_toArray, List.getElem_cons_zero, List.getElem_cons_succ]
              refine wp_store_row 27 (.tmp 9) (.tmp 48) rfl w9.heap.size (cellsB vy a) rfl rfl 27 _ hzf info27 rfl cells5.2 ?_
              refine hKS.out _ _ hl11 (fun qS => ?_)
              refine wpAnyH_take (i := 9) (v := .int .i64 0) rfl (by kernel_rfl) (by kernel_rfl) (by kernel_rfl) (fun _ _ _ h => h) (Or.inl ⟨by simp [Region.wanted], fun W _ => by go_simp⟩) qS ?_
              simp only [List.getElem_toArray, List.getElem_cons_zero, List.getElem_cons_succ, Act.put, List.setIfInBounds_toArray, List.set_cons_zero, List.set_cons_succ]
              refine wpAnyH_done (by kernel_rfl) ?_ _
              obtain ⟨W11, hW11⟩ : ∃ x, (w10).setRow w9.heap.size (cellsB vy a) = x := ⟨_, rfl⟩
              rw [hW11] at hi11 hl11 hb11
              have HI11 := Lib.hid hi11
              have HL11 := Lib.hid hl11
              have HB11 := Lib.hid hb11
              clear hi11 hl11 hb11 hzf
              go_upto_region 8 with (fail)
              refine at_world (Φ := fun W => W = W11) hW11 ?_
              clear hW11
              rintro W ⟨rfl⟩
              have H11 := Lib.hid (H8.out.trans (HL11.out.mono H8.out.size))
              have HLX := Lib.hid (fun W (h : Below W11.heap.size W11 W) => HLX8.out W (HL11.out.trans (h.mono HL11.out.size)))
              have HLY := Lib.hid (fun W (h : Below W11.heap.size W11 W) => load_book (HB11.out.below h (lt_of_blk HB11.out)))
              generalize hCY : cellsB vy a = CY at *
              have HCY := Lib.hid hCY
              clear hCY
              have HSBX := Lib.hid (fun W (h : Below W0.heap.size W0 W) (hx : BookIn W vx b) => by have h2 := HSB.out vx W h hx; rw [HCX.out] at h2; exact h2)
              have HSAY := Lib.hid (fun W (h : Below W0.heap.size W0 W) (hy : BookIn W vy a) => by have h2 := HSA.out vy W h hy; rw [HCY.out] at h2; exact h2)
              go_wp2_with (first | ((with_reducible refine atLoad (ty := 27) (x := .tmp 2) rfl ?_); refine loadE (by rfl) 27 (.tmp 2) rfl _ (.agg CA) rfl (HL1.out _ (by first | exact H16.out | exact H15.out | exact H14.out | exact H13.out | exact H12.out | exact H11.out)) ?_) | ((with_reducible refine atLoad (ty := 27) (x := .tmp 3) rfl ?_); refine loadE (by rfl) 27 (.tmp 3) rfl _ (.agg CB) rfl (HL2.out _ (by first | exact H16.out | exact H15.out | exact H14.out | exact H13.out | exact H12.out | exact H11.out)) ?_) | ((with_reducible refine atLoad (ty := 27) (x := .tmp 7) rfl ?_); refine loadE (by rfl) 27 (.tmp 7) rfl _ (.agg CX) rfl (HLX.out _ (by first | exact J16.out | exact J15.out | exact J14.out | exact J13.out | exact J12.out | exact Below.refl _ _)) ?_) | ((with_reducible refine atLoad (ty := 27) (x := .tmp 9) rfl ?_); refine loadE (by rfl) 27 (.tmp 9) rfl _ (.agg CY) rfl (HLY.out _ (by first | exact J16.out | exact J15.out | exact J14.out | exact J13.out | exact J12.out | exact Below.refl _ _)) ?_) | (go_at_call 7; refine (HDB.out _ H11.out).mono ?_; rintro e w12 ⟨m, ma, mc, rfl, hl, hb⟩; have HM12 := Lib.hid hl; clear hl; have H12 := Lib.hid (H11.out.trans (hb.mono H11.out.size)); have J12 := Lib.hid (show Below W11.heap.size W11 w12 from ((Below.refl _ _ : Below W11.heap.size W11 W11)).trans (hb.mono ((Below.refl _ _ : Below W11.heap.size W11 W11)).size)); clear hb) | (have hq := H13.out; clear hq; go_at_call 12; refine (HSAY.out _ H13.out (HI11.out.below J13.out)).mono ?_; rintro e w14 ⟨rfl, hb⟩; have J1214 := Lib.hid (J1213.out.trans (hb.mono J1213.out.size)); have H14 := Lib.hid (H13.out.trans (hb.mono H13.out.size)); have J14 := Lib.hid (show Below W11.heap.size W11 w14 from (J13.out).trans (hb.mono (J13.out).size)); clear hb) | (go_at_call 12; refine (HSBX.out _ H12.out (HXB.out _ (HL11.out.trans (J12.out.mono HL11.out.size)))).mono ?_; rintro e w13 ⟨rfl, hb⟩; have J1213 := Lib.hid hb; have H13 := Lib.hid (H12.out.trans (hb.mono H12.out.size)); have J13 := Lib.hid (show Below W11.heap.size W11 w13 from (J12.out).trans (hb.mono (J12.out).size)); clear hb) | (go_at_call 15; refine (HSC.out m q ma qa mc qc _ HM15.out HQ15.out).mono ?_; rintro e w16 ⟨rfl, hb⟩; have H16 := Lib.hid (H15.out.trans (hb.mono H15.out.size)); have J16 := Lib.hid (show Below W11.heap.size W11 w16 from (J15.out).trans (hb.mono (J15.out).size)); clear hb) | (go_at_call 14; refine (HTU.out o oa oc _ (HC8.out _ (HL11.out.trans (J14.out.mono HL11.out.size)))).mono ?_; rintro e w15 ⟨q, qa, qc, rfl, hl, hb⟩; have HQ15 := Lib.hid hl; have HM15 := Lib.hid (HM12.out.below (((J1214.out).trans (hb.mono J1214.out.size)))); clear hl; have H15 := Lib.hid (H14.out.trans (hb.mono H14.out.size)); have J15 := Lib.hid (show Below W11.heap.size W11 w15 from (J14.out).trans (hb.mono (J14.out).size)); clear hb))
              go_ret
              exact ⟨rfl, HLO.out _ H16.out⟩
          · refine wanted_go rfl ?_
            simp only [List.getElem_toArray, List.getElem_cons_zero, List.getElem_cons_succ]
            go_wp2
            have hz9 := heap_alloc_new w8.drew (.cells #[.slice none 0 0, .slice none 0 0, .slice none 0 0, .slice none 0 0, .int .i64 0] 27)
            have hb9 : Below (w8.drew).heap.size w8.drew ((w8.drew).alloc (.cells #[.slice none 0 0, .slice none 0 0, .slice none 0 0, .slice none 0 0, .int .i64 0] 27)) := (Below.refl _ _).alloc (Nat.le_refl _) _
            have hC1 := hC.trans (hb9.mono hC.size)
            refine hKA.out _ _ hC1 (fun qhC1 => ?_)
            refine wpAnyH_ready (rs := [2]) (by kernel_rfl) (by simp) ?_
            refine AllReadyH.cons rfl (fun KB hKB => ?_) AllReadyH.nil
            refine wanted_go rfl ?_
            simp only [List.getElem_toArray, List.getElem_cons_zero, List.getElem_cons_succ]
            go_wp2_with (go_at_call 14; refine (HTU.out o oa oc _ (HC8.out _ hC1)).mono ?_; rintro e w9 ⟨p, pa, pc, rfl, hl, hb⟩; have HP9 := Lib.hid hl; have HB9 := Lib.hid hb; clear hl hb)
            have hC2 := hC1.trans (HB9.out.mono hC1.size)
            refine hKB.out _ _ hC2 (fun qhC2 => ?_)
            refine wpAnyH_ready (rs := [3]) (by kernel_rfl) (by simp) ?_
            refine AllReadyH.cons rfl (fun KC hKC => ?_) AllReadyH.nil
            refine wanted_go rfl ?_
            simp only [List.getElem_toArray, List.getElem_cons_zero, List.getElem_cons_succ]
            go_wp2_with (go_at_call 13; refine (HPB.out p pa pc w9 (H8.out.trans ((hC2).mono H8.out.size)) (HP9.out)).mono ?_; rintro e w10 ⟨⟨vy, rfl, hy, hfy⟩, hb⟩; have HY := Lib.hid hy; have HFY := Lib.hid hfy; have HB10 := Lib.hid hb; clear hy hfy hb)
            have hC3 := hC2.trans (HB10.out.mono hC2.size)
            refine hKC.out _ _ hC3 (fun qhC3 => ?_)
            refine wpAnyH_take (i := 4) (v := .tuple #[.agg (cellsB vy a), .int .i64 0]) rfl (by kernel_rfl) (by kernel_rfl) (by kernel_rfl) (fun _ _ _ h => h) (Or.inl ⟨by simp [Region.wanted], fun W _ => by go_simp⟩) qhC3 ?_
            simp only [List.getElem_toArray, List.getElem_cons_zero, List.getElem_cons_succ, Act.put, List.setIfInBounds_toArray, List.set_cons_zero, List.set_cons_succ]
            refine wpAnyH_take (i := 5) (v := .agg (cellsB vy a)) rfl (by kernel_rfl) (by kernel_rfl) (by kernel_rfl) (fun _ _ _ h => h) (Or.inl ⟨by simp [Region.wanted], fun W _ => by go_simp⟩) qhC3 ?_
            simp only [List.getElem_toArray, List.getElem_cons_zero, List.getElem_cons_succ, Act.put, List.setIfInBounds_toArray, List.set_cons_zero, List.set_cons_succ]
            refine wpAnyH_take (i := 6) (v := .int .i64 0) rfl (by kernel_rfl) (by kernel_rfl) (by kernel_rfl) (fun _ _ _ h => h) (Or.inl ⟨by simp [Region.wanted], fun W _ => by go_simp⟩) qhC3 ?_
            simp only [List.getElem_toArray, List.getElem_cons_zero, List.getElem_cons_succ, Act.put, List.setIfInBounds_toArray, List.set_cons_zero, List.set_cons_succ]
            have hzf : (w10).heap[w8.heap.size]? = some (.cells #[.slice none 0 0, .slice none 0 0, .slice none 0 0, .slice none 0 0, .int .i64 0] 27 (0, 0)) := (HB10.out.block _ (Nat.lt_of_lt_of_le (lt_of_blk hz9) HB9.out.size)).trans ((HB9.out.block _ (lt_of_blk hz9)).trans hz9)
            have hi11 : BookIn ((w10).setRow w8.heap.size (cellsB vy a)) vy a := set_in HFY.out HY.out (Nat.lt_of_lt_of_le (lt_of_blk hz9) HB9.out.size)
            have hl11 : Below w8.heap.size w8 ((w10).setRow w8.heap.size (cellsB vy a)) := set_lo hC3 (Nat.le_refl _) hzf
            have hb11 : BoxB ((w10).setRow w8.heap.size (cellsB vy a)) w8.heap.size vy a := setRow_heap _ _ _ _ _ _ hzf
            refine wpAnyH_ready (rs := [8]) (by kernel_rfl) (by simp) ?_
            refine AllReadyH.cons rfl (fun KS hKS => ?_) AllReadyH.nil
            refine wanted_go rfl ?_
            simp only [List.getElem_toArray, List.getElem_cons_zero, List.getElem_cons_succ]
            refine wp_store_row 27 (.tmp 9) (.tmp 48) rfl w8.heap.size (cellsB vy a) rfl rfl 27 _ hzf info27 rfl cells5.2 ?_
            refine hKS.out _ _ hl11 (fun qS => ?_)
            refine wpAnyH_take (i := 9) (v := .int .i64 0) rfl (by kernel_rfl) (by kernel_rfl) (by kernel_rfl) (fun _ _ _ h => h) (Or.inl ⟨by simp [Region.wanted], fun W _ => by go_simp⟩) qS ?_
            simp only [List.getElem_toArray, List.getElem_cons_zero, List.getElem_cons_succ, Act.put, List.setIfInBounds_toArray, List.set_cons_zero, List.set_cons_succ]
            refine wpAnyH_done (by kernel_rfl) ?_ _
            obtain ⟨W11, hW11⟩ : ∃ x, (w10).setRow w8.heap.size (cellsB vy a) = x := ⟨_, rfl⟩
            rw [hW11] at hi11 hl11 hb11
            have HI11 := Lib.hid hi11
            have HL11 := Lib.hid hl11
            have HB11 := Lib.hid hb11
            clear hi11 hl11 hb11 hzf
            go_upto_region 8 with (fail)
            refine at_world (Φ := fun W => W = W11) hW11 ?_
            clear hW11
            rintro W ⟨rfl⟩
            have H11 := Lib.hid (H8.out.trans (HL11.out.mono H8.out.size))
            have HLX := Lib.hid (fun W (h : Below W11.heap.size W11 W) => HLX8.out W (HL11.out.trans (h.mono HL11.out.size)))
            have HLY := Lib.hid (fun W (h : Below W11.heap.size W11 W) => load_book (HB11.out.below h (lt_of_blk HB11.out)))
            generalize hCY : cellsB vy a = CY at *
            have HCY := Lib.hid hCY
            clear hCY
            have HSBX := Lib.hid (fun W (h : Below W0.heap.size W0 W) (hx : BookIn W vx b) => by have h2 := HSB.out vx W h hx; rw [HCX.out] at h2; exact h2)
            have HSAY := Lib.hid (fun W (h : Below W0.heap.size W0 W) (hy : BookIn W vy a) => by have h2 := HSA.out vy W h hy; rw [HCY.out] at h2; exact h2)
            go_wp2_with (first | ((with_reducible refine atLoad (ty := 27) (x := .tmp 2) rfl ?_); refine loadE (by rfl) 27 (.tmp 2) rfl _ (.agg CA) rfl (HL1.out _ (by first | exact H16.out | exact H15.out | exact H14.out | exact H13.out | exact H12.out | exact H11.out)) ?_) | ((with_reducible refine atLoad (ty := 27) (x := .tmp 3) rfl ?_); refine loadE (by rfl) 27 (.tmp 3) rfl _ (.agg CB) rfl (HL2.out _ (by first | exact H16.out | exact H15.out | exact H14.out | exact H13.out | exact H12.out | exact H11.out)) ?_) | ((with_reducible refine atLoad (ty := 27) (x := .tmp 7) rfl ?_); refine loadE (by rfl) 27 (.tmp 7) rfl _ (.agg CX) rfl (HLX.out _ (by first | exact J16.out | exact J15.out | exact J14.out | exact J13.out | exact J12.out | exact Below.refl _ _)) ?_) | ((with_reducible refine atLoad (ty := 27) (x := .tmp 9) rfl ?_); refine loadE (by rfl) 27 (.tmp 9) rfl _ (.agg CY) rfl (HLY.out _ (by first | exact J16.out | exact J15.out | exact J14.out | exact J13.out | exact J12.out | exact Below.refl _ _)) ?_) | (go_at_call 7; refine (HDB.out _ H11.out).mono ?_; rintro e w12 ⟨m, ma, mc, rfl, hl, hb⟩; have HM12 := Lib.hid hl; clear hl; have H12 := Lib.hid (H11.out.trans (hb.mono H11.out.size)); have J12 := Lib.hid (show Below W11.heap.size W11 w12 from ((Below.refl _ _ : Below W11.heap.size W11 W11)).trans (hb.mono ((Below.refl _ _ : Below W11.heap.size W11 W11)).size)); clear hb) | (have hq := H13.out; clear hq; go_at_call 12; refine (HSAY.out _ H13.out (HI11.out.below J13.out)).mono ?_; rintro e w14 ⟨rfl, hb⟩; have J1214 := Lib.hid (J1213.out.trans (hb.mono J1213.out.size)); have H14 := Lib.hid (H13.out.trans (hb.mono H13.out.size)); have J14 := Lib.hid (show Below W11.heap.size W11 w14 from (J13.out).trans (hb.mono (J13.out).size)); clear hb) | (go_at_call 12; refine (HSBX.out _ H12.out (HXB.out _ (HL11.out.trans (J12.out.mono HL11.out.size)))).mono ?_; rintro e w13 ⟨rfl, hb⟩; have J1213 := Lib.hid hb; have H13 := Lib.hid (H12.out.trans (hb.mono H12.out.size)); have J13 := Lib.hid (show Below W11.heap.size W11 w13 from (J12.out).trans (hb.mono (J12.out).size)); clear hb) | (go_at_call 15; refine (HSC.out m q ma qa mc qc _ HM15.out HQ15.out).mono ?_; rintro e w16 ⟨rfl, hb⟩; have H16 := Lib.hid (H15.out.trans (hb.mono H15.out.size)); have J16 := Lib.hid (show Below W11.heap.size W11 w16 from (J15.out).trans (hb.mono (J15.out).size)); clear hb) | (go_at_call 14; refine (HTU.out o oa oc _ (HC8.out _ (HL11.out.trans (J14.out.mono HL11.out.size)))).mono ?_; rintro e w15 ⟨q, qa, qc, rfl, hl, hb⟩; have HQ15 := Lib.hid hl; have HM15 := Lib.hid (HM12.out.below (((J1214.out).trans (hb.mono J1214.out.size)))); clear hl; have H15 := Lib.hid (H14.out.trans (hb.mono H14.out.size)); have J15 := Lib.hid (show Below W11.heap.size W11 w15 from (J14.out).trans (hb.mono (J14.out).size)); clear hb))
            go_ret
            exact ⟨rfl, HLO.out _ H16.out⟩
end Go.Proofs.Ytellifcjamedkaa

namespace Go.Proofs.Ytellifcjamedkaa
open Go.RowKit
theorem laidOut : laidOutB Try.prog = true := by kernel_rfl
end Go.Proofs.Ytellifcjamedkaa

/- The library's search in a list; the program's place: contracts. -/
import Derived.Test.YtellifcjamedkaaBkQ1
namespace Go.Proofs.Ytellifcjamedkaa
open Go.RowKit Base Base2

set_option maxRecDepth 100000 in
set_option maxHeartbeats 8000000 in
theorem searchHolder (a : Option Addr) (c : Nat) (L : List Item) (id : Int) (w : World) (hr : RowsOf 4 w a L) (hk : ItemsOk 4 2000 L) (hs : riseL lt1 L = true) :
    Calls Try.prog 93 #[.slice a L.length c, .int .i64 id, .func (.func 63) #[] #[]] w fun e w' => e = .returned (.tuple #[.int .i64 (posL (c1 id) L : Int), .bool (foundL (c1 id) L)]) ∧ Below w.heap.size w w' := by
  have HROW := Lib.hid hr
  have hkl := hk.1
  have HK := Lib.hid hk.2
  have HB := Lib.hid (fun (p q r s : Int) W => byHolder p q r s id W)
  have HP := Lib.hid (fun (i : Nat) (x : Item) (h : L[i]? = some x) => pos_iff (mono1 id) hs h)
  have HF1 := Lib.hid (fun (x : Item) (h : L[posL (c1 id) L]? = some x) => foundL_some h)
  have HF0 := Lib.hid (fun (h : L[posL (c1 id) L]? = none) => foundL_none h)
  have hpl := posL_le (c1 id) L
  clear hr hk hs
  generalize foundL (c1 id) L = FO at *
  generalize posL (c1 id) L = PO at *
  go_enter Try.func93, Try.ntmps93
  go_wp2
  go_loopw [9, 10] (fun vi vj W => ∃ i j : Nat, vi = .int .i64 (i : Int) ∧ vj = .int .i64 (j : Int) ∧ i ≤ PO ∧ PO ≤ j ∧ j ≤ L.length ∧ Below w.heap.size w W) (fun vi vj _ => (intOf vj).toNat - (intOf vi).toNat)
  case atStart => exact ⟨0, L.length, rfl, rfl, Nat.zero_le _, hpl, Nat.le_refl _, Below.refl _ _⟩
  case round =>
    obtain ⟨i, j, rfl, rfl, hi, hj, hjl, hb⟩ := hrel
    have HLO := Lib.hid hb
    clear hb
    by_cases hlt : i < j
    · obtain ⟨x, hx⟩ : ∃ x, L[(i + j) / 2]? = some x := ⟨L[(i + j) / 2], by simp [show (i + j) / 2 < L.length by omega]⟩
      obtain ⟨b0, off, rfl, hb0, hcs⟩ := HROW.out.at hx
      obtain ⟨p, q, r, s, rfl⟩ := item4 (HK.out _ (List.mem_of_getElem? hx)).1
      have HCS := Lib.hid hcs
      clear hcs
      have HQ := HP.out _ _ hx
      obtain ⟨Z, hZ⟩ : ∃ zz, c1 id [p, q, r, s] = zz := ⟨_, rfl⟩
      have HBY := Lib.hid (fun W => HB.out p q r s W)
      rw [hZ] at HQ HBY
      clear hZ HB hx
      have HK1 := Lib.hid (show (i + j) / 2 < L.length by omega)
      have k0 := HCS.out wr HLO.out 0 p rfl
      have k1 := HCS.out wr HLO.out 1 q rfl
      have k2 := HCS.out wr HLO.out 2 r rfl
      have k3 := HCS.out wr HLO.out 3 s rfl
      rw [Nat.add_zero] at k0
      by_cases hz : Z < 0
      · have hpo := HQ.1 hz
        go_wp2_with (go_at_call 63; refine (HBY.out _).mono ?_; rintro e y ⟨rfl, hy⟩)
        go_roundw
        case rel => exact ⟨(i + j) / 2 + 1, j, by go_num, rfl, by omega, hj, hjl, HLO.out.trans (hy.mono HLO.out.size)⟩
        case measure => simp [intOf]; omega
      · have hpo : ¬ (i + j) / 2 < PO := fun h => hz (HQ.2 h)
        go_wp2_with (go_at_call 63; refine (HBY.out _).mono ?_; rintro e y ⟨rfl, hy⟩)
        go_roundw
        case rel => exact ⟨i, (i + j) / 2, rfl, by go_num, hi, by omega, by omega, HLO.out.trans (hy.mono HLO.out.size)⟩
        case measure => simp [intOf]; omega
    · have hij : i = PO := by omega
      subst hij
      by_cases hiL : i < L.length
      · obtain ⟨x, hx⟩ : ∃ x, L[i]? = some x := ⟨L[i], by simp [hiL]⟩
        have HF := Lib.hid (HF1.out _ hx)
        obtain ⟨b0, off, rfl, hb0, hcs⟩ := HROW.out.at hx
        obtain ⟨p, q, r, s, rfl⟩ := item4 (HK.out _ (List.mem_of_getElem? hx)).1
        have HCS := Lib.hid hcs
        clear hcs
        obtain ⟨Z, hZ⟩ : ∃ zz, c1 id [p, q, r, s] = zz := ⟨_, rfl⟩
        have HBY := Lib.hid (fun W => HB.out p q r s W)
        rw [hZ] at HBY HF
        clear hZ HB hx
        have k0 := HCS.out wr HLO.out 0 p rfl
        have k1 := HCS.out wr HLO.out 1 q rfl
        have k2 := HCS.out wr HLO.out 2 r rfl
        have k3 := HCS.out wr HLO.out 3 s rfl
        rw [Nat.add_zero] at k0
        go_wp2_with (go_at_call 63; refine (HBY.out _).mono ?_; rintro e y ⟨rfl, hy⟩)
        have hf := HF.out
        subst hf
        go_ret2
        exact ⟨rfl, HLO.out.trans (hy.mono HLO.out.size)⟩
      · have HF := Lib.hid (HF0.out (List.getElem?_eq_none (by omega)))
        go_wp2
        have hf := HF.out
        subst hf
        go_ret2
        exact ⟨rfl, HLO.out⟩

set_option maxHeartbeats 4000000 in
theorem placeHolder (a : Option Addr) (c : Nat) (L : List Item) (id : Int) (w : World) (hr : RowsOf 4 w a L) (hk : ItemsOk 4 2000 L) (hs : riseL lt1 L = true) :
    Calls Try.prog 91 #[.slice a L.length c, .int .i64 id, .func (.func 63) #[] #[]] w fun e w' => e = .returned (.tuple #[.int .i64 (posL (c1 id) L : Int), .bool (foundL (c1 id) L)]) ∧ Below w.heap.size w w' := by
  have HS := Lib.hid (fun W (h : Below w.heap.size w W) => searchHolder a c L id W (hr.below h) hk hs)
  clear hr hk hs
  generalize foundL (c1 id) L = FO at *
  generalize posL (c1 id) L = PO at *
  have HB := Lib.hid (Below.refl w.heap.size w)
  go_enter Try.func91, Try.ntmps91
  go_wp2_with (go_at_call 93; refine (HS.out _ HB.out).mono ?_; rintro e y ⟨rfl, hy⟩)
  go_ret2
  exact ⟨rfl, HB.out.trans (hy.mono HB.out.size)⟩

set_option maxRecDepth 100000 in
set_option maxHeartbeats 8000000 in
theorem searchRate (a : Option Addr) (c : Nat) (L : List Item) (id : Int) (w : World) (hr : RowsOf 2 w a L) (hk : ItemsOk 2 2000 L) (hs : riseL lt1 L = true) :
    Calls Try.prog 94 #[.slice a L.length c, .int .i64 id, .func (.func 72) #[] #[]] w fun e w' => e = .returned (.tuple #[.int .i64 (posL (c1 id) L : Int), .bool (foundL (c1 id) L)]) ∧ Below w.heap.size w w' := by
  have HROW := Lib.hid hr
  have hkl := hk.1
  have HK := Lib.hid hk.2
  have HB := Lib.hid (fun (p q : Int) W => byRate p q id W)
  have HP := Lib.hid (fun (i : Nat) (x : Item) (h : L[i]? = some x) => pos_iff (mono1 id) hs h)
  have HF1 := Lib.hid (fun (x : Item) (h : L[posL (c1 id) L]? = some x) => foundL_some h)
  have HF0 := Lib.hid (fun (h : L[posL (c1 id) L]? = none) => foundL_none h)
  have hpl := posL_le (c1 id) L
  clear hr hk hs
  generalize foundL (c1 id) L = FO at *
  generalize posL (c1 id) L = PO at *
  go_enter Try.func94, Try.ntmps94
  go_wp2
  go_loopw [9, 10] (fun vi vj W => ∃ i j : Nat, vi = .int .i64 (i : Int) ∧ vj = .int .i64 (j : Int) ∧ i ≤ PO ∧ PO ≤ j ∧ j ≤ L.length ∧ Below w.heap.size w W) (fun vi vj _ => (intOf vj).toNat - (intOf vi).toNat)
  case atStart => exact ⟨0, L.length, rfl, rfl, Nat.zero_le _, hpl, Nat.le_refl _, Below.refl _ _⟩
  case round =>
    obtain ⟨i, j, rfl, rfl, hi, hj, hjl, hb⟩ := hrel
    have HLO := Lib.hid hb
    clear hb
    by_cases hlt : i < j
    · obtain ⟨x, hx⟩ : ∃ x, L[(i + j) / 2]? = some x := ⟨L[(i + j) / 2], by simp [show (i + j) / 2 < L.length by omega]⟩
      obtain ⟨b0, off, rfl, hb0, hcs⟩ := HROW.out.at hx
      obtain ⟨p, q, rfl⟩ := item2 (HK.out _ (List.mem_of_getElem? hx)).1
      have HCS := Lib.hid hcs
      clear hcs
      have HQ := HP.out _ _ hx
      obtain ⟨Z, hZ⟩ : ∃ zz, c1 id [p, q] = zz := ⟨_, rfl⟩
      have HBY := Lib.hid (fun W => HB.out p q W)
      rw [hZ] at HQ HBY
      clear hZ HB hx
      have HK1 := Lib.hid (show (i + j) / 2 < L.length by omega)
      have k0 := HCS.out wr HLO.out 0 p rfl
      have k1 := HCS.out wr HLO.out 1 q rfl
      rw [Nat.add_zero] at k0
      by_cases hz : Z < 0
      · have hpo := HQ.1 hz
        go_wp2_with (go_at_call 72; refine (HBY.out _).mono ?_; rintro e y ⟨rfl, hy⟩)
        go_roundw
        case rel => exact ⟨(i + j) / 2 + 1, j, by go_num, rfl, by omega, hj, hjl, HLO.out.trans (hy.mono HLO.out.size)⟩
        case measure => simp [intOf]; omega
      · have hpo : ¬ (i + j) / 2 < PO := fun h => hz (HQ.2 h)
        go_wp2_with (go_at_call 72; refine (HBY.out _).mono ?_; rintro e y ⟨rfl, hy⟩)
        go_roundw
        case rel => exact ⟨i, (i + j) / 2, rfl, by go_num, hi, by omega, by omega, HLO.out.trans (hy.mono HLO.out.size)⟩
        case measure => simp [intOf]; omega
    · have hij : i = PO := by omega
      subst hij
      by_cases hiL : i < L.length
      · obtain ⟨x, hx⟩ : ∃ x, L[i]? = some x := ⟨L[i], by simp [hiL]⟩
        have HF := Lib.hid (HF1.out _ hx)
        obtain ⟨b0, off, rfl, hb0, hcs⟩ := HROW.out.at hx
        obtain ⟨p, q, rfl⟩ := item2 (HK.out _ (List.mem_of_getElem? hx)).1
        have HCS := Lib.hid hcs
        clear hcs
        obtain ⟨Z, hZ⟩ : ∃ zz, c1 id [p, q] = zz := ⟨_, rfl⟩
        have HBY := Lib.hid (fun W => HB.out p q W)
        rw [hZ] at HBY HF
        clear hZ HB hx
        have k0 := HCS.out wr HLO.out 0 p rfl
        have k1 := HCS.out wr HLO.out 1 q rfl
        rw [Nat.add_zero] at k0
        go_wp2_with (go_at_call 72; refine (HBY.out _).mono ?_; rintro e y ⟨rfl, hy⟩)
        have hf := HF.out
        subst hf
        go_ret2
        exact ⟨rfl, HLO.out.trans (hy.mono HLO.out.size)⟩
      · have HF := Lib.hid (HF0.out (List.getElem?_eq_none (by omega)))
        go_wp2
        have hf := HF.out
        subst hf
        go_ret2
        exact ⟨rfl, HLO.out⟩

set_option maxHeartbeats 4000000 in
theorem placeRate (a : Option Addr) (c : Nat) (L : List Item) (id : Int) (w : World) (hr : RowsOf 2 w a L) (hk : ItemsOk 2 2000 L) (hs : riseL lt1 L = true) :
    Calls Try.prog 92 #[.slice a L.length c, .int .i64 id, .func (.func 72) #[] #[]] w fun e w' => e = .returned (.tuple #[.int .i64 (posL (c1 id) L : Int), .bool (foundL (c1 id) L)]) ∧ Below w.heap.size w w' := by
  have HS := Lib.hid (fun W (h : Below w.heap.size w W) => searchRate a c L id W (hr.below h) hk hs)
  clear hr hk hs
  generalize foundL (c1 id) L = FO at *
  generalize posL (c1 id) L = PO at *
  have HB := Lib.hid (Below.refl w.heap.size w)
  go_enter Try.func92, Try.ntmps92
  go_wp2_with (go_at_call 94; refine (HS.out _ HB.out).mono ?_; rintro e y ⟨rfl, hy⟩)
  go_ret2
  exact ⟨rfl, HB.out.trans (hy.mono HB.out.size)⟩
end Go.Proofs.Ytellifcjamedkaa

/- Contracts of the names of kinds and codes, the program's (of its tables) and the document's. -/
import Derived.Test.YtnakmlnjfjgghaaDoorSmall
import Derived.Test.YtnakmlnjfjgghaaDoorBase
namespace Go.Proofs.YtnakmlnjfjgghaaDoor
open Go.RowKit Base

def kindsL : List ByteArray := [⟨#[]⟩, ⟨#[97, 99, 99, 111, 117, 110, 116]⟩, ⟨#[108, 105, 109, 105, 116]⟩, ⟨#[113, 117, 111, 116, 101]⟩, ⟨#[111, 114, 100, 101, 114]⟩, ⟨#[102, 105, 108, 108]⟩, ⟨#[99, 97, 110, 99, 101, 108]⟩, ⟨#[115, 110, 97, 112]⟩]
def reasonsL : List ByteArray := [⟨#[97, 99, 99, 101, 112, 116]⟩, ⟨#[107, 105, 110, 100]⟩, ⟨#[118, 97, 108, 117, 101]⟩, ⟨#[110, 111, 32, 97, 99, 99, 111, 117, 110, 116]⟩, ⟨#[97, 99, 99, 111, 117, 110, 116, 32, 116, 104, 101, 114, 101]⟩, ⟨#[111, 114, 100, 101, 114, 32, 116, 104, 101, 114, 101]⟩, ⟨#[110, 111, 32, 111, 114, 100, 101, 114]⟩, ⟨#[110, 111, 32, 112, 114, 105, 99, 101]⟩, ⟨#[102, 117, 108, 108]⟩, ⟨#[111, 114, 100, 101, 114, 32, 116, 111, 111, 32, 103, 114, 101, 97, 116]⟩, ⟨#[112, 111, 115, 105, 116, 105, 111, 110, 32, 116, 111, 111, 32, 103, 114, 101, 97, 116]⟩, ⟨#[109, 97, 114, 103, 105, 110]⟩, ⟨#[111, 118, 101, 114, 102, 108, 111, 119]⟩, ⟨#[117, 110, 97, 118, 97, 105, 108, 97, 98, 108, 101]⟩]
def nameS (n : Int) : ByteArray := if 1 ≤ n ∧ n ≤ 7 then kindsL.getD n.toNat ⟨#[]⟩ else ⟨#[63]⟩
def reasonS (n : Int) : ByteArray := if 0 ≤ n ∧ n ≤ 13 then reasonsL.getD n.toNat ⟨#[]⟩ else ⟨#[63]⟩
/-- The program's tables, as its text lays them. -/
def KHeld (W : World) : Prop := (∀ i < 8, W.cell? ⟨0, i, none⟩ = some (.string (kindsL.getD i ⟨#[]⟩))) ∧ (∀ i < 14, W.cell? ⟨1, i, none⟩ = some (.string (reasonsL.getD i ⟨#[]⟩)))
theorem KHeld.lt {W : World} (h : KHeld W) : 1 < W.heap.size := World.block_lt_of_cell? W _ (h.2 0 (by omega))
theorem KHeld.below {w W : World} (h : KHeld w) (hb : Below w.heap.size w W) : KHeld W := by
  have hl := h.lt
  exact ⟨fun i hi => (hb.cell (p := ⟨0, i, none⟩) (by show 0 < _; omega)).trans (h.1 i hi), fun i hi => (hb.cell (p := ⟨1, i, none⟩) hl).trans (h.2 i hi)⟩

theorem name19 (n : Int) (w : World) (hK : KHeld w) : Calls Tryd.prog 19 #[.int .i64 n] w fun e w' => e = .returned (.string (nameS n)) ∧ w' = w := by
  by_cases h : 1 ≤ n ∧ n ≤ 7
  · obtain ⟨k, rfl⟩ := Int.eq_ofNat_of_zero_le (show 0 ≤ n by omega)
    have hv : nameS (k : Int) = kindsL.getD k ⟨#[]⟩ := by unfold nameS; rw [if_pos h, Int.toNat_natCast]
    have c := hK.1 k (by omega)
    have h1 := h.1; have h2 := h.2
    have h3 : k < 8 := by omega
    rw [hv]
    generalize kindsL.getD k ⟨#[]⟩ = x at *
    clear hv h hK
    go_enter Tryd.func19, Tryd.ntmps19
    go_wp2
    go_ret
    exact ⟨rfl, rfl⟩
  · have hv : nameS n = ⟨#[63]⟩ := if_neg h
    rw [hv]
    clear hv hK
    by_cases h1 : n < 1
    · clear h
      go_enter Tryd.func19, Tryd.ntmps19
      go_wp2
      go_ret
      exact ⟨rfl, rfl⟩
    · have h2 : 7 < n := by omega
      clear h
      go_enter Tryd.func19, Tryd.ntmps19
      go_wp2
      go_ret
      exact ⟨rfl, rfl⟩
theorem reason21 (n : Int) (w : World) (hK : KHeld w) : Calls Tryd.prog 21 #[.int .i64 n] w fun e w' => e = .returned (.string (reasonS n)) ∧ w' = w := by
  by_cases h : 0 ≤ n ∧ n ≤ 13
  · obtain ⟨k, rfl⟩ := Int.eq_ofNat_of_zero_le h.1
    have hv : reasonS (k : Int) = reasonsL.getD k ⟨#[]⟩ := by unfold reasonS; rw [if_pos h, Int.toNat_natCast]
    have c := hK.2 k (by omega)
    have h1 := h.1; have h2 := h.2
    have h3 : k < 14 := by omega
    rw [hv]
    generalize reasonsL.getD k ⟨#[]⟩ = x at *
    clear hv h hK
    go_enter Tryd.func21, Tryd.ntmps21
    go_wp2
    go_ret
    exact ⟨rfl, rfl⟩
  · have hv : reasonS n = ⟨#[63]⟩ := if_neg h
    rw [hv]
    clear hv hK
    by_cases h1 : n < 0
    · clear h
      go_enter Tryd.func21, Tryd.ntmps21
      go_wp2
      go_ret
      exact ⟨rfl, rfl⟩
    · have h2 : 13 < n := by omega
      clear h
      go_enter Tryd.func21, Tryd.ntmps21
      go_wp2
      go_ret
      exact ⟨rfl, rfl⟩

set_option maxRecDepth 100000 in
theorem rname20 (n : Int) (w : World) : Calls Tryd.prog 20 #[.int .i64 n] w fun e w' => e = .returned (.string (nameS n)) ∧ w' = w := by
  by_cases h1 : n = 1
  · subst h1
    go_enter Tryd.func20, Tryd.ntmps20
    go_wp2
    go_ret
    exact ⟨rfl, rfl⟩
  by_cases h2 : n = 2
  · subst h2
    go_enter Tryd.func20, Tryd.ntmps20
    go_wp2
    go_ret
    exact ⟨rfl, rfl⟩
  by_cases h3 : n = 3
  · subst h3
    go_enter Tryd.func20, Tryd.ntmps20
    go_wp2
    go_ret
    exact ⟨rfl, rfl⟩
  by_cases h4 : n = 4
  · subst h4
    go_enter Tryd.func20, Tryd.ntmps20
    go_wp2
    go_ret
    exact ⟨rfl, rfl⟩
  by_cases h5 : n = 5
  · subst h5
    go_enter Tryd.func20, Tryd.ntmps20
    go_wp2
    go_ret
    exact ⟨rfl, rfl⟩
  by_cases h6 : n = 6
  · subst h6
    go_enter Tryd.func20, Tryd.ntmps20
    go_wp2
    go_ret
    exact ⟨rfl, rfl⟩
  by_cases h7 : n = 7
  · subst h7
    go_enter Tryd.func20, Tryd.ntmps20
    go_wp2
    go_ret
    exact ⟨rfl, rfl⟩
  have hv : nameS n = ⟨#[63]⟩ := if_neg (by omega)
  rw [hv]
  clear hv
  have k1 : (n == 1) = false := by simpa using h1
  have k2 : (n == 2) = false := by simpa using h2
  have k3 : (n == 3) = false := by simpa using h3
  have k4 : (n == 4) = false := by simpa using h4
  have k5 : (n == 5) = false := by simpa using h5
  have k6 : (n == 6) = false := by simpa using h6
  have k7 : (n == 7) = false := by simpa using h7
  clear h1 h2 h3 h4 h5 h6 h7
  go_enter Tryd.func20, Tryd.ntmps20
  go_wp2
  go_ret
  exact ⟨rfl, rfl⟩

set_option maxRecDepth 100000 in
theorem rreason22 (n : Int) (w : World) : Calls Tryd.prog 22 #[.int .i64 n] w fun e w' => e = .returned (.string (reasonS n)) ∧ Below w.heap.size w w' := by
  have hb := (Below.refl w.heap.size w).alloc (Nat.le_refl _) (.cells (#[.string ⟨#[97, 99, 99, 101, 112, 116]⟩, .string ⟨#[107, 105, 110, 100]⟩, .string ⟨#[118, 97, 108, 117, 101]⟩, .string ⟨#[110, 111, 32, 97, 99, 99, 111, 117, 110, 116]⟩, .string ⟨#[97, 99, 99, 111, 117, 110, 116, 32, 116, 104, 101, 114, 101]⟩, .string ⟨#[111, 114, 100, 101, 114, 32, 116, 104, 101, 114, 101]⟩, .string ⟨#[110, 111, 32, 111, 114, 100, 101, 114]⟩, .string ⟨#[110, 111, 32, 112, 114, 105, 99, 101]⟩, .string ⟨#[102, 117, 108, 108]⟩, .string ⟨#[111, 114, 100, 101, 114, 32, 116, 111, 111, 32, 103, 114, 101, 97, 116]⟩, .string ⟨#[112, 111, 115, 105, 116, 105, 111, 110, 32, 116, 111, 111, 32, 103, 114, 101, 97, 116]⟩, .string ⟨#[109, 97, 114, 103, 105, 110]⟩, .string ⟨#[111, 118, 101, 114, 102, 108, 111, 119]⟩, .string ⟨#[117, 110, 97, 118, 97, 105, 108, 97, 98, 108, 101]⟩] : Array Value) 9)
  have HB := Lib.hid hb
  clear hb
  by_cases h : 0 ≤ n ∧ n ≤ 13
  · obtain ⟨k, rfl⟩ := Int.eq_ofNat_of_zero_le h.1
    have hv : reasonS (k : Int) = reasonsL.getD k ⟨#[]⟩ := by unfold reasonS; rw [if_pos h, Int.toNat_natCast]
    have h1 := h.1; have h2 := h.2
    have h3 : k < 14 := by omega
    have c : (w.alloc (.cells (#[.string ⟨#[97, 99, 99, 101, 112, 116]⟩, .string ⟨#[107, 105, 110, 100]⟩, .string ⟨#[118, 97, 108, 117, 101]⟩, .string ⟨#[110, 111, 32, 97, 99, 99, 111, 117, 110, 116]⟩, .string ⟨#[97, 99, 99, 111, 117, 110, 116, 32, 116, 104, 101, 114, 101]⟩, .string ⟨#[111, 114, 100, 101, 114, 32, 116, 104, 101, 114, 101]⟩, .string ⟨#[110, 111, 32, 111, 114, 100, 101, 114]⟩, .string ⟨#[110, 111, 32, 112, 114, 105, 99, 101]⟩, .string ⟨#[102, 117, 108, 108]⟩, .string ⟨#[111, 114, 100, 101, 114, 32, 116, 111, 111, 32, 103, 114, 101, 97, 116]⟩, .string ⟨#[112, 111, 115, 105, 116, 105, 111, 110, 32, 116, 111, 111, 32, 103, 114, 101, 97, 116]⟩, .string ⟨#[109, 97, 114, 103, 105, 110]⟩, .string ⟨#[111, 118, 101, 114, 102, 108, 111, 119]⟩, .string ⟨#[117, 110, 97, 118, 97, 105, 108, 97, 98, 108, 101]⟩] : Array Value) 9)).cell? ⟨w.heap.size, k, none⟩ = some (.string (reasonsL.getD k ⟨#[]⟩)) := by
      rw [cell_of_row _ _ _ _ 9 (0, 0) (heap_alloc_new w _)]
      have e : (#[.string ⟨#[97, 99, 99, 101, 112, 116]⟩, .string ⟨#[107, 105, 110, 100]⟩, .string ⟨#[118, 97, 108, 117, 101]⟩, .string ⟨#[110, 111, 32, 97, 99, 99, 111, 117, 110, 116]⟩, .string ⟨#[97, 99, 99, 111, 117, 110, 116, 32, 116, 104, 101, 114, 101]⟩, .string ⟨#[111, 114, 100, 101, 114, 32, 116, 104, 101, 114, 101]⟩, .string ⟨#[110, 111, 32, 111, 114, 100, 101, 114]⟩, .string ⟨#[110, 111, 32, 112, 114, 105, 99, 101]⟩, .string ⟨#[102, 117, 108, 108]⟩, .string ⟨#[111, 114, 100, 101, 114, 32, 116, 111, 111, 32, 103, 114, 101, 97, 116]⟩, .string ⟨#[112, 111, 115, 105, 116, 105, 111, 110, 32, 116, 111, 111, 32, 103, 114, 101, 97, 116]⟩, .string ⟨#[109, 97, 114, 103, 105, 110]⟩, .string ⟨#[111, 118, 101, 114, 102, 108, 111, 119]⟩, .string ⟨#[117, 110, 97, 118, 97, 105, 108, 97, 98, 108, 101]⟩] : Array Value) = (reasonsL.map Value.string).toArray := rfl
      rw [e]
      have hk : k < reasonsL.length := h3
      simp [List.getD, hk]
    rw [hv]
    generalize reasonsL.getD k ⟨#[]⟩ = x at *
    clear hv h
    go_enter Tryd.func22, Tryd.ntmps22
    go_wp2
    go_ret
    exact ⟨rfl, HB.out⟩
  · have hv : reasonS n = ⟨#[63]⟩ := if_neg h
    rw [hv]
    clear hv
    by_cases h1 : n < 0
    · clear h
      go_enter Tryd.func22, Tryd.ntmps22
      go_wp2
      go_ret
      exact ⟨rfl, HB.out⟩
    · have h2 : 13 < n := by omega
      clear h
      go_enter Tryd.func22, Tryd.ntmps22
      go_wp2
      go_ret
      exact ⟨rfl, HB.out⟩
end Go.Proofs.YtnakmlnjfjgghaaDoor

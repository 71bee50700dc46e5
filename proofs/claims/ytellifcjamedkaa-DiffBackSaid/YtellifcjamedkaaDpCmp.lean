/- Keys that are compared: the program's contracts. -/
import Derived.Test.YtellifcjamedkaaBkQ1
import Derived.Test.YtellifcjamedkaaDfRef1
import Derived.Test.YtellifcjamedkaaKRange
namespace Go.Proofs.Ytellifcjamedkaa
open Go.RowKit Base Base2

theorem infoKey : (Try.prog.info? 52).map (·.size) = some (#[Value.int .i64 0, .int .i64 0, .int .i64 0] : Array Value).size := by kernel_rfl
/-- By three numbers. -/
def cmpK (l a b m c d : Int) : Int := if cmpI l m = 0 then (if cmpI a c = 0 then cmpI b d else cmpI a c) else cmpI l m
theorem cmpK_1 {l a b m c d Z : Int} (h : cmpI l m = Z) (hz : Z ≠ 0) : cmpK l a b m c d = Z := by unfold cmpK; rw [h, if_neg hz]
theorem cmpK_2 {l a b m c d Z : Int} (h1 : cmpI l m = 0) (h : cmpI a c = Z) (hz : Z ≠ 0) : cmpK l a b m c d = Z := by unfold cmpK; rw [if_pos h1, h, if_neg hz]
theorem cmpK_3 {l a b m c d Z : Int} (h1 : cmpI l m = 0) (h2 : cmpI a c = 0) (h : cmpI b d = Z) : cmpK l a b m c d = Z := by unfold cmpK; rw [if_pos h1, if_pos h2, h]
theorem cmpK_neg {l a b m c d : Int} : cmpK l a b m c d < 0 ↔ lessD l a b m c d = true := by
  rw [lessD_iff]
  unfold cmpK
  split
  · rename_i h1
    rw [cmpI_zero] at h1
    split
    · rename_i h2
      rw [cmpI_zero] at h2
      rw [cmpI_neg]; omega
    · rename_i h2
      rw [cmpI_zero] at h2
      rw [cmpI_neg]; omega
  · rename_i h1
    rw [cmpI_zero] at h1
    rw [cmpI_neg]; omega
theorem cmpK_zero {l a b m c d : Int} : cmpK l a b m c d = 0 ↔ l = m ∧ a = c ∧ b = d := by
  unfold cmpK
  split
  · rename_i h1
    rw [cmpI_zero] at h1
    split
    · rename_i h2
      rw [cmpI_zero] at h2
      rw [cmpI_zero]; omega
    · rename_i h2
      have h3 := h2
      rw [cmpI_zero] at h3
      omega
  · rename_i h1
    have h3 := h1
    rw [cmpI_zero] at h3
    omega
theorem cmpK_cases (l a b m c d : Int) : cmpK l a b m c d = -1 ∨ cmpK l a b m c d = 0 ∨ cmpK l a b m c d = 1 := by
  unfold cmpK
  split
  · split
    · exact cmpI_cases _ _
    · exact cmpI_cases _ _
  · exact cmpI_cases _ _

set_option maxRecDepth 100000 in
set_option maxHeartbeats 4000000 in
theorem compareS (g h : Nat) (l a b m c d : Int) (w : World) (g0 : w.cell? ⟨g, 0, none⟩ = some (.int .i64 l)) (g1 : w.cell? ⟨g, 1, none⟩ = some (.int .i64 a)) (g2 : w.cell? ⟨g, 2, none⟩ = some (.int .i64 b)) (h0 : w.cell? ⟨h, 0, none⟩ = some (.int .i64 m)) (h1 : w.cell? ⟨h, 1, none⟩ = some (.int .i64 c)) (h2 : w.cell? ⟨h, 2, none⟩ = some (.int .i64 d)) :
    Calls Try.prog 84 #[.slice (some ⟨g, 0, none⟩) 3 3, .slice (some ⟨h, 0, none⟩) 3 3] w fun e w' => e = .returned (.int .i64 (cmpK l a b m c d)) ∧ w' = w := by
  obtain ⟨R, hR⟩ : ∃ R, cmpK l a b m c d = R := ⟨_, rfl⟩
  have HR := Lib.hid hR
  rw [hR]
  clear hR
  go_enter Try.func84, Try.ntmps84
  go_wp2
  go_loopw [11] (fun vi W => ∃ i : Nat, vi = .int .i64 (i : Int) ∧ i ≤ 3 ∧ ((1 ≤ i → cmpI l m = 0) ∧ (2 ≤ i → cmpI a c = 0) ∧ (3 ≤ i → cmpI b d = 0)) ∧ W = w) (fun vi _ => 3 - (intOf vi).toNat)
  case atStart => exact ⟨0, rfl, by omega, ⟨by omega, by omega, by omega⟩, rfl⟩
  case round =>
    obtain ⟨i, rfl, hi, he, rfl⟩ := hrel
    have HE := Lib.hid he
    clear he
    by_cases e0 : i = 0
    · subst e0
      obtain ⟨Z, hZ⟩ : ∃ zz, cmpI l m = zz := ⟨_, rfl⟩
      have HC := Lib.hid (fun W => compare79 l m W)
      rw [hZ] at HC
      by_cases hz : Z = 0
      · subst hz
        have HQ := Lib.hid hZ
        clear hZ
        go_wp2_with (go_at_call 86; refine (HC.out _).mono ?_; rintro e y ⟨rfl, rfl⟩)
        go_roundw
        case rel => exact ⟨1, by go_num, by omega, ⟨fun _ => HQ.out, fun h => absurd h (by omega), fun h => absurd h (by omega)⟩, by trivial⟩
        case measure => simp [intOf]
      · have HQ := Lib.hid (show R = Z by rw [← HR.out]; exact cmpK_1 hZ hz)
        have g : (Z != 0) = true := by simpa using hz
        clear hZ hz
        go_wp2_with (go_at_call 86; refine (HC.out _).mono ?_; rintro e y ⟨rfl, rfl⟩)
        go_ret
        exact ⟨ret_int HQ.out.symm, rfl⟩
    · by_cases e1 : i = 1
      · subst e1
        obtain ⟨Z, hZ⟩ : ∃ zz, cmpI a c = zz := ⟨_, rfl⟩
        have HC := Lib.hid (fun W => compare79 a c W)
        rw [hZ] at HC
        by_cases hz : Z = 0
        · subst hz
          have HQ := Lib.hid hZ
          clear hZ
          go_wp2_with (go_at_call 86; refine (HC.out _).mono ?_; rintro e y ⟨rfl, rfl⟩)
          go_roundw
          case rel => exact ⟨2, by go_num, by omega, ⟨fun _ => HE.out.1 (by omega), fun _ => HQ.out, fun h => absurd h (by omega)⟩, by trivial⟩
          case measure => simp [intOf]
        · have HQ := Lib.hid (show R = Z by rw [← HR.out]; exact cmpK_2 (HE.out.1 (by omega)) hZ hz)
          have g : (Z != 0) = true := by simpa using hz
          clear hZ hz
          go_wp2_with (go_at_call 86; refine (HC.out _).mono ?_; rintro e y ⟨rfl, rfl⟩)
          go_ret
          exact ⟨ret_int HQ.out.symm, rfl⟩
      · by_cases e2 : i = 2
        · subst e2
          obtain ⟨Z, hZ⟩ : ∃ zz, cmpI b d = zz := ⟨_, rfl⟩
          have HC := Lib.hid (fun W => compare79 b d W)
          rw [hZ] at HC
          by_cases hz : Z = 0
          · subst hz
            have HQ := Lib.hid hZ
            clear hZ
            go_wp2_with (go_at_call 86; refine (HC.out _).mono ?_; rintro e y ⟨rfl, rfl⟩)
            go_roundw
            case rel => exact ⟨3, by go_num, by omega, ⟨fun _ => HE.out.1 (by omega), fun _ => HE.out.2.1 (by omega), fun _ => HQ.out⟩, by trivial⟩
            case measure => simp [intOf]
          · have HQ := Lib.hid (show R = Z by rw [← HR.out]; exact cmpK_3 (HE.out.1 (by omega)) (HE.out.2.1 (by omega)) hZ)
            have g : (Z != 0) = true := by simpa using hz
            clear hZ hz
            go_wp2_with (go_at_call 86; refine (HC.out _).mono ?_; rintro e y ⟨rfl, rfl⟩)
            go_ret
            exact ⟨ret_int HQ.out.symm, rfl⟩
        · have e3 : i = 3 := by omega
          subst e3
          have HQ := Lib.hid (show R = 0 by rw [← HR.out]; exact cmpK_3 (HE.out.1 (by omega)) (HE.out.2.1 (by omega)) (HE.out.2.2 (by omega)))
          go_wp2
          go_ret
          exact ⟨ret_int HQ.out.symm, rfl⟩
set_option maxRecDepth 100000 in
set_option maxHeartbeats 4000000 in
theorem compareD (l a b m c d : Int) (w : World) :
    Calls Try.prog 41 #[.agg #[.int .i64 l, .int .i64 a, .int .i64 b], .agg #[.int .i64 m, .int .i64 c, .int .i64 d]] w fun e w' => e = .returned (.int .i64 (cmpK l a b m c d)) ∧ Below w.heap.size w w' := by
  have hb : Below w.heap.size w ((w.alloc (.cells #[.int .i64 l, .int .i64 a, .int .i64 b] 52)).alloc (.cells #[.int .i64 m, .int .i64 c, .int .i64 d] 52)) := ((Below.refl _ w).alloc (Nat.le_refl _) _).alloc (by simp) _
  have HB := Lib.hid hb
  have h1 : ((w.alloc (.cells #[.int .i64 l, .int .i64 a, .int .i64 b] 52)).alloc (.cells #[.int .i64 m, .int .i64 c, .int .i64 d] 52)).heap[w.heap.size]? = some (.cells #[.int .i64 l, .int .i64 a, .int .i64 b] 52 (0, 0)) := (Below.heap_alloc _ _ _ (by simp)).trans (heap_alloc_new w _)
  have h2 : ((w.alloc (.cells #[.int .i64 l, .int .i64 a, .int .i64 b] 52)).alloc (.cells #[.int .i64 m, .int .i64 c, .int .i64 d] 52)).heap[w.heap.size + 1]? = some (.cells #[.int .i64 m, .int .i64 c, .int .i64 d] 52 (0, 0)) := by
    have h := heap_alloc_new (w.alloc (.cells #[.int .i64 l, .int .i64 a, .int .i64 b] 52)) (.cells #[.int .i64 m, .int .i64 c, .int .i64 d] 52)
    rw [World.size_alloc] at h
    exact h
  have HC := Lib.hid (fun (W : World) (k1 : W.heap[w.heap.size]? = some (.cells #[.int .i64 l, .int .i64 a, .int .i64 b] 52 (0, 0))) (k2 : W.heap[w.heap.size + 1]? = some (.cells #[.int .i64 m, .int .i64 c, .int .i64 d] 52 (0, 0))) => compareS w.heap.size (w.heap.size + 1) l a b m c d W (by rw [cell_of_row _ _ _ _ _ _ k1]; rfl) (by rw [cell_of_row _ _ _ _ _ _ k1]; rfl) (by rw [cell_of_row _ _ _ _ _ _ k1]; rfl) (by rw [cell_of_row _ _ _ _ _ _ k2]; rfl) (by rw [cell_of_row _ _ _ _ _ _ k2]; rfl) (by rw [cell_of_row _ _ _ _ _ _ k2]; rfl))
  have H1 := Lib.hid h1
  have H2 := Lib.hid h2
  clear hb h1 h2
  go_enter Try.func41, Try.ntmps41
  go_wp2
  go_quiet ((go_at_call 84; exact Calls.quiet_of_same (HC.out _ (by exact H1.out) (by exact H2.out))))
  go_wp2
  go_ret
  exact ⟨rfl, below_drewN' HB.out nq⟩
set_option maxRecDepth 100000 in
set_option maxHeartbeats 4000000 in
theorem atRow (l a b : Int) (A : Option Addr) (n c : Nat) (w : World) :
    Calls Try.prog 110 #[.agg #[.int .i64 l, .int .i64 a, .int .i64 b, .slice A n c]] w fun e w' => e = .returned (.agg #[.int .i64 l, .int .i64 a, .int .i64 b]) ∧ Below w.heap.size w w' := by
  go_enter Try.func110, Try.ntmps110
  go_wp2
  refine ret_cell rfl rfl rfl two_new.2 Try.underlying52 rfl infoKey ?_
  exact ⟨rfl, (((Below.refl _ w).alloc (Nat.le_refl _) _).alloc (by simp) _)⟩
set_option maxRecDepth 100000 in
set_option maxHeartbeats 4000000 in
theorem atCh (l a b : Int) (A : Option Addr) (n c : Nat) (B : Option Addr) (m d : Nat) (w : World) :
    Calls Try.prog 30 #[.agg #[.int .i64 l, .int .i64 a, .int .i64 b, .slice A n c, .slice B m d]] w fun e w' => e = .returned (.agg #[.int .i64 l, .int .i64 a, .int .i64 b]) ∧ Below w.heap.size w w' := by
  go_enter Try.func30, Try.ntmps30
  go_wp2
  refine ret_cell rfl rfl rfl two_new.2 Try.underlying52 rfl infoKey ?_
  exact ⟨rfl, (((Below.refl _ w).alloc (Nat.le_refl _) _).alloc (by simp) _)⟩
end Go.Proofs.Ytellifcjamedkaa

/- Whether a square, or a cube, of words is at most so much: the contract of below. -/
import Derived.Test.YtipaicfmodgcoaaDoorRows
import Derived.WalkKit
import Derived.IntWalk
import Derived.Lib.Hide
namespace Go.Proofs.YtipaicfmodgcoaaDoor
open Go.RowKit

theorem u64_in (n : Int) (h0 : 0 ≤ n) (h1 : n < 18446744073709551616) : IntKind.u64.wrap n = n := by rw [IntKind.wrap_u64]; omega

/-- A product of two numbers within their bounds. -/
theorem mul_bd (a b A B : Int) (h0 : 0 ≤ a) (h1 : a ≤ A) (h2 : 0 ≤ b) (h3 : b ≤ B) : 0 ≤ a * b ∧ a * b ≤ A * B :=
  ⟨Int.mul_nonneg h0 h2, Int.mul_le_mul h1 h3 h2 (by omega)⟩

/-- The square in words, against p. -/
theorem square_words (x L H A A0 A1 B C Q R : Int) (hL : x % 4294967296 = L) (hH : x / 4294967296 = H) (hA : L * L = A) (hA0 : A % 4294967296 = A0) (hA1 : A / 4294967296 = A1)
    (hB : 2 * H * L = B) (hC : H * H = C) (hQ : (B + A1) / 4294967296 = Q) (hR : (B + A1) % 4294967296 = R) :
    x * x = (C + Q) * 18446744073709551616 + R * 4294967296 + A0 := by
  have e1 : x = H * 4294967296 + L := by omega
  have e2 : x * x = C * 18446744073709551616 + B * 4294967296 + A := by
    rw [e1, ← hC, ← hB, ← hA]; grind
  have e3 : A = A1 * 4294967296 + A0 := by omega
  have e4 : B + A1 = Q * 4294967296 + R := by omega
  omega

theorem ret_bool {a b : Bool} (h : a = b) : Ending.returned (.bool a) = .returned (.bool b) := by rw [h]

set_option maxHeartbeats 1000000 in
theorem below17_sq (x p : Int) (w : World) (hx : 0 ≤ x) (hx2 : x ≤ 137438953472) :
    Calls Tryd.prog 69 #[.int .u64 x, .int .u64 p, .bool false] w fun e w' => e = .returned (.bool (decide (x * x ≤ p * 18446744073709551616))) ∧ w = w' := by
  obtain ⟨L, hL⟩ : ∃ L, x % 4294967296 = L := ⟨_, rfl⟩
  obtain ⟨H, hH⟩ : ∃ H, x / 4294967296 = H := ⟨_, rfl⟩
  have bL : 0 ≤ L ∧ L ≤ 4294967295 := by omega
  have bH : 0 ≤ H ∧ H ≤ 32 := by omega
  obtain ⟨A, hA⟩ : ∃ A, L * L = A := ⟨_, rfl⟩
  obtain ⟨C, hC⟩ : ∃ C, H * H = C := ⟨_, rfl⟩
  obtain ⟨B, hB⟩ : ∃ B, 2 * H * L = B := ⟨_, rfl⟩
  have bA := mul_bd L L _ _ bL.1 bL.2 bL.1 bL.2
  have bC := mul_bd H H _ _ bH.1 bH.2 bH.1 bH.2
  have bB := mul_bd (2 * H) L 64 _ (by omega) (by omega) bL.1 bL.2
  rw [hA] at bA; rw [hC] at bC; rw [hB] at bB
  obtain ⟨A0, hA0⟩ : ∃ A0, A % 4294967296 = A0 := ⟨_, rfl⟩
  obtain ⟨A1, hA1⟩ : ∃ A1, A / 4294967296 = A1 := ⟨_, rfl⟩
  obtain ⟨Q, hQ⟩ : ∃ Q, (B + A1) / 4294967296 = Q := ⟨_, rfl⟩
  obtain ⟨R, hR⟩ : ∃ R, (B + A1) % 4294967296 = R := ⟨_, rfl⟩
  have key := square_words x L H A A0 A1 B C Q R hL hH hA hA0 hA1 hB hC hQ hR
  have b1 : 0 ≤ A0 ∧ A0 ≤ 4294967295 := by omega
  have b2 : 0 ≤ A1 ∧ A1 ≤ 4294967295 := by omega
  have b3 : 0 ≤ R ∧ R ≤ 4294967295 := by omega
  have b4 : 0 ≤ Q ∧ Q ≤ 1000 := by omega
  have wA : IntKind.u64.wrap (L * L) = A := by rw [hA]; exact u64_in _ (by omega) (by omega)
  have wB : IntKind.u64.wrap (2 * H * L) = B := by rw [hB]; exact u64_in _ (by omega) (by omega)
  have wC : IntKind.u64.wrap (H * H) = C := by rw [hC]; exact u64_in _ (by omega) (by omega)
  have hR2 : (decide (x * x ≤ p * 18446744073709551616)) = (decide (C + Q < p) || ((C + Q == p) && (A0 == 0) && (R == 0))) := by
    rw [key]
    by_cases h1 : C + Q < p
    · rw [decide_eq_true h1]; simp; omega
    · rw [decide_eq_false h1]
      by_cases h2 : C + Q = p
      · by_cases h3 : A0 = 0
        · by_cases h4 : R = 0
          · rw [beq_iff_eq.2 h2, beq_iff_eq.2 h3, beq_iff_eq.2 h4]; simp; omega
          · rw [beq_eq_false_iff_ne.2 h4]; simp; omega
        · rw [beq_eq_false_iff_ne.2 h3]; simp; omega
      · rw [beq_eq_false_iff_ne.2 h2]; simp; omega
  obtain ⟨v, hv⟩ : ∃ v, v = decide (x * x ≤ p * 18446744073709551616) := ⟨_, rfl⟩
  rw [← hv]
  have HV := Lib.hid (hv.trans hR2)
  clear hR2 key hA hB hC hv
  obtain ⟨bL1, bL2⟩ := bL; obtain ⟨bH1, bH2⟩ := bH; obtain ⟨bA1, bA2⟩ := bA; obtain ⟨bB1, bB2⟩ := bB; obtain ⟨bC1, bC2⟩ := bC
  obtain ⟨b11, b12⟩ := b1; obtain ⟨b21, b22⟩ := b2; obtain ⟨b31, b32⟩ := b3; obtain ⟨b41, b42⟩ := b4
  go_enter Tryd.func69, Tryd.ntmps69
  go_wp2
  all_goals go_ret
  all_goals exact ⟨ret_bool (by rw [HV.out]; simp [*]), rfl⟩

/-- The cube in words. -/
theorem cube_words (x L H A0 R c D M N E F G : Int) (hx : x = H * 4294967296 + L) (hs : x * x = c * 18446744073709551616 + R * 4294967296 + A0)
    (hD : A0 * L = D) (hM : A0 * H = M) (hN : R * L = N) (hE : R * H = E) (hF : c * L = F) (hG : c * H = G) :
    x * x * x = G * 79228162514264337593543950336 + (E + F) * 18446744073709551616 + (N + M) * 4294967296 + D := by
  rw [hs]
  have : (c * 18446744073709551616 + R * 4294967296 + A0) * x = (c * 18446744073709551616 + R * 4294967296 + A0) * (H * 4294967296 + L) := by rw [← hx]
  rw [this, ← hD, ← hM, ← hN, ← hE, ← hF, ← hG]
  grind

set_option maxHeartbeats 2000000 in
theorem below17_cu (x p : Int) (w : World) (hx : 0 ≤ x) (hx2 : x ≤ 137438953472) :
    Calls Tryd.prog 69 #[.int .u64 x, .int .u64 p, .bool true] w fun e w' => e = .returned (.bool (decide (x * x * x ≤ p * 79228162514264337593543950336))) ∧ w = w' := by
  obtain ⟨L, hL⟩ : ∃ L, x % 4294967296 = L := ⟨_, rfl⟩
  obtain ⟨H, hH⟩ : ∃ H, x / 4294967296 = H := ⟨_, rfl⟩
  have bL : 0 ≤ L ∧ L ≤ 4294967295 := by omega
  have bH : 0 ≤ H ∧ H ≤ 32 := by omega
  have hxx : x = H * 4294967296 + L := by omega
  obtain ⟨A, hA⟩ : ∃ A, L * L = A := ⟨_, rfl⟩
  obtain ⟨C, hC⟩ : ∃ C, H * H = C := ⟨_, rfl⟩
  obtain ⟨B, hB⟩ : ∃ B, 2 * H * L = B := ⟨_, rfl⟩
  have bA := mul_bd L L _ _ bL.1 bL.2 bL.1 bL.2
  have bC := mul_bd H H _ _ bH.1 bH.2 bH.1 bH.2
  have bB := mul_bd (2 * H) L 64 _ (by omega) (by omega) bL.1 bL.2
  rw [hA] at bA; rw [hC] at bC; rw [hB] at bB
  obtain ⟨A0, hA0⟩ : ∃ A0, A % 4294967296 = A0 := ⟨_, rfl⟩
  obtain ⟨A1, hA1⟩ : ∃ A1, A / 4294967296 = A1 := ⟨_, rfl⟩
  obtain ⟨Q, hQ⟩ : ∃ Q, (B + A1) / 4294967296 = Q := ⟨_, rfl⟩
  obtain ⟨R, hR⟩ : ∃ R, (B + A1) % 4294967296 = R := ⟨_, rfl⟩
  have key0 := square_words x L H A A0 A1 B C Q R hL hH hA hA0 hA1 hB hC hQ hR
  have b1 : 0 ≤ A0 ∧ A0 ≤ 4294967295 := by omega
  have b2 : 0 ≤ A1 ∧ A1 ≤ 4294967295 := by omega
  have b3 : 0 ≤ R ∧ R ≤ 4294967295 := by omega
  have b4 : 0 ≤ Q ∧ Q ≤ 100 := by omega
  have b5 : 0 ≤ C + Q ∧ C + Q ≤ 2000 := by omega
  obtain ⟨D, hD⟩ : ∃ D, A0 * L = D := ⟨_, rfl⟩
  obtain ⟨M, hM⟩ : ∃ M, A0 * H = M := ⟨_, rfl⟩
  obtain ⟨N, hN⟩ : ∃ N, R * L = N := ⟨_, rfl⟩
  obtain ⟨E, hE⟩ : ∃ E, R * H = E := ⟨_, rfl⟩
  obtain ⟨F, hF⟩ : ∃ F, (C + Q) * L = F := ⟨_, rfl⟩
  obtain ⟨G, hG⟩ : ∃ G, (C + Q) * H = G := ⟨_, rfl⟩
  have key1 := cube_words x L H A0 R (C + Q) D M N E F G hxx key0 hD hM hN hE hF hG
  have bD := mul_bd A0 L _ _ b1.1 b1.2 bL.1 bL.2
  have bM := mul_bd A0 H _ _ b1.1 b1.2 bH.1 bH.2
  have bN := mul_bd R L _ _ b3.1 b3.2 bL.1 bL.2
  have bE := mul_bd R H _ _ b3.1 b3.2 bH.1 bH.2
  have bF := mul_bd (C + Q) L _ _ b5.1 b5.2 bL.1 bL.2
  have bG := mul_bd (C + Q) H _ _ b5.1 b5.2 bH.1 bH.2
  rw [hD] at bD; rw [hM] at bM; rw [hN] at bN; rw [hE] at bE; rw [hF] at bF; rw [hG] at bG
  obtain ⟨D0, hD0⟩ : ∃ D0, D % 4294967296 = D0 := ⟨_, rfl⟩
  obtain ⟨D1, hD1⟩ : ∃ D1, D / 4294967296 = D1 := ⟨_, rfl⟩
  obtain ⟨M0, hM0⟩ : ∃ M0, M % 4294967296 = M0 := ⟨_, rfl⟩
  obtain ⟨M1, hM1⟩ : ∃ M1, M / 4294967296 = M1 := ⟨_, rfl⟩
  obtain ⟨N0, hN0⟩ : ∃ N0, N % 4294967296 = N0 := ⟨_, rfl⟩
  obtain ⟨N1, hN1⟩ : ∃ N1, N / 4294967296 = N1 := ⟨_, rfl⟩
  obtain ⟨S0, hS0⟩ : ∃ S0, (D1 + M0 + N0) % 4294967296 = S0 := ⟨_, rfl⟩
  obtain ⟨S1, hS1⟩ : ∃ S1, (D1 + M0 + N0) / 4294967296 = S1 := ⟨_, rfl⟩
  obtain ⟨T0, hT0⟩ : ∃ T0, (S1 + M1 + N1 + E + F) % 4294967296 = T0 := ⟨_, rfl⟩
  obtain ⟨T1, hT1⟩ : ∃ T1, (S1 + M1 + N1 + E + F) / 4294967296 = T1 := ⟨_, rfl⟩
  have key : x * x * x = (G + T1) * 79228162514264337593543950336 + T0 * 18446744073709551616 + S0 * 4294967296 + D0 := by rw [key1]; omega
  have c1 : 0 ≤ D0 ∧ D0 ≤ 4294967295 := by omega
  have c2 : 0 ≤ D1 ∧ D1 ≤ 4294967295 := by omega
  have c3 : 0 ≤ M0 ∧ M0 ≤ 4294967295 := by omega
  have c4 : 0 ≤ M1 ∧ M1 ≤ 100 := by omega
  have c5 : 0 ≤ N0 ∧ N0 ≤ 4294967295 := by omega
  have c6 : 0 ≤ N1 ∧ N1 ≤ 4294967295 := by omega
  have c7 : 0 ≤ S0 ∧ S0 ≤ 4294967295 := by omega
  have c8 : 0 ≤ S1 ∧ S1 ≤ 100 := by omega
  have c9 : 0 ≤ T0 ∧ T0 ≤ 4294967295 := by omega
  have c10 : 0 ≤ T1 ∧ T1 ≤ 100000 := by omega
  have wA : IntKind.u64.wrap (L * L) = A := by rw [hA]; exact u64_in _ (by omega) (by omega)
  have wB : IntKind.u64.wrap (2 * H * L) = B := by rw [hB]; exact u64_in _ (by omega) (by omega)
  have wC : IntKind.u64.wrap (H * H) = C := by rw [hC]; exact u64_in _ (by omega) (by omega)
  have wD : IntKind.u64.wrap (A0 * L) = D := by rw [hD]; exact u64_in _ (by omega) (by omega)
  have wM : IntKind.u64.wrap (A0 * H) = M := by rw [hM]; exact u64_in _ (by omega) (by omega)
  have wN : IntKind.u64.wrap (R * L) = N := by rw [hN]; exact u64_in _ (by omega) (by omega)
  have wE : IntKind.u64.wrap (R * H) = E := by rw [hE]; exact u64_in _ (by omega) (by omega)
  have wF : IntKind.u64.wrap ((C + Q) * L) = F := by rw [hF]; exact u64_in _ (by omega) (by omega)
  have wG : IntKind.u64.wrap ((C + Q) * H) = G := by rw [hG]; exact u64_in _ (by omega) (by omega)
  have hR2 : (decide (x * x * x ≤ p * 79228162514264337593543950336)) = (decide (G + T1 < p) || ((G + T1 == p) && ((D0 == 0) && (S0 == 0) && (T0 == 0)))) := by
    rw [key]
    by_cases h1 : G + T1 < p
    · rw [decide_eq_true h1]; simp; omega
    · rw [decide_eq_false h1]
      by_cases h2 : G + T1 = p
      · by_cases h3 : D0 = 0
        · by_cases h4 : S0 = 0
          · by_cases h5 : T0 = 0
            · rw [beq_iff_eq.2 h2, beq_iff_eq.2 h3, beq_iff_eq.2 h4, beq_iff_eq.2 h5]; simp; omega
            · rw [beq_eq_false_iff_ne.2 h5]; simp; omega
          · rw [beq_eq_false_iff_ne.2 h4]; simp; omega
        · rw [beq_eq_false_iff_ne.2 h3]; simp; omega
      · rw [beq_eq_false_iff_ne.2 h2]; simp; omega
  obtain ⟨v, hv⟩ : ∃ v, v = decide (x * x * x ≤ p * 79228162514264337593543950336) := ⟨_, rfl⟩
  rw [← hv]
  have HV := Lib.hid (hv.trans hR2)
  clear hR2 key key0 key1 hA hB hC hv hD hM hN hE hF hG hxx
  obtain ⟨bL1, bL2⟩ := bL; obtain ⟨bH1, bH2⟩ := bH; obtain ⟨bA1, bA2⟩ := bA; obtain ⟨bB1, bB2⟩ := bB; obtain ⟨bC1, bC2⟩ := bC
  obtain ⟨b11, b12⟩ := b1; obtain ⟨b21, b22⟩ := b2; obtain ⟨b31, b32⟩ := b3; obtain ⟨b41, b42⟩ := b4; obtain ⟨b51, b52⟩ := b5
  obtain ⟨bD1, bD2⟩ := bD; obtain ⟨bM1, bM2⟩ := bM; obtain ⟨bN1, bN2⟩ := bN; obtain ⟨bE1, bE2⟩ := bE; obtain ⟨bF1, bF2⟩ := bF; obtain ⟨bG1, bG2⟩ := bG
  obtain ⟨c11, c12⟩ := c1; obtain ⟨c21, c22⟩ := c2; obtain ⟨c31, c32⟩ := c3; obtain ⟨c41, c42⟩ := c4; obtain ⟨c51, c52⟩ := c5
  obtain ⟨c61, c62⟩ := c6; obtain ⟨c71, c72⟩ := c7; obtain ⟨c81, c82⟩ := c8; obtain ⟨c91, c92⟩ := c9; obtain ⟨c101, c102⟩ := c10
  go_enter Tryd.func69, Tryd.ntmps69
  go_wp2
  all_goals go_ret
  all_goals exact ⟨ret_bool (by rw [HV.out]; simp [*]), rfl⟩
end Go.Proofs.YtipaicfmodgcoaaDoor

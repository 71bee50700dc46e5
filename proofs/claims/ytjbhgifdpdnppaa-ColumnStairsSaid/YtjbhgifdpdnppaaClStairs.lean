/- Columns that rise by the same; the walk of ColumnStairs, given a contract for each call of the program. -/
import Derived.Test.YtjbhgifdpdnppaaClGets
namespace Go.Proofs.Ytjbhgifdpdnppaa
open Go.RowKit Base Base2

def stairs (a b : Int) : Nat → List Int
  | 0 => []
  | k + 1 => a :: stairs (w64 (a + b)) b k
def stairL (a b : Int) : Nat → Int
  | 0 => a
  | k + 1 => stairL (w64 (a + b)) b k
theorem stairs_snoc : ∀ (k : Nat) (a b : Int), stairs a b (k + 1) = stairs a b k ++ [stairL a b k] ∧ stairL a b (k + 1) = w64 (stairL a b k + b)
  | 0, a, b => ⟨rfl, rfl⟩
  | k + 1, a, b => by
    have h := stairs_snoc k (w64 (a + b)) b
    exact ⟨by show a :: stairs (w64 (a + b)) b (k + 1) = a :: stairs (w64 (a + b)) b k ++ _; rw [h.1]; rfl, h.2⟩
theorem stairs_len : ∀ (k : Nat) (a b : Int), (stairs a b k).length = k
  | 0, _, _ => rfl
  | k + 1, a, b => by simp [stairs, stairs_len k]
theorem stairs_in : ∀ (k : Nat) (a b : Int), in64 a → ∀ x ∈ stairs a b k, in64 x
  | 0, _, _, _, x, h => by cases h
  | k + 1, a, b, ha, x, h => by
    rcases List.mem_cons.1 h with rfl | h
    · exact ha
    · exact stairs_in k _ b (w64_in _) x h
theorem stairs_diffs : ∀ (k : Nat) (a b : Int), in64 b → diffs a (stairs (w64 (a + b)) b k) = List.replicate k b
  | 0, _, _, _ => rfl
  | k + 1, a, b, hb => by
    show w64 (w64 (a + b) - a) :: diffs (w64 (a + b)) (stairs (w64 (w64 (a + b) + b)) b k) = _
    rw [w64_sub_add, w64_of hb, stairs_diffs k _ b hb]; rfl
theorem stairs_runs (k : Nat) (a b : Int) (ha : in64 a) (hb : in64 b) : diffs 0 (stairs a b (k + 1)) = a :: List.replicate k b := by
  show w64 (a - 0) :: diffs a (stairs (w64 (a + b)) b k) = _
  rw [Int.sub_zero, w64_of ha, stairs_diffs k a b hb]
theorem stairs_one (k : Nat) (b : Int) (hb : in64 b) : runsS (stairs b b (k + 1)) = [(b, k + 1)] :=
  runsS_is ⟨by show 1 ≤ k + 1; omega, by simp, trivial⟩ (by rw [stairs_runs k b b hb hb]; simp [expand, List.replicate_succ])
theorem stairs_zero (a b : Int) : runsS (stairs a b 0) = [] := runsS_is trivial rfl
theorem stairs_first (a b : Int) (ha : in64 a) (hb : in64 b) : runsS (stairs a b 1) = [(a, 1)] :=
  runsS_is ⟨Nat.le_refl _, by simp, trivial⟩ (by rw [stairs_runs 0 a b ha hb]; rfl)
theorem stairs_two (k : Nat) (a b : Int) (ha : in64 a) (hb : in64 b) (hab : a ≠ b) (hk : 1 ≤ k) : runsS (stairs a b (k + 1)) = [(a, 1), (b, k)] :=
  runsS_is ⟨Nat.le_refl _, by simp, hk, by simpa using hab, trivial⟩ (by rw [stairs_runs k a b ha hb]; simp [expand])
theorem enc_two (n : Nat) (h : n < 16384) : (M.enc n).length ≤ 2 := by
  have e := M.encF_more 1 9 n (by omega) (by omega)
  have h2 := (M.encF_len 1 n).2
  unfold M.enc
  rw [e]; exact h2
theorem encR_two : ∀ (r : List RunT), (∀ p ∈ r, p.2 < 16384) → (encR r).length ≤ 12 * r.length
  | [], _ => Nat.le_refl _
  | p :: r, h => by
    have h1 := encR_two r (fun q hq => h q (List.mem_cons_of_mem _ hq))
    have h2 := (M.enc_len (M.zig p.1).toNat).2
    have h3 := enc_two p.2 (h p (List.mem_cons_self ..))
    simp [encR]; omega
theorem stairs_size (l : List Int) (hl : l.length ≤ 1000) (hr : (runsS l).length ≤ 2) : (putB l).size ≤ 26 := by
  have h1 := encR_two (runsS l) (fun p hp => by have := runsS_num l p hp; omega)
  have h2 := enc_two l.length (by omega)
  rw [putB_size]; unfold putL
  rw [List.length_append]; omega
theorem one_stair (n : Int) : ∀ u ∈ [Value.int .i64 n], u.oneCell' = true := by
  intro u hu; simp at hu; subst hu; rfl
structure StR (w : World) (l : List Int) (v : Value) (W : World) : Prop where
  own : W.ownsRow w.heap.size 2 1 v l.length (l.map (Value.int .i64))
  lo : Below w.heap.size w W
theorem StR.app {w W w2 : World} {l : List Int} {v v' : Value} {z : Int} {o : Obj} (h : StR w l v W) (ho : w2.ownsRow w.heap.size 2 1 v' (l.length + 1) (l.map (Value.int .i64) ++ [.int .i64 z])) (hg : (W.alloc o).grownBy w2 v.ownBlock) : StR w (l ++ [z]) v' w2 :=
  ⟨by rw [List.map_append, List.length_append]; exact ho, h.lo.grown (World_grown_alloc hg) h.lo.size (own_block_ge h.own)⟩

set_option maxRecDepth 100000 in
set_option maxHeartbeats 8000000 in
theorem stairs5C {K : World → Prop} (C : ColC K) (a b : Int) (n : Nat) (w : World) (hK : K w) (ha : in64 a) (hb : in64 b) (hn : n ≤ 65535) :
    Calls Try.prog 5 #[.int .i64 a, .int .i64 b, .int .u16 (n : Int)] w fun e w' => e = .returned (.bool true) ∧ Below w.heap.size w w' := by
  obtain ⟨i0, hi0, hz0, hz1, hz2⟩ := info_parts info2C
  have HA := Lib.hid (alive6C C w hK)
  obtain ⟨k, hk⟩ : ∃ k, n % 1000 = k := ⟨_, rfl⟩
  have hk1 : k < 1000 := by omega
  have hwn : IntKind.i64.wrap (n : Int) = (n : Int) := by rw [IntKind.wrap_i64]; omega
  have hmod : (n : Int) % 1000 = (k : Int) := by omega
  have hmod2 : (n : Int).tmod 1000 = (k : Int) := by rw [Int.tmod_eq_emod_of_nonneg (by omega)]; exact hmod
  have hlen := stairs_len k a b
  have hin := stairs_in k a b ha
  have HRU := Lib.hid (fun (v : Option Addr) (c : Nat) W (hb : Below w.heap.size w W) hi => C.runs v c (stairs a b k) W (C.keep w W hK hb) hi (by omega) hin)
  have HP := Lib.hid (fun (v : Option Addr) (c : Nat) W (hb : Below w.heap.size w W) hi => C.put v c (stairs a b k) W (C.keep w W hK hb) hi (by unfold maxLen; omega) hin)
  rw [show putV (stairs a b k) = (putB (stairs a b k), 0) by unfold putV; rw [if_pos (by omega)]] at HP
  have HSN := Lib.hid (fun i => stairs_snoc i a b)
  have HLN := Lib.hid (fun i => stairs_len i a b)
  have hra : runsS (stairs a b k) = if k = 0 then [] else if k = 1 then [(a, 1)] else if a = b then [(b, k)] else [(a, 1), (b, k - 1)] := by
    rcases Nat.eq_zero_or_pos k with h0 | h0
    · rw [if_pos h0, h0]; exact stairs_zero a b
    · rw [if_neg (by omega)]
      by_cases h1 : k = 1
      · rw [if_pos h1, h1]; exact stairs_first a b ha hb
      · rw [if_neg h1]
        obtain ⟨j, rfl⟩ : ∃ j, k = j + 1 := ⟨k - 1, by omega⟩
        by_cases hab : a = b
        · rw [if_pos hab]; subst hab; exact stairs_one j a ha
        · rw [if_neg hab]; exact stairs_two j a b ha hb hab (by omega)
  have hsz := stairs_size (stairs a b k) (by omega) (by rw [hra]; split; simp; split; simp; split <;> simp)
  obtain ⟨Z, hZ⟩ : ∃ Z, putB (stairs a b k) = Z := ⟨_, rfl⟩
  obtain ⟨R, hR⟩ : ∃ R, runsS (stairs a b k) = R := ⟨_, rfl⟩
  rw [hZ] at HP hsz
  rw [hR] at HRU hra
  dsimp only at HP
  rw [hlen] at HP HRU
  have HRA := Lib.hid hra
  have hz30 : ¬ (30 : Int) < (Z.size : Int) := by omega
  have HAB : Hid (in64 a ∧ in64 b) := ⟨ha, hb⟩
  clear C hin hra hlen hZ hR hk ha hb hsz
  go_enter Try.func5, Try.ntmps5
  go_wp2_with ((go_at_call 6; refine HA.out.mono ?_; rintro e w1 ⟨rfl, hb⟩; have L1 := Lib.hid hb; clear hb))
  go_loopw [8, 9, 10] (fun vo vl vi W => ∃ (i : Nat) (x : Int), i ≤ k ∧ vi = .int .i64 (i : Int) ∧ vl = .int .i64 x ∧ x = stairL a b i ∧ StR w (stairs a b i) vo W) (fun _ _ vi _ => k - (intOf vi).toNat)
  case atStart => exact ⟨0, a, by omega, rfl, rfl, rfl, ⟨⟨rfl, .inl ⟨rfl, rfl⟩⟩, L1.out⟩⟩
  case round =>
    obtain ⟨i, x, hi, rfl, rfl, hx, hS⟩ := hrel
    have HS := Lib.hid hS
    by_cases hlt : i < k
    · have hsn := HSN.out i
      rw [← hx] at hsn
      have hln := HLN.out i
      obtain ⟨y, hy⟩ : ∃ y, w64 (x + b) = y := ⟨_, rfl⟩
      rw [hy] at hsn
      have hy5 : IntKind.i64.wrap (x + b) = y := hy
      have b1 : (stairs a b i).length + 1 ≤ maxLen := by rw [hln]; unfold maxLen; omega
      have b2 : ((stairs a b i).length + 1) * 8 ≤ 140737488355328 := by rw [hln]; omega
      have HN := Lib.hid hsn
      clear hsn hx hS hln hy
      go_wp2_with (at_builtin; refine wpList_append_own _ rfl _ _ 22 rfl w.heap.size 2 i0 (.int .i64 0) 1 8 Try.underlying22 hi0 hz0 hz1 hz2 rfl (by decide) _ _ _ rfl (HS.out.own.alloc _) ⟨wr.heap.size, 0, none⟩ 1 1 [.int .i64 x] rfl rfl (new_one _ _ _) (one_stair _) b1 b2 (by have := HS.out.lo.size; simp; omega) ?_; intro v2 w2 hown hgrow _; have HAP := Lib.hid (HS.out.app hown hgrow); clear hown hgrow)
      go_roundw
      case rel => exact ⟨i + 1, y, by omega, by go_num, rfl, HN.out.2.symm, by rw [HN.out.1]; exact HAP.out⟩
      case measure => simp [intOf]; omega
    · have hie : i = k := by omega
      subst hie
      obtain ⟨av, cv, hv, hiv⟩ := i64_own hS.own
      subst hv
      rw [HLN.out i] at hS ⊢
      have I2 := Lib.hid hiv
      have L2 := Lib.hid hS.lo
      clear hS hiv hx hlt hi HS HLN HSN
      have hra := HRA.out
      by_cases k0 : i = 0
      · rw [if_pos k0] at hra
        subst hra
        subst k0
        go_wp2_with (first
          | (go_at_call 8; refine (HRU.out _ _ _ L2.out I2.out).mono ?_; rintro e w3 ⟨⟨a3, c3, rfl, hi3⟩, hb⟩; have L3 := Lib.hid (L2.out.trans (hb.mono L2.out.size)); have I3 := Lib.hid (I2.out.below hb); have J3 := Lib.hid hi3; clear hb hi3)
          | (go_at_call 7; refine (HP.out _ _ _ L3.out I3.out).mono ?_; rintro e w4 ⟨rfl, hb⟩; have L4 := Lib.hid (L3.out.trans (hb.mono L3.out.size)); have J4 := Lib.hid (J3.out.below hb); clear hb))
        go_ret
        exact ⟨rfl, L4.out⟩
      · rw [if_neg k0] at hra
        by_cases k1 : i = 1
        · rw [if_pos k1] at hra
          subst hra
          subst k1
          go_wp2_with (first
            | (go_at_call 8; refine (HRU.out _ _ _ L2.out I2.out).mono ?_; rintro e w3 ⟨⟨a3, c3, rfl, hi3⟩, hb⟩; have L3 := Lib.hid (L2.out.trans (hb.mono L2.out.size)); have I3 := Lib.hid (I2.out.below hb); have J3 := Lib.hid hi3; clear hb hi3)
            | (go_at_call 7; refine (HP.out _ _ _ L3.out I3.out).mono ?_; rintro e w4 ⟨rfl, hb⟩; have L4 := Lib.hid (L3.out.trans (hb.mono L3.out.size)); have J4 := Lib.hid (J3.out.below hb); clear hb))
          go_ret
          exact ⟨rfl, L4.out⟩
        · rw [if_neg k1] at hra
          have hgt : (1 : Int) < (i : Int) := by omega
          have hge : ¬ (i : Int) < 2 := by omega
          by_cases hab : a = b
          · rw [if_pos hab] at hra
            subst hra
            have gab : (a == b) = true := by simpa using hab
            clear hab HRA k0 k1
            have heq : ∀ W, (binOp .eql 30 (.agg #[.int .i64 b, .int .i64 (i : Int)]) (.agg #[.int .i64 b, .int .i64 (i : Int)])).run Try.prog W = .ok (.bool true) W := fun W => by rw [eql_run]; simp
            go_wp2_with (first
              | (go_at_call 8; refine (HRU.out _ _ _ L2.out I2.out).mono ?_; rintro e w3 ⟨⟨a3, c3, rfl, hi3⟩, hb⟩; have L3 := Lib.hid (L2.out.trans (hb.mono L2.out.size)); have I3 := Lib.hid (I2.out.below hb); have J3 := Lib.hid hi3; clear hb hi3)
              | (go_at_call 7; refine (HP.out _ _ _ L3.out I3.out).mono ?_; rintro e w4 ⟨rfl, hb⟩; have L4 := Lib.hid (L3.out.trans (hb.mono L3.out.size)); have J4 := Lib.hid (J3.out.below hb); obtain ⟨q4, o4, rfl, hc4⟩ : ∃ bb off, a3 = some ⟨bb, off, none⟩ ∧ ∀ (ii : Nat) (p : RunT), ([(b, i)] : List RunT)[ii]? = some p → w4.cell? ⟨bb, off + ii * 2, none⟩ = some (.int .i64 p.1) ∧ w4.cell? ⟨bb, off + ii * 2 + 1, none⟩ = some (.int .i64 (p.2 : Int)) := (by rcases J4.out with h | ⟨bb, off, h1, _, h2⟩; cases h; exact ⟨bb, off, h1, h2⟩); have d1 := (hc4 0 _ rfl).1; have d2 := (hc4 0 _ rfl).2; clear hc4; simp only [Nat.zero_mul, Nat.add_zero] at d1 d2; clear hb))
            go_ret
            exact ⟨rfl, L4.out⟩
          · rw [if_neg hab] at hra
            subst hra
            have gab : (a == b) = false := by simpa using hab
            clear hab HRA k0 k1
            have hm1 : ((i - 1 : Nat) : Int) = (i : Int) - 1 := by omega
            have heq : ∀ W, (binOp .eql 30 (.agg #[.int .i64 a, .int .i64 1]) (.agg #[.int .i64 a, .int .i64 1])).run Try.prog W = .ok (.bool true) W := fun W => by rw [eql_run]; simp
            have heq2 : ∀ W, (binOp .eql 30 (.agg #[.int .i64 b, .int .i64 ((i : Int) - 1)]) (.agg #[.int .i64 b, .int .i64 ((i : Int) - 1)])).run Try.prog W = .ok (.bool true) W := fun W => by rw [eql_run]; simp
            go_wp2_with (first
              | (go_at_call 8; refine (HRU.out _ _ _ L2.out I2.out).mono ?_; rintro e w3 ⟨⟨a3, c3, rfl, hi3⟩, hb⟩; have L3 := Lib.hid (L2.out.trans (hb.mono L2.out.size)); have I3 := Lib.hid (I2.out.below hb); have J3 := Lib.hid hi3; clear hb hi3)
              | (go_at_call 7; refine (HP.out _ _ _ L3.out I3.out).mono ?_; rintro e w4 ⟨rfl, hb⟩; have L4 := Lib.hid (L3.out.trans (hb.mono L3.out.size)); have J4 := Lib.hid (J3.out.below hb); obtain ⟨q4, o4, rfl, hc4⟩ : ∃ bb off, a3 = some ⟨bb, off, none⟩ ∧ ∀ (ii : Nat) (p : RunT), ([(a, 1), (b, i - 1)] : List RunT)[ii]? = some p → w4.cell? ⟨bb, off + ii * 2, none⟩ = some (.int .i64 p.1) ∧ w4.cell? ⟨bb, off + ii * 2 + 1, none⟩ = some (.int .i64 (p.2 : Int)) := (by rcases J4.out with h | ⟨bb, off, h1, _, h2⟩; cases h; exact ⟨bb, off, h1, h2⟩); have d1 := (hc4 0 _ rfl).1; have d2 := (hc4 0 _ rfl).2; have d3 := (hc4 1 _ rfl).1; have d4 := (hc4 1 _ rfl).2; clear hc4; simp only [Nat.zero_mul, Nat.add_zero, Nat.one_mul, hm1] at d1 d2 d3 d4; clear hb))
            go_ret
            exact ⟨rfl, L4.out⟩
end Go.Proofs.Ytjbhgifdpdnppaa

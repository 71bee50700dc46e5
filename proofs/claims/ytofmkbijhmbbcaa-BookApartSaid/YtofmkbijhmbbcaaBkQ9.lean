/- The library's Equal, the program's Same: contracts. -/
import Derived.Test.YtofmkbijhmbbcaaBkRef4
import Derived.Test.YtofmkbijhmbbcaaBkLaw
namespace Go.Proofs.Ytofmkbijhmbbcaa
open Go.RowKit Base Base2

set_option maxRecDepth 100000 in
set_option maxHeartbeats 8000000 in
theorem equalHolder (a u : Option Addr) (c d : Nat) (A B : List Item) (w : World) (hA : RowsOf 4 w a A) (hB : RowsOf 4 w u B) (kA : ItemsOk 4 1000 A) (kB : ItemsOk 4 1000 B) :
    Calls Try.prog 35 #[.slice a A.length c, .slice u B.length d] w fun e w' => e = .returned (.bool (A == B)) ∧ Below w.heap.size w w' := by
  have HRA := Lib.hid hA
  have HRB := Lib.hid hB
  have lenA := kA.1
  have HKA := Lib.hid kA.2
  have HKB := Lib.hid kB.2
  clear hA hB kA kB
  by_cases q : A.length = B.length
  case neg =>
    have g : ¬ ((A.length : Int) = (B.length : Int)) := by omega
    have HN := Lib.hid (len_ne q)
    clear q
    go_enter Try.func35, Try.ntmps35
    go_wp2
    go_ret
    exact ⟨ret_bool HN.out.symm, Below.refl _ _⟩
  obtain ⟨n, hn⟩ : ∃ n, B.length = n := ⟨_, rfl⟩
  have HQ := Lib.hid (q.trans hn)
  have HP := Lib.hid hn
  rw [q, hn] at lenA ⊢
  clear q
  obtain ⟨RES, hR⟩ : ∃ r, (A == B) = r := ⟨_, rfl⟩
  rw [hR]
  have HR := Lib.hid hR
  clear hR hn
  go_enter Try.func35, Try.ntmps35
  go_wp2
  go_loopw [13] (fun vi W => ∃ j : Nat, vi = .int .i64 (j : Int) ∧ j ≤ n ∧ A.take j = B.take j ∧ Below w.heap.size w W) (fun vi _ => n - (intOf vi).toNat)
  case atStart => exact ⟨0, rfl, Nat.zero_le _, rfl, Below.refl _ _⟩
  case round =>
    obtain ⟨j, rfl, hj, hri, hbw⟩ := hrel
    have HB := Lib.hid hbw
    have HRI := Lib.hid hri
    clear hbw hri
    by_cases hlt : j < n
    · have hl1 : j < A.length := by rw [HQ.out]; exact hlt
      have hl2 : j < B.length := by rw [HP.out]; exact hlt
      obtain ⟨x, hx⟩ : ∃ x, A[j]? = some x := ⟨A[j], by simp [hl1]⟩
      obtain ⟨y, hy⟩ : ∃ y, B[j]? = some y := ⟨B[j], by simp [hl2]⟩
      clear hl1 hl2
      obtain ⟨b0, off, rfl, hb0, hcs⟩ := HRA.out.at hx
      obtain ⟨b1, off1, rfl, hb1, hds⟩ := HRB.out.at hy
      obtain ⟨p, q, r, s, rfl⟩ := item4 (HKA.out _ (List.mem_of_getElem? hx)).1
      obtain ⟨p', q', r', s', rfl⟩ := item4 (HKB.out _ (List.mem_of_getElem? hy)).1
      have x0 := hcs _ HB.out 0 p rfl
      have y0 := hds _ HB.out 0 p' rfl
      have x1 := hcs _ HB.out 1 q rfl
      have y1 := hds _ HB.out 1 q' rfl
      have x2 := hcs _ HB.out 2 r rfl
      have y2 := hds _ HB.out 2 r' rfl
      have x3 := hcs _ HB.out 3 s rfl
      have y3 := hds _ HB.out 3 s' rfl
      rw [Nat.add_zero] at x0 y0
      have hne := neq_hold p q r s p' q' r' s'
      by_cases he : ([p, q, r, s] : Item) = [p', q', r', s']
      · have hc : (p == p' && q == q' && r == r' && s == s') = true := by simp only [List.cons.injEq] at he; simp [he]
        have HNX := Lib.hid (take_eq_next HRI.out hx (by rw [he]; exact hy))
        rw [hc] at hne
        clear he hx hy hcs hds hc
        go_wp2
        go_quiet (fail)
        go_wp2
        go_roundw
        case rel => exact ⟨j + 1, by go_num, by omega, HNX.out, below_drewN' HB.out _⟩
        case measure => simp [intOf]; omega
      · have hc : (p == p' && q == q' && r == r' && s == s') = false := by cases hq : (p == p' && q == q' && r == r' && s == s') <;> simp_all
        have HNO := Lib.hid (HR.out.symm.trans (take_eq_no hx hy he))
        rw [hc] at hne
        clear he hx hy hcs hds hc
        go_wp2
        go_quiet (fail)
        go_wp2
        go_ret
        exact ⟨ret_bool HNO.out.symm, below_drewN' HB.out _⟩
    · have HD0 := Lib.hid (HR.out.symm.trans (take_eq_all HRI.out (by rw [HQ.out]; omega) (by rw [HP.out]; omega)))
      clear HRI
      go_wp2
      go_ret
      exact ⟨ret_bool HD0.out.symm, HB.out⟩

set_option maxRecDepth 100000 in
set_option maxHeartbeats 8000000 in
theorem equalStake (a u : Option Addr) (c d : Nat) (A B : List Item) (w : World) (hA : RowsOf 3 w a A) (hB : RowsOf 3 w u B) (kA : ItemsOk 3 1000 A) (kB : ItemsOk 3 1000 B) :
    Calls Try.prog 36 #[.slice a A.length c, .slice u B.length d] w fun e w' => e = .returned (.bool (A == B)) ∧ Below w.heap.size w w' := by
  have HRA := Lib.hid hA
  have HRB := Lib.hid hB
  have lenA := kA.1
  have HKA := Lib.hid kA.2
  have HKB := Lib.hid kB.2
  clear hA hB kA kB
  by_cases q : A.length = B.length
  case neg =>
    have g : ¬ ((A.length : Int) = (B.length : Int)) := by omega
    have HN := Lib.hid (len_ne q)
    clear q
    go_enter Try.func36, Try.ntmps36
    go_wp2
    go_ret
    exact ⟨ret_bool HN.out.symm, Below.refl _ _⟩
  obtain ⟨n, hn⟩ : ∃ n, B.length = n := ⟨_, rfl⟩
  have HQ := Lib.hid (q.trans hn)
  have HP := Lib.hid hn
  rw [q, hn] at lenA ⊢
  clear q
  obtain ⟨RES, hR⟩ : ∃ r, (A == B) = r := ⟨_, rfl⟩
  rw [hR]
  have HR := Lib.hid hR
  clear hR hn
  go_enter Try.func36, Try.ntmps36
  go_wp2
  go_loopw [13] (fun vi W => ∃ j : Nat, vi = .int .i64 (j : Int) ∧ j ≤ n ∧ A.take j = B.take j ∧ Below w.heap.size w W) (fun vi _ => n - (intOf vi).toNat)
  case atStart => exact ⟨0, rfl, Nat.zero_le _, rfl, Below.refl _ _⟩
  case round =>
    obtain ⟨j, rfl, hj, hri, hbw⟩ := hrel
    have HB := Lib.hid hbw
    have HRI := Lib.hid hri
    clear hbw hri
    by_cases hlt : j < n
    · have hl1 : j < A.length := by rw [HQ.out]; exact hlt
      have hl2 : j < B.length := by rw [HP.out]; exact hlt
      obtain ⟨x, hx⟩ : ∃ x, A[j]? = some x := ⟨A[j], by simp [hl1]⟩
      obtain ⟨y, hy⟩ : ∃ y, B[j]? = some y := ⟨B[j], by simp [hl2]⟩
      clear hl1 hl2
      obtain ⟨b0, off, rfl, hb0, hcs⟩ := HRA.out.at hx
      obtain ⟨b1, off1, rfl, hb1, hds⟩ := HRB.out.at hy
      obtain ⟨p, q, r, rfl⟩ := item3 (HKA.out _ (List.mem_of_getElem? hx)).1
      obtain ⟨p', q', r', rfl⟩ := item3 (HKB.out _ (List.mem_of_getElem? hy)).1
      have x0 := hcs _ HB.out 0 p rfl
      have y0 := hds _ HB.out 0 p' rfl
      have x1 := hcs _ HB.out 1 q rfl
      have y1 := hds _ HB.out 1 q' rfl
      have x2 := hcs _ HB.out 2 r rfl
      have y2 := hds _ HB.out 2 r' rfl
      rw [Nat.add_zero] at x0 y0
      have hne := neq_stake p q r p' q' r'
      by_cases he : ([p, q, r] : Item) = [p', q', r']
      · have hc : (p == p' && q == q' && r == r') = true := by simp only [List.cons.injEq] at he; simp [he]
        have HNX := Lib.hid (take_eq_next HRI.out hx (by rw [he]; exact hy))
        rw [hc] at hne
        clear he hx hy hcs hds hc
        go_wp2
        go_quiet (fail)
        go_wp2
        go_roundw
        case rel => exact ⟨j + 1, by go_num, by omega, HNX.out, below_drewN' HB.out _⟩
        case measure => simp [intOf]; omega
      · have hc : (p == p' && q == q' && r == r') = false := by cases hq : (p == p' && q == q' && r == r') <;> simp_all
        have HNO := Lib.hid (HR.out.symm.trans (take_eq_no hx hy he))
        rw [hc] at hne
        clear he hx hy hcs hds hc
        go_wp2
        go_quiet (fail)
        go_wp2
        go_ret
        exact ⟨ret_bool HNO.out.symm, below_drewN' HB.out _⟩
    · have HD0 := Lib.hid (HR.out.symm.trans (take_eq_all HRI.out (by rw [HQ.out]; omega) (by rw [HP.out]; omega)))
      clear HRI
      go_wp2
      go_ret
      exact ⟨ret_bool HD0.out.symm, HB.out⟩

set_option maxRecDepth 100000 in
set_option maxHeartbeats 8000000 in
theorem equalOpen (a u : Option Addr) (c d : Nat) (A B : List Item) (w : World) (hA : RowsOf 6 w a A) (hB : RowsOf 6 w u B) (kA : ItemsOk 6 1000 A) (kB : ItemsOk 6 1000 B) :
    Calls Try.prog 37 #[.slice a A.length c, .slice u B.length d] w fun e w' => e = .returned (.bool (A == B)) ∧ Below w.heap.size w w' := by
  have HRA := Lib.hid hA
  have HRB := Lib.hid hB
  have lenA := kA.1
  have HKA := Lib.hid kA.2
  have HKB := Lib.hid kB.2
  clear hA hB kA kB
  by_cases q : A.length = B.length
  case neg =>
    have g : ¬ ((A.length : Int) = (B.length : Int)) := by omega
    have HN := Lib.hid (len_ne q)
    clear q
    go_enter Try.func37, Try.ntmps37
    go_wp2
    go_ret
    exact ⟨ret_bool HN.out.symm, Below.refl _ _⟩
  obtain ⟨n, hn⟩ : ∃ n, B.length = n := ⟨_, rfl⟩
  have HQ := Lib.hid (q.trans hn)
  have HP := Lib.hid hn
  rw [q, hn] at lenA ⊢
  clear q
  obtain ⟨RES, hR⟩ : ∃ r, (A == B) = r := ⟨_, rfl⟩
  rw [hR]
  have HR := Lib.hid hR
  clear hR hn
  go_enter Try.func37, Try.ntmps37
  go_wp2
  go_loopw [13] (fun vi W => ∃ j : Nat, vi = .int .i64 (j : Int) ∧ j ≤ n ∧ A.take j = B.take j ∧ Below w.heap.size w W) (fun vi _ => n - (intOf vi).toNat)
  case atStart => exact ⟨0, rfl, Nat.zero_le _, rfl, Below.refl _ _⟩
  case round =>
    obtain ⟨j, rfl, hj, hri, hbw⟩ := hrel
    have HB := Lib.hid hbw
    have HRI := Lib.hid hri
    clear hbw hri
    by_cases hlt : j < n
    · have hl1 : j < A.length := by rw [HQ.out]; exact hlt
      have hl2 : j < B.length := by rw [HP.out]; exact hlt
      obtain ⟨x, hx⟩ : ∃ x, A[j]? = some x := ⟨A[j], by simp [hl1]⟩
      obtain ⟨y, hy⟩ : ∃ y, B[j]? = some y := ⟨B[j], by simp [hl2]⟩
      clear hl1 hl2
      obtain ⟨b0, off, rfl, hb0, hcs⟩ := HRA.out.at hx
      obtain ⟨b1, off1, rfl, hb1, hds⟩ := HRB.out.at hy
      obtain ⟨p, q, r, s, t, z, rfl⟩ := item6 (HKA.out _ (List.mem_of_getElem? hx)).1
      obtain ⟨p', q', r', s', t', z', rfl⟩ := item6 (HKB.out _ (List.mem_of_getElem? hy)).1
      have x0 := hcs _ HB.out 0 p rfl
      have y0 := hds _ HB.out 0 p' rfl
      have x1 := hcs _ HB.out 1 q rfl
      have y1 := hds _ HB.out 1 q' rfl
      have x2 := hcs _ HB.out 2 r rfl
      have y2 := hds _ HB.out 2 r' rfl
      have x3 := hcs _ HB.out 3 s rfl
      have y3 := hds _ HB.out 3 s' rfl
      have x4 := hcs _ HB.out 4 t rfl
      have y4 := hds _ HB.out 4 t' rfl
      have x5 := hcs _ HB.out 5 z rfl
      have y5 := hds _ HB.out 5 z' rfl
      rw [Nat.add_zero] at x0 y0
      have hne := neq_open p q r s t z p' q' r' s' t' z'
      by_cases he : ([p, q, r, s, t, z] : Item) = [p', q', r', s', t', z']
      · have hc : (p == p' && q == q' && r == r' && s == s' && t == t' && z == z') = true := by simp only [List.cons.injEq] at he; simp [he]
        have HNX := Lib.hid (take_eq_next HRI.out hx (by rw [he]; exact hy))
        rw [hc] at hne
        clear he hx hy hcs hds hc
        go_wp2
        go_quiet (fail)
        go_wp2
        go_roundw
        case rel => exact ⟨j + 1, by go_num, by omega, HNX.out, below_drewN' HB.out _⟩
        case measure => simp [intOf]; omega
      · have hc : (p == p' && q == q' && r == r' && s == s' && t == t' && z == z') = false := by cases hq : (p == p' && q == q' && r == r' && s == s' && t == t' && z == z') <;> simp_all
        have HNO := Lib.hid (HR.out.symm.trans (take_eq_no hx hy he))
        rw [hc] at hne
        clear he hx hy hcs hds hc
        go_wp2
        go_quiet (fail)
        go_wp2
        go_ret
        exact ⟨ret_bool HNO.out.symm, below_drewN' HB.out _⟩
    · have HD0 := Lib.hid (HR.out.symm.trans (take_eq_all HRI.out (by rw [HQ.out]; omega) (by rw [HP.out]; omega)))
      clear HRI
      go_wp2
      go_ret
      exact ⟨ret_bool HD0.out.symm, HB.out⟩

set_option maxRecDepth 100000 in
set_option maxHeartbeats 8000000 in
theorem equalRate (a u : Option Addr) (c d : Nat) (A B : List Item) (w : World) (hA : RowsOf 2 w a A) (hB : RowsOf 2 w u B) (kA : ItemsOk 2 1000 A) (kB : ItemsOk 2 1000 B) :
    Calls Try.prog 38 #[.slice a A.length c, .slice u B.length d] w fun e w' => e = .returned (.bool (A == B)) ∧ Below w.heap.size w w' := by
  have HRA := Lib.hid hA
  have HRB := Lib.hid hB
  have lenA := kA.1
  have HKA := Lib.hid kA.2
  have HKB := Lib.hid kB.2
  clear hA hB kA kB
  by_cases q : A.length = B.length
  case neg =>
    have g : ¬ ((A.length : Int) = (B.length : Int)) := by omega
    have HN := Lib.hid (len_ne q)
    clear q
    go_enter Try.func38, Try.ntmps38
    go_wp2
    go_ret
    exact ⟨ret_bool HN.out.symm, Below.refl _ _⟩
  obtain ⟨n, hn⟩ : ∃ n, B.length = n := ⟨_, rfl⟩
  have HQ := Lib.hid (q.trans hn)
  have HP := Lib.hid hn
  rw [q, hn] at lenA ⊢
  clear q
  obtain ⟨RES, hR⟩ : ∃ r, (A == B) = r := ⟨_, rfl⟩
  rw [hR]
  have HR := Lib.hid hR
  clear hR hn
  go_enter Try.func38, Try.ntmps38
  go_wp2
  go_loopw [13] (fun vi W => ∃ j : Nat, vi = .int .i64 (j : Int) ∧ j ≤ n ∧ A.take j = B.take j ∧ Below w.heap.size w W) (fun vi _ => n - (intOf vi).toNat)
  case atStart => exact ⟨0, rfl, Nat.zero_le _, rfl, Below.refl _ _⟩
  case round =>
    obtain ⟨j, rfl, hj, hri, hbw⟩ := hrel
    have HB := Lib.hid hbw
    have HRI := Lib.hid hri
    clear hbw hri
    by_cases hlt : j < n
    · have hl1 : j < A.length := by rw [HQ.out]; exact hlt
      have hl2 : j < B.length := by rw [HP.out]; exact hlt
      obtain ⟨x, hx⟩ : ∃ x, A[j]? = some x := ⟨A[j], by simp [hl1]⟩
      obtain ⟨y, hy⟩ : ∃ y, B[j]? = some y := ⟨B[j], by simp [hl2]⟩
      clear hl1 hl2
      obtain ⟨b0, off, rfl, hb0, hcs⟩ := HRA.out.at hx
      obtain ⟨b1, off1, rfl, hb1, hds⟩ := HRB.out.at hy
      obtain ⟨p, q, rfl⟩ := item2 (HKA.out _ (List.mem_of_getElem? hx)).1
      obtain ⟨p', q', rfl⟩ := item2 (HKB.out _ (List.mem_of_getElem? hy)).1
      have x0 := hcs _ HB.out 0 p rfl
      have y0 := hds _ HB.out 0 p' rfl
      have x1 := hcs _ HB.out 1 q rfl
      have y1 := hds _ HB.out 1 q' rfl
      rw [Nat.add_zero] at x0 y0
      have hne := neq_rate p q p' q'
      by_cases he : ([p, q] : Item) = [p', q']
      · have hc : (p == p' && q == q') = true := by simp only [List.cons.injEq] at he; simp [he]
        have HNX := Lib.hid (take_eq_next HRI.out hx (by rw [he]; exact hy))
        rw [hc] at hne
        clear he hx hy hcs hds hc
        go_wp2
        go_quiet (fail)
        go_wp2
        go_roundw
        case rel => exact ⟨j + 1, by go_num, by omega, HNX.out, below_drewN' HB.out _⟩
        case measure => simp [intOf]; omega
      · have hc : (p == p' && q == q') = false := by cases hq : (p == p' && q == q') <;> simp_all
        have HNO := Lib.hid (HR.out.symm.trans (take_eq_no hx hy he))
        rw [hc] at hne
        clear he hx hy hcs hds hc
        go_wp2
        go_quiet (fail)
        go_wp2
        go_ret
        exact ⟨ret_bool HNO.out.symm, below_drewN' HB.out _⟩
    · have HD0 := Lib.hid (HR.out.symm.trans (take_eq_all HRI.out (by rw [HQ.out]; omega) (by rw [HP.out]; omega)))
      clear HRI
      go_wp2
      go_ret
      exact ⟨ret_bool HD0.out.symm, HB.out⟩

set_option maxRecDepth 100000 in
set_option maxHeartbeats 8000000 in
theorem psame11 (v u : Slots) (a b : BookT) (w : World) (ha : BookIn w v a) (hb : BookIn w u b) (ka : BookOk 1000 a) (kb : BookOk 1000 b) :
    Calls Try.prog 11 #[.agg (cellsB v a), .agg (cellsB u b)] w fun e w' => e = .returned (.bool (sameT a b)) ∧ Below w.heap.size w w' := by
  obtain ⟨W0, hW0⟩ : ∃ W, (w.alloc (.cells (cellsB v a) 27)).alloc (.cells (cellsB u b) 27) = W := ⟨_, rfl⟩
  have hlo : Below w.heap.size w W0 := by rw [← hW0]; exact ((Below.refl _ w).alloc (Nat.le_refl _) _).alloc (by simp) _
  have hsz : W0.heap.size = w.heap.size + 2 := by rw [← hW0]; simp
  have hx : BoxB W0 w.heap.size v a ∧ BoxB W0 (w.heap.size + 1) u b := by rw [← hW0]; exact two_new
  have HCA := Lib.hid (show ∀ W, Below (w.heap.size + 2) W0 W → _ from fun W h => (hx.1.below h (by omega)).cells)
  have HCB := Lib.hid (show ∀ W, Below (w.heap.size + 2) W0 W → _ from fun W h => (hx.2.below h (by omega)).cells)
  have HLO := Lib.hid (show ∀ W, Below (w.heap.size + 2) W0 W → Below w.heap.size w W from fun W h => hlo.trans (h.mono (by omega)))
  have HWS := Lib.hid (show ∀ W, Below (w.heap.size + 2) W0 W → w.heap.size + 2 ≤ W.heap.size from fun W h => by have := h.size; omega)
  have HB0 := Lib.hid (show Below (w.heap.size + 2) W0 W0 from Below.refl _ _)
  have HE0 := Lib.hid (fun W (h : Below (w.heap.size + 2) W0 W) => equalHolder v.h u.h v.ch u.ch a.hs b.hs W (ha.hs.below (HLO.out W h)) (hb.hs.below (HLO.out W h)) ka.hs kb.hs)
  have HE1 := Lib.hid (fun W (h : Below (w.heap.size + 2) W0 W) => equalStake v.s u.s v.cs u.cs a.ss b.ss W (ha.ss.below (HLO.out W h)) (hb.ss.below (HLO.out W h)) ka.ss kb.ss)
  have HE2 := Lib.hid (fun W (h : Below (w.heap.size + 2) W0 W) => equalOpen v.o u.o v.co u.co a.os b.os W (ha.os.below (HLO.out W h)) (hb.os.below (HLO.out W h)) ka.os kb.os)
  have HE3 := Lib.hid (fun W (h : Below (w.heap.size + 2) W0 W) => equalRate v.r u.r v.cr u.cr a.rs b.rs W (ha.rs.below (HLO.out W h)) (hb.rs.below (HLO.out W h)) ka.rs kb.rs)
  obtain ⟨a0, a1, a2, a3, a4⟩ := HCA.out _ HB0.out
  obtain ⟨b0, b1, b2, b3, b4⟩ := HCB.out _ HB0.out
  unfold sameT cellsB at *
  clear hx hlo hsz ha hb ka kb
  generalize (a.hs == b.hs) = e0 at *
  generalize (a.ss == b.ss) = e1 at *
  generalize (a.os == b.os) = e2 at *
  generalize (a.rs == b.rs) = e3 at *
  cases e0 with
  | false =>
    go_enter Try.func11, Try.ntmps11
    go_wp2_with (first | (go_at_call 35; refine (HE0.out _ HB0.out).mono ?_; rintro e y0 ⟨rfl, hy⟩; have HB1 := Lib.hid (HB0.out.trans (hy.mono (HWS.out _ HB0.out))); obtain ⟨a0, a1, a2, a3, a4⟩ := HCA.out _ HB1.out; obtain ⟨b0, b1, b2, b3, b4⟩ := HCB.out _ HB1.out; clear hy))
    go_ret
    exact ⟨ret_bool (by simp), HLO.out _ HB1.out⟩
  | true =>
    cases e1 with
    | false =>
      go_enter Try.func11, Try.ntmps11
      go_wp2_with (first | (go_at_call 36; refine (HE1.out _ HB1.out).mono ?_; rintro e y1 ⟨rfl, hy⟩; have HB2 := Lib.hid (HB1.out.trans (hy.mono (HWS.out _ HB1.out))); obtain ⟨a0, a1, a2, a3, a4⟩ := HCA.out _ HB2.out; obtain ⟨b0, b1, b2, b3, b4⟩ := HCB.out _ HB2.out; clear hy) | (go_at_call 35; refine (HE0.out _ HB0.out).mono ?_; rintro e y0 ⟨rfl, hy⟩; have HB1 := Lib.hid (HB0.out.trans (hy.mono (HWS.out _ HB0.out))); obtain ⟨a0, a1, a2, a3, a4⟩ := HCA.out _ HB1.out; obtain ⟨b0, b1, b2, b3, b4⟩ := HCB.out _ HB1.out; clear hy))
      go_ret
      exact ⟨ret_bool (by simp), HLO.out _ HB2.out⟩
    | true =>
      cases e2 with
      | false =>
        go_enter Try.func11, Try.ntmps11
        go_wp2_with (first | (go_at_call 37; refine (HE2.out _ HB2.out).mono ?_; rintro e y2 ⟨rfl, hy⟩; have HB3 := Lib.hid (HB2.out.trans (hy.mono (HWS.out _ HB2.out))); obtain ⟨a0, a1, a2, a3, a4⟩ := HCA.out _ HB3.out; obtain ⟨b0, b1, b2, b3, b4⟩ := HCB.out _ HB3.out; clear hy) | (go_at_call 36; refine (HE1.out _ HB1.out).mono ?_; rintro e y1 ⟨rfl, hy⟩; have HB2 := Lib.hid (HB1.out.trans (hy.mono (HWS.out _ HB1.out))); obtain ⟨a0, a1, a2, a3, a4⟩ := HCA.out _ HB2.out; obtain ⟨b0, b1, b2, b3, b4⟩ := HCB.out _ HB2.out; clear hy) | (go_at_call 35; refine (HE0.out _ HB0.out).mono ?_; rintro e y0 ⟨rfl, hy⟩; have HB1 := Lib.hid (HB0.out.trans (hy.mono (HWS.out _ HB0.out))); obtain ⟨a0, a1, a2, a3, a4⟩ := HCA.out _ HB1.out; obtain ⟨b0, b1, b2, b3, b4⟩ := HCB.out _ HB1.out; clear hy))
        go_ret
        exact ⟨ret_bool (by simp), HLO.out _ HB3.out⟩
      | true =>
        cases e3 with
        | false =>
          go_enter Try.func11, Try.ntmps11
          go_wp2_with (first | (go_at_call 38; refine (HE3.out _ HB3.out).mono ?_; rintro e y3 ⟨rfl, hy⟩; have HB4 := Lib.hid (HB3.out.trans (hy.mono (HWS.out _ HB3.out))); obtain ⟨a0, a1, a2, a3, a4⟩ := HCA.out _ HB4.out; obtain ⟨b0, b1, b2, b3, b4⟩ := HCB.out _ HB4.out; clear hy) | (go_at_call 37; refine (HE2.out _ HB2.out).mono ?_; rintro e y2 ⟨rfl, hy⟩; have HB3 := Lib.hid (HB2.out.trans (hy.mono (HWS.out _ HB2.out))); obtain ⟨a0, a1, a2, a3, a4⟩ := HCA.out _ HB3.out; obtain ⟨b0, b1, b2, b3, b4⟩ := HCB.out _ HB3.out; clear hy) | (go_at_call 36; refine (HE1.out _ HB1.out).mono ?_; rintro e y1 ⟨rfl, hy⟩; have HB2 := Lib.hid (HB1.out.trans (hy.mono (HWS.out _ HB1.out))); obtain ⟨a0, a1, a2, a3, a4⟩ := HCA.out _ HB2.out; obtain ⟨b0, b1, b2, b3, b4⟩ := HCB.out _ HB2.out; clear hy) | (go_at_call 35; refine (HE0.out _ HB0.out).mono ?_; rintro e y0 ⟨rfl, hy⟩; have HB1 := Lib.hid (HB0.out.trans (hy.mono (HWS.out _ HB0.out))); obtain ⟨a0, a1, a2, a3, a4⟩ := HCA.out _ HB1.out; obtain ⟨b0, b1, b2, b3, b4⟩ := HCB.out _ HB1.out; clear hy))
          go_ret
          exact ⟨ret_bool (by simp), HLO.out _ HB4.out⟩
        | true =>
          go_enter Try.func11, Try.ntmps11
          go_wp2_with (first | (go_at_call 38; refine (HE3.out _ HB3.out).mono ?_; rintro e y3 ⟨rfl, hy⟩; have HB4 := Lib.hid (HB3.out.trans (hy.mono (HWS.out _ HB3.out))); obtain ⟨a0, a1, a2, a3, a4⟩ := HCA.out _ HB4.out; obtain ⟨b0, b1, b2, b3, b4⟩ := HCB.out _ HB4.out; clear hy) | (go_at_call 37; refine (HE2.out _ HB2.out).mono ?_; rintro e y2 ⟨rfl, hy⟩; have HB3 := Lib.hid (HB2.out.trans (hy.mono (HWS.out _ HB2.out))); obtain ⟨a0, a1, a2, a3, a4⟩ := HCA.out _ HB3.out; obtain ⟨b0, b1, b2, b3, b4⟩ := HCB.out _ HB3.out; clear hy) | (go_at_call 36; refine (HE1.out _ HB1.out).mono ?_; rintro e y1 ⟨rfl, hy⟩; have HB2 := Lib.hid (HB1.out.trans (hy.mono (HWS.out _ HB1.out))); obtain ⟨a0, a1, a2, a3, a4⟩ := HCA.out _ HB2.out; obtain ⟨b0, b1, b2, b3, b4⟩ := HCB.out _ HB2.out; clear hy) | (go_at_call 35; refine (HE0.out _ HB0.out).mono ?_; rintro e y0 ⟨rfl, hy⟩; have HB1 := Lib.hid (HB0.out.trans (hy.mono (HWS.out _ HB0.out))); obtain ⟨a0, a1, a2, a3, a4⟩ := HCA.out _ HB1.out; obtain ⟨b0, b1, b2, b3, b4⟩ := HCB.out _ HB1.out; clear hy))
          go_ret
          exact ⟨ret_bool (by simp), HLO.out _ HB4.out⟩
end Go.Proofs.Ytofmkbijhmbbcaa

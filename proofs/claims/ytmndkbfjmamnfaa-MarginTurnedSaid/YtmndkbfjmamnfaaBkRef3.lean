/- The law's measure of a book; the document's Rise: their contracts. -/
import Derived.Test.YtmndkbfjmamnfaaBkRef2
namespace Go.Proofs.Ytmndkbfjmamnfaa
open Go.RowKit Base Base2

set_option maxRecDepth 100000 in
set_option maxHeartbeats 4000000 in
theorem great8 (v : Slots) (b : BookT) (w : World) :
    Calls Try.prog 8 #[.agg (cellsB v b)] w fun e w' => e = .returned (.bool (greatT b)) ∧ Below w.heap.size w w' := by
  have hlo : Below w.heap.size w (w.alloc (.cells (cellsB v b) 27)) := (Below.refl _ w).alloc (Nat.le_refl _) _
  obtain ⟨c0, c1, c2, c3, _⟩ := (BoxB.new w v b).cells
  have HLO := Lib.hid hlo
  unfold greatT
  unfold cellsB at *
  generalize b.hs.length = n0 at *
  generalize b.ss.length = n1 at *
  generalize b.os.length = n2 at *
  generalize b.rs.length = n3 at *
  clear hlo
  by_cases h0 : 40 < n0
  · have g0 : (40 : Int) < (n0 : Int) := by omega
    go_enter Try.func8, Try.ntmps8
    go_wp2
    go_ret
    exact ⟨ret_bool (by simp [h0]), HLO.out⟩
  have g0 : ¬ (40 : Int) < (n0 : Int) := by omega
  by_cases h2 : 70 < n2
  · have g2 : (70 : Int) < (n2 : Int) := by omega
    go_enter Try.func8, Try.ntmps8
    go_wp2
    go_ret
    exact ⟨ret_bool (by simp []), HLO.out⟩
  have g2 : ¬ (70 : Int) < (n2 : Int) := by omega
  by_cases h3 : 40 < n3
  · have g3 : (40 : Int) < (n3 : Int) := by omega
    go_enter Try.func8, Try.ntmps8
    go_wp2
    go_ret
    exact ⟨ret_bool (by simp []), HLO.out⟩
  have g3 : ¬ (40 : Int) < (n3 : Int) := by omega
  by_cases h1 : 200 < n1
  · have g1 : (200 : Int) < (n1 : Int) := by omega
    go_enter Try.func8, Try.ntmps8
    go_wp2
    go_ret
    exact ⟨ret_bool (by simp []), HLO.out⟩
  · have g1 : ¬ (200 : Int) < (n1 : Int) := by omega
    go_enter Try.func8, Try.ntmps8
    go_wp2
    go_ret
    exact ⟨ret_bool (by simp []), HLO.out⟩

/-- Two neighbours. -/
theorem two_at {k : Nat} {W : World} {a : Option Addr} {l : List Item} {j : Nat} {x y : Item} (h : RowsOf k W a l) (hx : l[j]? = some x) (hy : l[j + 1]? = some y) : ∃ b off, a = some ⟨b, off, none⟩ ∧ ∀ (W' : World), Below W.heap.size W W' → (∀ (i : Nat) (z : Int), x[i]? = some z → W'.cell? ⟨b, off + j * k + i, none⟩ = some (.int .i64 z)) ∧ ∀ (i : Nat) (z : Int), y[i]? = some z → W'.cell? ⟨b, off + (j + 1) * k + i, none⟩ = some (.int .i64 z) := by
  rcases h with rfl | ⟨b, off, rfl, h1, h2⟩
  · simp at hx
  · exact ⟨b, off, rfl, fun W' hb => ⟨fun i z hz => (hb.cell (p := ⟨b, off + j * k + i, none⟩) h1).trans (h2 j x hx i z hz), fun i z hz => (hb.cell (p := ⟨b, off + (j + 1) * k + i, none⟩) h1).trans (h2 (j + 1) y hy i z hz)⟩⟩
theorem rise_all {lt : Item → Item → Bool} {l : List Item} {i : Nat} (h : riseL lt (l.take i) = true) (hi : l.length ≤ i) : riseL lt l = true := by rwa [List.take_of_length_le hi] at h

theorem two_new {W : World} {O P : Obj} : ((W.alloc O).alloc P).heap[W.heap.size]? = some O ∧ ((W.alloc O).alloc P).heap[W.heap.size + 1]? = some P := by
  have h := heap_alloc_new (W.alloc O) P
  rw [World.size_alloc] at h
  exact ⟨(Below.heap_alloc _ _ _ (by simp)).trans (heap_alloc_new W O), h⟩

set_option maxRecDepth 100000 in
set_option maxHeartbeats 8000000 in
theorem rise14 (v : Slots) (b : BookT) (w : World) (hb : BookIn w v b) (hk : BookOk 2000 b) :
    Calls Try.prog 29 #[.agg (cellsB v b)] w fun e w' => e = .returned (.bool (riseT b)) ∧ Below w.heap.size w w' := by
  have hbox := BoxB.new w v b
  have hlo : Below w.heap.size w (w.alloc (.cells (cellsB v b) 27)) := (Below.refl _ w).alloc (Nat.le_refl _) _
  have hsz : (w.alloc (.cells (cellsB v b) 27)).heap.size = w.heap.size + 1 := by simp
  have HROWhs := Lib.hid hb.hs
  have HROWss := Lib.hid hb.ss
  have HROWos := Lib.hid hb.os
  have HROWrs := Lib.hid hb.rs
  have lenhs := hk.hs.1
  have lenss := hk.ss.1
  have lenos := hk.os.1
  have lenrs := hk.rs.1
  have HKhs := Lib.hid hk.hs.2
  have HKss := Lib.hid hk.ss.2
  have HKos := Lib.hid hk.os.2
  have HKrs := Lib.hid hk.rs.2
  obtain ⟨W0, hW0⟩ : ∃ W, w.alloc (.cells (cellsB v b) 27) = W := ⟨_, rfl⟩
  have HC := Lib.hid (show ∀ W, Below (w.heap.size + 1) W0 W → (W.cell? ⟨w.heap.size, 0, none⟩ = some (.slice v.h b.hs.length v.ch) ∧ W.cell? ⟨w.heap.size, 1, none⟩ = some (.slice v.s b.ss.length v.cs) ∧ W.cell? ⟨w.heap.size, 2, none⟩ = some (.slice v.o b.os.length v.co) ∧ W.cell? ⟨w.heap.size, 3, none⟩ = some (.slice v.r b.rs.length v.cr) ∧ W.cell? ⟨w.heap.size, 4, none⟩ = some (.int .i64 b.co)) from fun W h => by subst hW0; exact (hbox.below h (by omega)).cells)
  have HLO := Lib.hid (show ∀ W, Below (w.heap.size + 1) W0 W → Below w.heap.size w W from fun W h => by subst hW0; exact hlo.trans (h.mono (by omega)))
  have HB0 := Lib.hid (show Below (w.heap.size + 1) W0 W0 from Below.refl _ _)
  have HS0 := Lib.hid (show w.heap.size + 1 ≤ W0.heap.size by rw [← hW0]; simp)
  unfold riseT
  unfold cellsB at *
  clear hb hk hbox hlo hsz
  generalize b.hs = Lhs at *
  generalize b.ss = Lss at *
  generalize b.os = Los at *
  generalize b.rs = Lrs at *
  generalize b.co = n4 at *
  generalize v.h = ahs at *
  generalize v.s = ass at *
  generalize v.o = aos at *
  generalize v.r = ars at *
  generalize v.ch = chs at *
  generalize v.cs = css at *
  generalize v.co = cos at *
  generalize v.cr = crs at *
  go_enter Try.func29, Try.ntmps29
  go_wp2
  clear hW0
  go_loopw [3] (fun vi W => ∃ j : Nat, vi = .int .i64 (((j + 1 : Nat)) : Int) ∧ j ≤ Lhs.length ∧ riseL lt1 (Lhs.take (j + 1)) = true ∧ Below (w.heap.size + 1) W0 W) (fun vi _ => Lhs.length - (intOf vi).toNat)
  case atStart => exact ⟨0, rfl, Nat.zero_le _, by cases Lhs <;> rfl, HB0.out⟩
  case round =>
    obtain ⟨j, rfl, hj, hri, hbw⟩ := hrel
    have HB := Lib.hid hbw
    have HRI := Lib.hid hri
    clear hbw hri HB0
    have cb := (HC.out _ HB.out).1
    by_cases hlt : j + 1 < Lhs.length
    · obtain ⟨x, hx⟩ : ∃ x, Lhs[j]? = some x := ⟨Lhs[j]'(by omega), by simp⟩
      obtain ⟨y, hy⟩ : ∃ y, Lhs[j + 1]? = some y := ⟨Lhs[j + 1]'hlt, by simp [hlt]⟩
      obtain ⟨b0, off, rfl, hcs⟩ := two_at HROWhs.out hx hy
      obtain ⟨p, q, r, s, rfl⟩ := item4 (HKhs.out _ (List.mem_of_getElem? hx)).1
      obtain ⟨p', q', r', s', rfl⟩ := item4 (HKhs.out _ (List.mem_of_getElem? hy)).1
      obtain ⟨hc1, hc2⟩ := hcs _ (HLO.out _ HB.out)
      have k0 := hc1 0 p rfl
      have k1 := hc2 0 p' rfl
      rw [Nat.add_zero] at k0 k1
      have hji : ((j + 1 : Nat) : Int) - 1 = (j : Int) := by omega
      have hnx := rise_next hx hy HRI.out
      clear hc1 hc2 hcs
      by_cases he : p' ≤ p
      · have hno : riseL lt1 Lhs = false := rise_no (i := j + 2) (by rw [hnx]; simp [lt1, key, he])
        have HNO := Lib.hid hno
        clear hno hnx hx hy
        go_wp2
        go_quiet (fail)
        go_wp2
        go_ret
        exact ⟨ret_bool (by rw [HNO.out]; simp), HLO.out _ (below_drewN' HB.out _)⟩
      · have HNX := Lib.hid (show riseL lt1 (Lhs.take (j + 1 + 1)) = true by rw [hnx]; simp [lt1, key]; omega)
        clear hnx hx hy
        go_wp2
        go_quiet (fail)
        go_wp2
        go_roundw
        case rel => exact ⟨j + 1, by go_num, by omega, HNX.out, below_drewN' HB.out _⟩
        case measure => simp [intOf]; omega
    · have HD0 := Lib.hid (rise_all HRI.out (by omega))
      have HB1 := Lib.hid HB.out
      clear HRI HB
      go_wp2
      clear hlt hj
      go_loopw [4] (fun vi W => ∃ j : Nat, vi = .int .i64 (((j + 1 : Nat)) : Int) ∧ j ≤ Los.length ∧ riseL lt1 (Los.take (j + 1)) = true ∧ Below (w.heap.size + 1) W0 W) (fun vi _ => Los.length - (intOf vi).toNat)
      case atStart => exact ⟨0, rfl, Nat.zero_le _, by cases Los <;> rfl, HB1.out⟩
      case round =>
        obtain ⟨j, rfl, hj, hri, hbw⟩ := hrel
        have HB := Lib.hid hbw
        have HRI := Lib.hid hri
        clear hbw hri HB1
        have cb := (HC.out _ HB.out).2.2.1
        by_cases hlt : j + 1 < Los.length
        · obtain ⟨x, hx⟩ : ∃ x, Los[j]? = some x := ⟨Los[j]'(by omega), by simp⟩
          obtain ⟨y, hy⟩ : ∃ y, Los[j + 1]? = some y := ⟨Los[j + 1]'hlt, by simp [hlt]⟩
          obtain ⟨b0, off, rfl, hcs⟩ := two_at HROWos.out hx hy
          obtain ⟨p, q, r, s, t, u, rfl⟩ := item6 (HKos.out _ (List.mem_of_getElem? hx)).1
          obtain ⟨p', q', r', s', t', u', rfl⟩ := item6 (HKos.out _ (List.mem_of_getElem? hy)).1
          obtain ⟨hc1, hc2⟩ := hcs _ (HLO.out _ HB.out)
          have k0 := hc1 0 p rfl
          have k1 := hc2 0 p' rfl
          rw [Nat.add_zero] at k0 k1
          have hji : ((j + 1 : Nat) : Int) - 1 = (j : Int) := by omega
          have hnx := rise_next hx hy HRI.out
          clear hc1 hc2 hcs
          by_cases he : p' ≤ p
          · have hno : riseL lt1 Los = false := rise_no (i := j + 2) (by rw [hnx]; simp [lt1, key, he])
            have HNO := Lib.hid hno
            clear hno hnx hx hy
            go_wp2
            go_quiet (fail)
            go_wp2
            go_ret
            exact ⟨ret_bool (by rw [HNO.out]; simp), HLO.out _ (below_drewN' HB.out _)⟩
          · have HNX := Lib.hid (show riseL lt1 (Los.take (j + 1 + 1)) = true by rw [hnx]; simp [lt1, key]; omega)
            clear hnx hx hy
            go_wp2
            go_quiet (fail)
            go_wp2
            go_roundw
            case rel => exact ⟨_, _, _, _, _, _, _, _, _, _, _, _, _, _, _, _, _, _, _, _, _, _, _, ⟨j + 1, by go_num, by omega, HNX.out, below_drewN' HB.out _⟩, rfl⟩
            case measure => simp [intOf]; omega
        · have HD1 := Lib.hid (rise_all HRI.out (by omega))
          have HB2 := Lib.hid HB.out
          clear HRI HB
          go_wp2
          clear hlt hj
          go_loopw [5] (fun vi W => ∃ j : Nat, vi = .int .i64 (((j + 1 : Nat)) : Int) ∧ j ≤ Lrs.length ∧ riseL lt1 (Lrs.take (j + 1)) = true ∧ Below (w.heap.size + 1) W0 W) (fun vi _ => Lrs.length - (intOf vi).toNat)
          case atStart => exact ⟨0, rfl, Nat.zero_le _, by cases Lrs <;> rfl, HB2.out⟩
          case round =>
            obtain ⟨j, rfl, hj, hri, hbw⟩ := hrel
            have HB := Lib.hid hbw
            have HRI := Lib.hid hri
            clear hbw hri HB2
            have cb := (HC.out _ HB.out).2.2.2.1
            by_cases hlt : j + 1 < Lrs.length
            · obtain ⟨x, hx⟩ : ∃ x, Lrs[j]? = some x := ⟨Lrs[j]'(by omega), by simp⟩
              obtain ⟨y, hy⟩ : ∃ y, Lrs[j + 1]? = some y := ⟨Lrs[j + 1]'hlt, by simp [hlt]⟩
              obtain ⟨b0, off, rfl, hcs⟩ := two_at HROWrs.out hx hy
              obtain ⟨p, q, rfl⟩ := item2 (HKrs.out _ (List.mem_of_getElem? hx)).1
              obtain ⟨p', q', rfl⟩ := item2 (HKrs.out _ (List.mem_of_getElem? hy)).1
              obtain ⟨hc1, hc2⟩ := hcs _ (HLO.out _ HB.out)
              have k0 := hc1 0 p rfl
              have k1 := hc2 0 p' rfl
              rw [Nat.add_zero] at k0 k1
              have hji : ((j + 1 : Nat) : Int) - 1 = (j : Int) := by omega
              have hnx := rise_next hx hy HRI.out
              clear hc1 hc2 hcs
              by_cases he : p' ≤ p
              · have hno : riseL lt1 Lrs = false := rise_no (i := j + 2) (by rw [hnx]; simp [lt1, key, he])
                have HNO := Lib.hid hno
                clear hno hnx hx hy
                go_wp2
                go_quiet (fail)
                go_wp2
                go_ret
                exact ⟨ret_bool (by rw [HNO.out]; simp), HLO.out _ (below_drewN' HB.out _)⟩
              · have HNX := Lib.hid (show riseL lt1 (Lrs.take (j + 1 + 1)) = true by rw [hnx]; simp [lt1, key]; omega)
                clear hnx hx hy
                go_wp2
                go_quiet (fail)
                go_wp2
                go_roundw
                case rel => exact ⟨_, _, _, _, _, _, _, _, _, _, _, _, _, _, _, _, _, _, _, _, _, _, _, ⟨j + 1, by go_num, by omega, HNX.out, below_drewN' HB.out _⟩, rfl⟩
                case measure => simp [intOf]; omega
            · have HD2 := Lib.hid (rise_all HRI.out (by omega))
              have HB3 := Lib.hid HB.out
              clear HRI HB
              go_wp2
              clear hlt hj
              go_loopw [6] (fun vi W => ∃ j : Nat, vi = .int .i64 (((j + 1 : Nat)) : Int) ∧ j ≤ Lss.length ∧ riseL lt2 (Lss.take (j + 1)) = true ∧ Below (w.heap.size + 1) W0 W) (fun vi _ => Lss.length - (intOf vi).toNat)
              case atStart => exact ⟨0, rfl, Nat.zero_le _, by cases Lss <;> rfl, HB3.out⟩
              case round =>
                obtain ⟨j, rfl, hj, hri, hbw⟩ := hrel
                have HB := Lib.hid hbw
                have HRI := Lib.hid hri
                clear hbw hri HB3
                have cb := (HC.out _ HB.out).2.1
                by_cases hlt : j + 1 < Lss.length
                · obtain ⟨x, hx⟩ : ∃ x, Lss[j]? = some x := ⟨Lss[j]'(by omega), by simp⟩
                  obtain ⟨y, hy⟩ : ∃ y, Lss[j + 1]? = some y := ⟨Lss[j + 1]'hlt, by simp [hlt]⟩
                  obtain ⟨b0, off, rfl, hcs⟩ := two_at HROWss.out hx hy
                  obtain ⟨p, q, r, rfl⟩ := item3 (HKss.out _ (List.mem_of_getElem? hx)).1
                  obtain ⟨p', q', r', rfl⟩ := item3 (HKss.out _ (List.mem_of_getElem? hy)).1
                  obtain ⟨hc1, hc2⟩ := hcs _ (HLO.out _ HB.out)
                  have hji : ((j + 1 : Nat) : Int) - 1 = (j : Int) := by omega
                  have hnx := rise_next hx hy HRI.out
                  have HNX := Lib.hid hnx
                  have HCS := Lib.hid hcs
                  have hjz : j + 1 < Lss.length := hlt
                  have hjz2 : j < Lss.length := by omega
                  clear hc1 hc2 hcs hnx hx hy
                  go_wp2
                  have HSZ := Lib.hid (show w.heap.size + 1 ≤ wr.heap.size from Nat.le_trans HS0.out HB.out.size)
                  refine wp_region_held_drew (S := fun W => Below (w.heap.size + 1) W0 W) (by kernel_rfl) (below_drewN' HB.out 1) (fun hS => ?_)
                  refine wpAnyH_take (i := 0) (v := .pointer (some ⟨w.heap.size, 1, none⟩)) rfl (by kernel_rfl) (by kernel_rfl) (by kernel_rfl) (fun _ _ _ h => h) (Or.inl ⟨by simp [Region.wanted], fun W _ => by go_simp⟩) hS ?_
                  simp only [List.getElem_toArray, List.getElem_cons_zero, Act.put, List.setIfInBounds_toArray, List.set_cons_zero, List.set_cons_succ]
                  refine wpAnyH_take (i := 1) (v := .slice (some ⟨b0, off, none⟩) Lss.length css) rfl (by kernel_rfl) (by kernel_rfl) (by kernel_rfl) (fun _ _ _ h => h) (Or.inl ⟨by simp [Region.wanted], fun W hW => by have c := (HC.out W hW).2.1; go_simp⟩) hS ?_
                  simp only [List.getElem_toArray, List.getElem_cons_zero, List.getElem_cons_succ, Act.put, List.setIfInBounds_toArray, List.set_cons_zero, List.set_cons_succ]
                  refine wpAnyH_take (i := 2) (v := .int .i64 ((j + 1 : Nat) : Int)) rfl (by kernel_rfl) (by kernel_rfl) (by kernel_rfl) (fun _ _ _ h => h) (Or.inl ⟨by simp [Region.wanted], fun W _ => by go_simp⟩) hS ?_
                  simp only [List.getElem_toArray, List.getElem_cons_zero, List.getElem_cons_succ, Act.put, List.setIfInBounds_toArray, List.set_cons_zero, List.set_cons_succ]
                  refine wpAnyH_take (i := 3) (v := .int .i64 (j : Int)) rfl (by kernel_rfl) (by kernel_rfl) (by kernel_rfl) (fun _ _ _ h => h) (Or.inl ⟨by simp [Region.wanted], fun W _ => by go_simp; rw [IntKind.wrap_i64]; omega⟩) hS ?_
                  simp only [List.getElem_toArray, List.getElem_cons_zero, List.getElem_cons_succ, Act.put, List.setIfInBounds_toArray, List.set_cons_zero, List.set_cons_succ]
                  refine wpAnyH_take (i := 4) (v := .pointer (some ⟨b0, off + j * 3, none⟩)) rfl (by kernel_rfl) (by kernel_rfl) (by kernel_rfl) (fun _ _ _ h => h) (Or.inl ⟨by simp [Region.wanted], fun W _ => by go_simp⟩) hS ?_
                  simp only [List.getElem_toArray, List.getElem_cons_zero, List.getElem_cons_succ, Act.put, List.setIfInBounds_toArray, List.set_cons_zero, List.set_cons_succ]
                  refine wpAnyH_take (i := 5) (v := .agg #[.int .i64 p, .int .i64 q, .int .i64 r]) rfl (by kernel_rfl) (by kernel_rfl) (by kernel_rfl) (fun _ _ _ h => h) (Or.inl ⟨by simp [Region.wanted], fun W hW => by have c := HCS.out W (HLO.out W hW); have c0 := c.1 0 p rfl; have c1 := c.1 1 q rfl; have c2 := c.1 2 r rfl; rw [Nat.add_zero] at c0; clear c; go_simp⟩) hS ?_
                  simp only [List.getElem_toArray, List.getElem_cons_zero, List.getElem_cons_succ, Act.put, List.setIfInBounds_toArray, List.set_cons_zero, List.set_cons_succ]
                  refine wpAnyH_take (i := 6) (v := .pointer (some ⟨w.heap.size, 1, none⟩)) rfl (by kernel_rfl) (by kernel_rfl) (by kernel_rfl) (fun _ _ _ h => h) (Or.inl ⟨by simp [Region.wanted], fun W _ => by go_simp⟩) hS ?_
                  simp only [List.getElem_toArray, List.getElem_cons_zero, List.getElem_cons_succ, Act.put, List.setIfInBounds_toArray, List.set_cons_zero, List.set_cons_succ]
                  refine wpAnyH_take (i := 7) (v := .slice (some ⟨b0, off, none⟩) Lss.length css) rfl (by kernel_rfl) (by kernel_rfl) (by kernel_rfl) (fun _ _ _ h => h) (Or.inl ⟨by simp [Region.wanted], fun W hW => by have c := (HC.out W hW).2.1; go_simp⟩) hS ?_
                  simp only [List.getElem_toArray, List.getElem_cons_zero, List.getElem_cons_succ, Act.put, List.setIfInBounds_toArray, List.set_cons_zero, List.set_cons_succ]
                  refine wpAnyH_take (i := 8) (v := .int .i64 ((j + 1 : Nat) : Int)) rfl (by kernel_rfl) (by kernel_rfl) (by kernel_rfl) (fun _ _ _ h => h) (Or.inl ⟨by simp [Region.wanted], fun W _ => by go_simp⟩) hS ?_
                  simp only [List.getElem_toArray, List.getElem_cons_zero, List.getElem_cons_succ, Act.put, List.setIfInBounds_toArray, List.set_cons_zero, List.set_cons_succ]
                  refine wpAnyH_take (i := 9) (v := .pointer (some ⟨b0, off + (j + 1) * 3, none⟩)) rfl (by kernel_rfl) (by kernel_rfl) (by kernel_rfl) (fun _ _ _ h => h) (Or.inl ⟨by simp [Region.wanted], fun W _ => by go_simp; intro h; omega⟩) hS ?_
                  simp only [List.getElem_toArray, List.getElem_cons_zero, List.getElem_cons_succ, Act.put, List.setIfInBounds_toArray, List.set_cons_zero, List.set_cons_succ]
                  refine wpAnyH_take (i := 10) (v := .agg #[.int .i64 p', .int .i64 q', .int .i64 r']) rfl (by kernel_rfl) (by kernel_rfl) (by kernel_rfl) (fun _ _ _ h => h) (Or.inl ⟨by simp [Region.wanted], fun W hW => by have c := HCS.out W (HLO.out W hW); have c0 := c.2 0 p' rfl; have c1 := c.2 1 q' rfl; have c2 := c.2 2 r' rfl; rw [Nat.add_zero] at c0; clear c; go_simp⟩) hS ?_
                  simp only [List.getElem_toArray, List.getElem_cons_zero, List.getElem_cons_succ, Act.put, List.setIfInBounds_toArray, List.set_cons_zero, List.set_cons_succ]
                  refine wpAnyH_ready (rs := [11, 12]) (by kernel_rfl) (by simp) ?_
                  refine AllReadyH.cons rfl (fun K1 hK1 => ?_) (AllReadyH.cons rfl (fun K1 hK1 => ?_) AllReadyH.nil)
                  · have hz7 : w.heap.size + 1 ≤ wr.heap.size := HSZ.out
                    have HA1 := Lib.hid (show Below (w.heap.size + 1) W0 (wr.drew.alloc (.cells #[.int .i64 0, .int .i64 0, .int .i64 0] 43)) from (below_drewN' HB.out 1).alloc HSZ.out _)
                    have HA2 := Lib.hid (show Below (w.heap.size + 1) W0 ((wr.alloc (.cells #[.int .i64 0, .int .i64 0, .int .i64 0] 43)).alloc (.cells #[.int .i64 0, .int .i64 0, .int .i64 0] 43)).drew from HA1.out.alloc (by simp; omega) (.cells #[.int .i64 0, .int .i64 0, .int .i64 0] 43))
                    have H7 := Lib.hid (show ((wr.alloc (.cells #[.int .i64 0, .int .i64 0, .int .i64 0] 43)).alloc (.cells #[.int .i64 0, .int .i64 0, .int .i64 0] 43)).drew.heap[wr.heap.size]? = some (.cells #[.int .i64 0, .int .i64 0, .int .i64 0] 43) from (two_new (W := wr)).1)
                    have HA3 := Lib.hid (show Below (w.heap.size + 1) W0 (((wr.alloc (.cells #[.int .i64 0, .int .i64 0, .int .i64 0] 43)).alloc (.cells #[.int .i64 0, .int .i64 0, .int .i64 0] 43)).drew.setRow wr.heap.size #[.int .i64 p, .int .i64 q, .int .i64 r]) from below_rowB HA2.out (by omega))
                    have H8 := Lib.hid (show (((wr.alloc (.cells #[.int .i64 0, .int .i64 0, .int .i64 0] 43)).alloc (.cells #[.int .i64 0, .int .i64 0, .int .i64 0] 43)).drew.setRow wr.heap.size #[.int .i64 p, .int .i64 q, .int .i64 r]).heap[(wr.heap.size + 1)]? = some (.cells #[.int .i64 0, .int .i64 0, .int .i64 0] 43) from (setRow_ne _ (by omega)).trans (two_new (W := wr)).2)
                    have HA4 := Lib.hid (show Below (w.heap.size + 1) W0 ((((wr.alloc (.cells #[.int .i64 0, .int .i64 0, .int .i64 0] 43)).alloc (.cells #[.int .i64 0, .int .i64 0, .int .i64 0] 43)).drew.setRow wr.heap.size #[.int .i64 p, .int .i64 q, .int .i64 r]).setRow (wr.heap.size + 1) #[.int .i64 p', .int .i64 q', .int .i64 r']) from below_rowB HA3.out (by omega))
                    have e8 : ((((wr.alloc (.cells #[.int .i64 0, .int .i64 0, .int .i64 0] 43)).alloc (.cells #[.int .i64 0, .int .i64 0, .int .i64 0] 43)).drew.setRow wr.heap.size #[.int .i64 p, .int .i64 q, .int .i64 r]).setRow (wr.heap.size + 1) #[.int .i64 p', .int .i64 q', .int .i64 r']).heap[(wr.heap.size + 1)]? = some (.cells #[.int .i64 p', .int .i64 q', .int .i64 r'] 43 (0, 0)) := setRow_heap _ _ _ _ _ _ H8.out
                    have e7 : ((((wr.alloc (.cells #[.int .i64 0, .int .i64 0, .int .i64 0] 43)).alloc (.cells #[.int .i64 0, .int .i64 0, .int .i64 0] 43)).drew.setRow wr.heap.size #[.int .i64 p, .int .i64 q, .int .i64 r]).setRow (wr.heap.size + 1) #[.int .i64 p', .int .i64 q', .int .i64 r']).heap[wr.heap.size]? = some (.cells #[.int .i64 p, .int .i64 q, .int .i64 r] 43 (0, 0)) := (setRow_ne _ (by omega)).trans (setRow_heap _ _ _ _ _ _ H7.out)
                    refine wanted_go rfl ?_
                    simp only [List.getElem_toArray, List.getElem_cons_zero, List.getElem_cons_succ]
                    go_wp2
                    refine hK1.out _ _ (HA1.out) (fun _ => ?_)
                    refine wpAnyH_ready (rs := [12]) (by kernel_rfl) (by simp) ?_
                    refine AllReadyH.cons rfl (fun K hK2 => ?_) AllReadyH.nil
                    refine wanted_go rfl ?_
                    simp only [List.getElem_toArray, List.getElem_cons_zero, List.getElem_cons_succ]
                    go_wp2
                    refine hK2.out _ _ (HA2.out) (fun _ => ?_)
                    refine wpAnyH_ready (rs := [13]) (by kernel_rfl) (by simp) ?_
                    refine AllReadyH.cons rfl (fun K hK3 => ?_) AllReadyH.nil
                    refine wanted_go rfl ?_
                    simp only [List.getElem_toArray, List.getElem_cons_zero, List.getElem_cons_succ]
                    refine wp_store_row 43 (.tmp 7) (.tmp 84) rfl wr.heap.size #[.int .i64 p, .int .i64 q, .int .i64 r] rfl rfl 43 #[.int .i64 0, .int .i64 0, .int .i64 0] (H7.out) info45 rfl (by simp [Value.oneCell']) ?_
                    refine hK3.out _ _ (HA3.out) (fun _ => ?_)
                    refine wpAnyH_ready (rs := [14]) (by kernel_rfl) (by simp) ?_
                    refine AllReadyH.cons rfl (fun K hK4 => ?_) AllReadyH.nil
                    refine wanted_go rfl ?_
                    simp only [List.getElem_toArray, List.getElem_cons_zero, List.getElem_cons_succ]
                    refine wp_store_row 43 (.tmp 8) (.tmp 89) rfl (wr.heap.size + 1) #[.int .i64 p', .int .i64 q', .int .i64 r'] rfl rfl 43 #[.int .i64 0, .int .i64 0, .int .i64 0] (H8.out) info45 rfl (by simp [Value.oneCell']) ?_
                    refine hK4.out _ _ (HA4.out) (fun _ => ?_)
                    refine wpAnyH_done (by kernel_rfl) ?_ _
                    have HE8 := Lib.hid e8
                    have HE7 := Lib.hid e7
                    clear e7 e8 H7 H8 HA1 HA2 HA3
                    generalize ((((wr.alloc (.cells #[.int .i64 0, .int .i64 0, .int .i64 0] 43)).alloc (.cells #[.int .i64 0, .int .i64 0, .int .i64 0] 43)).drew.setRow wr.heap.size #[.int .i64 p, .int .i64 q, .int .i64 r]).setRow (wr.heap.size + 1) #[.int .i64 p', .int .i64 q', .int .i64 r']) = W4 at *
                    have d70 : W4.cell? ⟨wr.heap.size, 0, none⟩ = some (.int .i64 p) := by rw [cell_of_row _ _ _ _ 43 (0, 0) HE7.out]; rfl
                    have d71 : W4.cell? ⟨wr.heap.size, 1, none⟩ = some (.int .i64 q) := by rw [cell_of_row _ _ _ _ 43 (0, 0) HE7.out]; rfl
                    have d80 : W4.cell? ⟨(wr.heap.size + 1), 0, none⟩ = some (.int .i64 p') := by rw [cell_of_row _ _ _ _ 43 (0, 0) HE8.out]; rfl
                    have d81 : W4.cell? ⟨(wr.heap.size + 1), 1, none⟩ = some (.int .i64 q') := by rw [cell_of_row _ _ _ _ 43 (0, 0) HE8.out]; rfl
                    clear HE7 HE8
                    rcases Int.lt_trichotomy p p' with h | h | h
                    · have g0 : ¬ p' < p := by omega
                      have g1 : (p == p') = false := by rw [beq_eq_false_iff_ne]; omega
                      have HNX2 := Lib.hid (show riseL lt2 (Lss.take (j + 1 + 1)) = true from HNX.out.trans (by simp [lt2, key, h]))
                      clear HNX
                      clear h
                      go_wp2
                      go_roundw
                      case rel => exact ⟨j + 1, by omega, by omega, HNX2.out⟩
                      case measure => simp [intOf]; omega
                    · subst h
                      have g0 : ¬ p < p := by omega
                      have g1 : (p == p) = true := by simp
                      by_cases h2 : q' ≤ q
                      · skip
                        have HNO := Lib.hid (show riseL lt2 Lss = false from rise_no (i := j + 2) (by rw [HNX.out]; simp [lt2, key]; omega))
                        clear HNX
                        go_wp2
                        go_ret
                        exact ⟨ret_bool (by rw [HNO.out]; simp), HLO.out _ HA4.out⟩
                      · have h3 : q < q' := by omega
                        have HNX2 := Lib.hid (show riseL lt2 (Lss.take (j + 1 + 1)) = true from HNX.out.trans (by simp [lt2, key]; omega))
                        clear HNX
                        go_wp2
                        go_roundw
                        case rel => exact ⟨j + 1, by omega, by omega, HNX2.out⟩
                        case measure => simp [intOf]; omega
                    · skip
                      have HNO := Lib.hid (show riseL lt2 Lss = false from rise_no (i := j + 2) (by rw [HNX.out]; simp [lt2, key]; omega))
                      clear HNX
                      go_wp2
                      go_ret
                      exact ⟨ret_bool (by rw [HNO.out]; simp), HLO.out _ HA4.out⟩
                  · have hz7 : w.heap.size + 1 ≤ wr.heap.size := HSZ.out
                    have HA1 := Lib.hid (show Below (w.heap.size + 1) W0 (wr.drew.alloc (.cells #[.int .i64 0, .int .i64 0, .int .i64 0] 43)) from (below_drewN' HB.out 1).alloc HSZ.out _)
                    have HA2 := Lib.hid (show Below (w.heap.size + 1) W0 ((wr.alloc (.cells #[.int .i64 0, .int .i64 0, .int .i64 0] 43)).alloc (.cells #[.int .i64 0, .int .i64 0, .int .i64 0] 43)).drew from HA1.out.alloc (by simp; omega) (.cells #[.int .i64 0, .int .i64 0, .int .i64 0] 43))
                    have H7 := Lib.hid (show ((wr.alloc (.cells #[.int .i64 0, .int .i64 0, .int .i64 0] 43)).alloc (.cells #[.int .i64 0, .int .i64 0, .int .i64 0] 43)).drew.heap[(wr.heap.size + 1)]? = some (.cells #[.int .i64 0, .int .i64 0, .int .i64 0] 43) from (two_new (W := wr)).2)
                    have HA3 := Lib.hid (show Below (w.heap.size + 1) W0 (((wr.alloc (.cells #[.int .i64 0, .int .i64 0, .int .i64 0] 43)).alloc (.cells #[.int .i64 0, .int .i64 0, .int .i64 0] 43)).drew.setRow (wr.heap.size + 1) #[.int .i64 p, .int .i64 q, .int .i64 r]) from below_rowB HA2.out (by omega))
                    have H8 := Lib.hid (show (((wr.alloc (.cells #[.int .i64 0, .int .i64 0, .int .i64 0] 43)).alloc (.cells #[.int .i64 0, .int .i64 0, .int .i64 0] 43)).drew.setRow (wr.heap.size + 1) #[.int .i64 p, .int .i64 q, .int .i64 r]).heap[wr.heap.size]? = some (.cells #[.int .i64 0, .int .i64 0, .int .i64 0] 43) from (setRow_ne _ (by omega)).trans (two_new (W := wr)).1)
                    have HA4 := Lib.hid (show Below (w.heap.size + 1) W0 ((((wr.alloc (.cells #[.int .i64 0, .int .i64 0, .int .i64 0] 43)).alloc (.cells #[.int .i64 0, .int .i64 0, .int .i64 0] 43)).drew.setRow (wr.heap.size + 1) #[.int .i64 p, .int .i64 q, .int .i64 r]).setRow wr.heap.size #[.int .i64 p', .int .i64 q', .int .i64 r']) from below_rowB HA3.out (by omega))
                    have e8 : ((((wr.alloc (.cells #[.int .i64 0, .int .i64 0, .int .i64 0] 43)).alloc (.cells #[.int .i64 0, .int .i64 0, .int .i64 0] 43)).drew.setRow (wr.heap.size + 1) #[.int .i64 p, .int .i64 q, .int .i64 r]).setRow wr.heap.size #[.int .i64 p', .int .i64 q', .int .i64 r']).heap[wr.heap.size]? = some (.cells #[.int .i64 p', .int .i64 q', .int .i64 r'] 43 (0, 0)) := setRow_heap _ _ _ _ _ _ H8.out
                    have e7 : ((((wr.alloc (.cells #[.int .i64 0, .int .i64 0, .int .i64 0] 43)).alloc (.cells #[.int .i64 0, .int .i64 0, .int .i64 0] 43)).drew.setRow (wr.heap.size + 1) #[.int .i64 p, .int .i64 q, .int .i64 r]).setRow wr.heap.size #[.int .i64 p', .int .i64 q', .int .i64 r']).heap[(wr.heap.size + 1)]? = some (.cells #[.int .i64 p, .int .i64 q, .int .i64 r] 43 (0, 0)) := (setRow_ne _ (by omega)).trans (setRow_heap _ _ _ _ _ _ H7.out)
                    refine wanted_go rfl ?_
                    simp only [List.getElem_toArray, List.getElem_cons_zero, List.getElem_cons_succ]
                    go_wp2
                    refine hK1.out _ _ (HA1.out) (fun _ => ?_)
                    refine wpAnyH_ready (rs := [11]) (by kernel_rfl) (by simp) ?_
                    refine AllReadyH.cons rfl (fun K hK2 => ?_) AllReadyH.nil
                    refine wanted_go rfl ?_
                    simp only [List.getElem_toArray, List.getElem_cons_zero, List.getElem_cons_succ]
                    go_wp2
                    refine hK2.out _ _ (HA2.out) (fun _ => ?_)
                    refine wpAnyH_ready (rs := [13]) (by kernel_rfl) (by simp) ?_
                    refine AllReadyH.cons rfl (fun K hK3 => ?_) AllReadyH.nil
                    refine wanted_go rfl ?_
                    simp only [List.getElem_toArray, List.getElem_cons_zero, List.getElem_cons_succ]
                    refine wp_store_row 43 (.tmp 7) (.tmp 84) rfl (wr.heap.size + 1) #[.int .i64 p, .int .i64 q, .int .i64 r] rfl rfl 43 #[.int .i64 0, .int .i64 0, .int .i64 0] (H7.out) info45 rfl (by simp [Value.oneCell']) ?_
                    refine hK3.out _ _ (HA3.out) (fun _ => ?_)
                    refine wpAnyH_ready (rs := [14]) (by kernel_rfl) (by simp) ?_
                    refine AllReadyH.cons rfl (fun K hK4 => ?_) AllReadyH.nil
                    refine wanted_go rfl ?_
                    simp only [List.getElem_toArray, List.getElem_cons_zero, List.getElem_cons_succ]
                    refine wp_store_row 43 (.tmp 8) (.tmp 89) rfl wr.heap.size #[.int .i64 p', .int .i64 q', .int .i64 r'] rfl rfl 43 #[.int .i64 0, .int .i64 0, .int .i64 0] (H8.out) info45 rfl (by simp [Value.oneCell']) ?_
                    refine hK4.out _ _ (HA4.out) (fun _ => ?_)
                    refine wpAnyH_done (by kernel_rfl) ?_ _
                    have HE8 := Lib.hid e8
                    have HE7 := Lib.hid e7
                    clear e7 e8 H7 H8 HA1 HA2 HA3
                    generalize ((((wr.alloc (.cells #[.int .i64 0, .int .i64 0, .int .i64 0] 43)).alloc (.cells #[.int .i64 0, .int .i64 0, .int .i64 0] 43)).drew.setRow (wr.heap.size + 1) #[.int .i64 p, .int .i64 q, .int .i64 r]).setRow wr.heap.size #[.int .i64 p', .int .i64 q', .int .i64 r']) = W4 at *
                    have d70 : W4.cell? ⟨(wr.heap.size + 1), 0, none⟩ = some (.int .i64 p) := by rw [cell_of_row _ _ _ _ 43 (0, 0) HE7.out]; rfl
                    have d71 : W4.cell? ⟨(wr.heap.size + 1), 1, none⟩ = some (.int .i64 q) := by rw [cell_of_row _ _ _ _ 43 (0, 0) HE7.out]; rfl
                    have d80 : W4.cell? ⟨wr.heap.size, 0, none⟩ = some (.int .i64 p') := by rw [cell_of_row _ _ _ _ 43 (0, 0) HE8.out]; rfl
                    have d81 : W4.cell? ⟨wr.heap.size, 1, none⟩ = some (.int .i64 q') := by rw [cell_of_row _ _ _ _ 43 (0, 0) HE8.out]; rfl
                    clear HE7 HE8
                    rcases Int.lt_trichotomy p p' with h | h | h
                    · have g0 : ¬ p' < p := by omega
                      have g1 : (p == p') = false := by rw [beq_eq_false_iff_ne]; omega
                      have HNX2 := Lib.hid (show riseL lt2 (Lss.take (j + 1 + 1)) = true from HNX.out.trans (by simp [lt2, key, h]))
                      clear HNX
                      clear h
                      go_wp2
                      go_roundw
                      case rel => exact ⟨j + 1, by omega, by omega, HNX2.out⟩
                      case measure => simp [intOf]; omega
                    · subst h
                      have g0 : ¬ p < p := by omega
                      have g1 : (p == p) = true := by simp
                      by_cases h2 : q' ≤ q
                      · skip
                        have HNO := Lib.hid (show riseL lt2 Lss = false from rise_no (i := j + 2) (by rw [HNX.out]; simp [lt2, key]; omega))
                        clear HNX
                        go_wp2
                        go_ret
                        exact ⟨ret_bool (by rw [HNO.out]; simp), HLO.out _ HA4.out⟩
                      · have h3 : q < q' := by omega
                        have HNX2 := Lib.hid (show riseL lt2 (Lss.take (j + 1 + 1)) = true from HNX.out.trans (by simp [lt2, key]; omega))
                        clear HNX
                        go_wp2
                        go_roundw
                        case rel => exact ⟨j + 1, by omega, by omega, HNX2.out⟩
                        case measure => simp [intOf]; omega
                    · skip
                      have HNO := Lib.hid (show riseL lt2 Lss = false from rise_no (i := j + 2) (by rw [HNX.out]; simp [lt2, key]; omega))
                      clear HNX
                      go_wp2
                      go_ret
                      exact ⟨ret_bool (by rw [HNO.out]; simp), HLO.out _ HA4.out⟩
                · have HD3 := Lib.hid (rise_all HRI.out (by omega))
                  have HB4 := Lib.hid HB.out
                  clear HRI HB
                  go_wp2
                  clear hlt hj
                  go_ret
                  exact ⟨ret_bool (by rw [HD0.out, HD1.out, HD2.out, HD3.out]; rfl), HLO.out _ HB4.out⟩
end Go.Proofs.Ytmndkbfjmamnfaa

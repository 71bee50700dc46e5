/- The document's May: the contract. -/
import Derived.Test.YtfodnadmabnacaaDoorRuRef3
namespace Go.Proofs.YtfodnadmabnacaaDoor
open Go.RowKit Base Base2

/-- Steps in a row. -/
def StepsAt (W : World) (a : Option Addr) (l : List StepT) : Prop := l = [] ∨ ∃ b off, a = some ⟨b, off, none⟩ ∧ b < W.heap.size ∧ ∀ (i : Nat) (s : StepT), l[i]? = some s → ∀ (j : Nat) (u : Value), s.cells[j]? = some u → W.cell? ⟨b, off + i * 4 + j, none⟩ = some u
theorem StepsAt.below {W W' : World} {a : Option Addr} {l : List StepT} (h : StepsAt W a l) (hb : Below W.heap.size W W') : StepsAt W' a l := by
  rcases h with h | ⟨b, off, rfl, h1, h2⟩
  · exact .inl h
  · exact .inr ⟨b, off, rfl, Nat.lt_of_lt_of_le h1 hb.size, fun i x hi j z hz => (hb.cell (p := ⟨b, off + i * 4 + j, none⟩) h1).trans (h2 i x hi j z hz)⟩
theorem StepsAt.at {W : World} {a : Option Addr} {l : List StepT} {i : Nat} {s : StepT} (h : StepsAt W a l) (hi : l[i]? = some s) : ∃ b off, a = some ⟨b, off, none⟩ ∧ ∀ (k : Nat) (t : StepT), l[k]? = some t → ∀ (W' : World), Below W.heap.size W W' → W'.cell? ⟨b, off + k * 4, none⟩ = some (.int .i64 t.r) ∧ W'.cell? ⟨b, off + k * 4 + 1, none⟩ = some (.int .i64 t.x) ∧ W'.cell? ⟨b, off + k * 4 + 2, none⟩ = some (.int .i64 t.y) ∧ W'.cell? ⟨b, off + k * 4 + 3, none⟩ = some (.bool t.o) := by
  rcases h with rfl | ⟨b, off, rfl, h1, h2⟩
  · simp at hi
  · exact ⟨b, off, rfl, fun k t hk W' hb => ⟨(hb.cell (p := ⟨b, off + k * 4, none⟩) h1).trans (h2 k t hk 0 _ rfl), (hb.cell (p := ⟨b, off + k * 4 + 1, none⟩) h1).trans (h2 k t hk 1 _ rfl), (hb.cell (p := ⟨b, off + k * 4 + 2, none⟩) h1).trans (h2 k t hk 2 _ rfl), (hb.cell (p := ⟨b, off + k * 4 + 3, none⟩) h1).trans (h2 k t hk 3 _ rfl)⟩⟩
def okAt (l : List StepT) (i : Nat) : Bool := match l[i]? with | some s => oneS s && (decide (l.length ≤ i + 1) || holdS s) && newS (l.take i) s.r | none => true
theorem may_ok (l : List StepT) : maySteps l = (List.range l.length).all (okAt l) := rfl
theorem okAt_some {l : List StepT} {i : Nat} {s : StepT} (h : l[i]? = some s) : okAt l i = (oneS s && (decide (l.length ≤ i + 1) || holdS s) && newS (l.take i) s.r) := by unfold okAt; rw [h]
theorem may_no {l : List StepT} {i : Nat} (hi : i < l.length) (h : okAt l i = false) : maySteps l = false := by
  cases hm : maySteps l with
  | false => rfl
  | true =>
    rw [may_ok] at hm
    have := List.all_eq_true.1 hm i (List.mem_range.2 hi)
    rw [h] at this
    cases this
theorem all_next {l : List StepT} {i : Nat} (h : (List.range i).all (okAt l) = true) (h2 : okAt l i = true) : (List.range (i + 1)).all (okAt l) = true := by
  rw [List.range_succ, List.all_append, h]; simp [h2]
theorem new_next {l : List StepT} {k : Nat} {t : StepT} {r : Int} (h : l[k]? = some t) : newS (l.take (k + 1)) r = (newS (l.take k) r && (t.r != r)) := by
  have e : l.take (k + 1) = l.take k ++ [t] := by
    rw [List.take_add_one, h]; rfl
  unfold newS
  rw [e, List.all_append]; simp
theorem new_no {l : List StepT} {i k : Nat} {t : StepT} {r : Int} (hk : k < i) (h : l[k]? = some t) (he : t.r = r) : newS (l.take i) r = false := by
  cases hn : newS (l.take i) r with
  | false => rfl
  | true =>
    have hm : t ∈ l.take i := by
      have : (l.take i)[k]? = some t := by rw [List.getElem?_take_of_lt hk]; exact h
      exact List.mem_of_getElem? this
    have := List.all_eq_true.1 hn t hm
    rw [he] at this
    simp at this
theorem one_r1 {s : StepT} (h : s.r < 1) : oneS s = false := by unfold oneS; rw [decide_eq_false (by omega)]; rfl
theorem one_r2 {s : StepT} (h : 23 < s.r) : oneS s = false := by unfold oneS; rw [decide_eq_false (show ¬ s.r ≤ 23 by omega), Bool.and_false]; rfl
theorem one_r3 {s : StepT} (h : 1 ≤ s.r) (h2 : s.r ≤ 23) : oneS s = !(s.o && (s.x != 0 || s.y != 0)) := by unfold oneS; rw [decide_eq_true h, decide_eq_true h2]; rfl
set_option maxRecDepth 100000 in
set_option maxHeartbeats 8000000 in
theorem rmay17 (a : Option Addr) (c : Nat) (l : List StepT) (w : World) (hr : StepsAt w a l) (hl : l.length ≤ 10000) :
    Calls Tryd.prog 17 #[.slice a l.length c] w fun e w' => e = .returned (.bool (maySteps l)) ∧ Below w.heap.size w w' := by
  obtain ⟨n, hn⟩ : ∃ n, l.length = n := ⟨_, rfl⟩
  have HN := Lib.hid hn
  have HR := Lib.hid hr
  have HHO := Lib.hid (fun (s : StepT) W => rholds12 s W)
  rw [hn] at hl ⊢
  clear hr hn
  go_enter Tryd.func17, Tryd.ntmps17
  go_wp2
  go_loopw [3] (fun vi W => ∃ (i : Nat), vi = .int .i64 (i : Int) ∧ i ≤ n ∧ (List.range i).all (okAt l) = true ∧ Below w.heap.size w W) (fun vi _ => n - (intOf vi).toNat)
  case atStart => exact ⟨0, rfl, Nat.zero_le _, rfl, Below.refl _ _⟩
  case round =>
    obtain ⟨i, rfl, hi, hall, hlo⟩ := hrel
    have HLO := Lib.hid hlo
    have HAL := Lib.hid hall
    clear hlo hall
    by_cases hlt : i < n
    · obtain ⟨s, hx⟩ : ∃ s, l[i]? = some s := ⟨l[i]'(by rw [HN.out]; exact hlt), by simp [HN.out, hlt]⟩
      obtain ⟨b0, off, rfl, hcs⟩ := HR.out.at hx
      have HCS := Lib.hid hcs
      obtain ⟨k0, k1, k2, k3⟩ := hcs i s hx wr HLO.out
      have HX := Lib.hid hx
      have HOK := Lib.hid (okAt_some hx)
      have HNO := Lib.hid (fun h => may_no (l := l) (i := i) (by rw [HN.out]; exact hlt) h)
      rw [HN.out] at HOK
      clear hcs hx
      obtain ⟨r, x, y, ov⟩ := s
      dsimp only at k0 k1 k2 k3 HOK
      go_upto_region 5 with (fail)
      obtain ⟨w4, hw4⟩ : ∃ z, wr.alloc (.cells #[.int .i64 r, .int .i64 x, .int .i64 y, .bool ov] 23) = z := ⟨_, rfl⟩
      have hb4 : Below wr.heap.size wr w4 := by rw [← hw4]; exact (Below.refl _ _).alloc (Nat.le_refl _) _
      have hz4 : w4.heap[wr.heap.size]? = some (.cells #[.int .i64 r, .int .i64 x, .int .i64 y, .bool ov] 23 (0, 0)) := by rw [← hw4]; exact heap_alloc_new wr _
      have HB4 := Lib.hid hb4
      have HZ4 := Lib.hid hz4
      obtain ⟨q0, q1, q2, q3⟩ := cells4S hz4
      rw [hw4]
      clear hw4 hb4 hz4 k0 k1 k2 k3
      by_cases h1 : r < 1
      · have HM := Lib.hid (HNO.out (by rw [HOK.out, one_r1 (s := ⟨r, x, y, ov⟩) h1]; rfl))
        go_wp2
        go_ret
        exact ⟨by rw [HM.out]; rfl, HLO.out.trans (HB4.out.mono HLO.out.size)⟩
      by_cases h2 : 23 < r
      · have HM := Lib.hid (HNO.out (by rw [HOK.out, one_r2 (s := ⟨r, x, y, ov⟩) h2]; rfl))
        go_wp2
        go_ret
        exact ⟨by rw [HM.out]; rfl, HLO.out.trans (HB4.out.mono HLO.out.size)⟩
      rw [one_r3 (s := ⟨r, x, y, ov⟩) (by show 1 ≤ r; omega) (by show r ≤ 23; omega)] at HOK
      dsimp only at HOK
      obtain ⟨gx, hgx⟩ : ∃ z, (x != 0) = z := ⟨_, rfl⟩
      obtain ⟨gy, hgy⟩ : ∃ z, (y != 0) = z := ⟨_, rfl⟩
      rw [hgx, hgy] at HOK
      go_cut [37] from 16 to 36 (fun s37 wx => s37 = .bool (ov && (gx || gy)) ∧ wx = w4)
      case first =>
        cases ov with
        | false =>
          go_wp2
          go_meet
          exact ⟨rfl, rfl⟩
        | true =>
          cases gx with
          | true =>
            go_wp2
            go_meet
            exact ⟨rfl, rfl⟩
          | false =>
            cases gy with
            | true =>
              go_wp2
              go_meet
              exact ⟨rfl, rfl⟩
            | false =>
              go_wp2
              go_meet
              exact ⟨rfl, rfl⟩
      case rest =>
        obtain ⟨rfl, rfl⟩ := hcut
        clear hgx hgy
        generalize (ov && (gx || gy)) = bad at *
        cases bad with
        | true =>
          have HM := Lib.hid (HNO.out (by rw [HOK.out]; rfl))
          go_wp2
          go_ret
          exact ⟨by rw [HM.out]; rfl, HLO.out.trans (HB4.out.mono HLO.out.size)⟩
        | false =>
          rw [show (!false) = true from rfl, Bool.true_and] at HOK
          have HHS := Lib.hid (HHO.out ⟨r, x, y, ov⟩ wc)
          dsimp only at HHS
          obtain ⟨hs, hhs⟩ : ∃ z, holdS ⟨r, x, y, ov⟩ = z := ⟨_, rfl⟩
          rw [hhs] at HHS HOK
          clear hhs
          go_upto_region 7 with (fail)
          go_cut [47] from 38 to 46 (fun s47 wx => s47 = .bool (decide (i + 1 < n) && !hs) ∧ Below wc.heap.size wc wx)
          case first =>
            by_cases h3 : i + 1 < n
            · have g3 : (i : Int) + 1 < (n : Int) := by omega
              go_wp2_with (go_at_call 12; refine HHS.out.mono ?_; rintro e w5 ⟨rfl, hb5⟩; have HB5 := Lib.hid hb5; clear hb5)
              go_meet
              exact ⟨by rw [decide_eq_true h3]; rfl, HB5.out⟩
            · have g3 : ¬ (i : Int) + 1 < (n : Int) := by omega
              go_wp2
              go_meet
              exact ⟨by rw [decide_eq_false h3]; rfl, Below.refl _ _⟩
          case rest =>
            obtain ⟨rfl, hb5⟩ := hcut
            have HB5 := Lib.hid hb5
            clear hb5
            have e3 : (decide (n ≤ i + 1) || hs) = !(decide (i + 1 < n) && !hs) := by
              by_cases h3 : i + 1 < n
              · rw [decide_eq_true h3, decide_eq_false (by omega)]; cases hs <;> rfl
              · rw [decide_eq_false h3, decide_eq_true (by omega)]; rfl
            rw [e3] at HOK
            clear e3
            generalize (decide (i + 1 < n) && !hs) = bad2 at *
            cases bad2 with
            | true =>
              have HM := Lib.hid (HNO.out (by rw [HOK.out]; rfl))
              go_wp2
              go_ret
              exact ⟨by rw [HM.out]; rfl, HLO.out.trans ((HB4.out.trans (HB5.out.mono HB4.out.size)).mono HLO.out.size)⟩
            | false =>
              rw [show (!false) = true from rfl, Bool.true_and] at HOK
              have HLW := Lib.hid (HLO.out.trans ((HB4.out.trans (HB5.out.mono HB4.out.size)).mono HLO.out.size))
              have HZ5 := Lib.hid ((HB5.out.block _ (blk_ltR HZ4.out)).trans HZ4.out)
              obtain ⟨W9, hW9⟩ : ∃ z, z = wr := ⟨_, rfl⟩
              subst hW9
              obtain ⟨wd, hwd⟩ : ∃ z, z = wc := ⟨_, rfl⟩
              subst hwd
              clear HHS HB5 HB4 HZ4 q0 q1 q2 q3
              go_wp2
              go_loopw [5] (fun vi W => ∃ (k : Nat), vi = .int .i64 (k : Int) ∧ k ≤ i ∧ newS (l.take k) r = true ∧ Below wd.heap.size wd W) (fun vi _ => i - (intOf vi).toNat)
              case atStart => exact ⟨0, rfl, Nat.zero_le _, rfl, Below.refl _ _⟩
              case round =>
                obtain ⟨k, rfl, hk, hnew, hlo2⟩ := hrel
                have HL2 := Lib.hid hlo2
                have HNW := Lib.hid hnew
                clear hlo2 hnew
                by_cases hlt2 : k < i
                · obtain ⟨t, ht⟩ : ∃ t, l[k]? = some t := ⟨l[k]'(by rw [HN.out]; omega), by simp [HN.out, show k < n by omega]⟩
                  have HTK := Lib.hid ht
                  have HTC := Lib.hid (fun W (h : Below wr.heap.size wr W) => (HCS.out k t ht W (HLW.out.trans ((HL2.out.trans (h.mono HL2.out.size)).mono HLW.out.size))).1)
                  have HSC := Lib.hid (fun W (h : Below wr.heap.size wr W) => (cells4S (((HL2.out.trans (h.mono HL2.out.size)).block _ (blk_ltR HZ5.out)).trans HZ5.out)).1)
                  have gk : k < n := by omega
                  clear ht
                  go_upto_region 12 with (fail)
                  refine wp_region_held_drew (S := fun W => Below wr.heap.size wr W) (by kernel_rfl) ((Below.refl _ _).drew) (fun hS => ?_)
                  refine wpAnyH_take (i := 0) (v := .slice (some ⟨b0, off, none⟩) n c) rfl (by kernel_rfl) (by kernel_rfl) (by kernel_rfl) (fun _ _ _ h => h) (Or.inl ⟨by simp [Region.wanted], fun W _ => by go_simp⟩) hS ?_
                  simp only [List.getElem_toArray, List.getElem_cons_zero, Act.put, List.setIfInBounds_toArray, List.set_cons_zero, List.set_cons_succ]
                  refine wpAnyH_take (i := 1) (v := .int .i64 (k : Int)) rfl (by kernel_rfl) (by kernel_rfl) (by kernel_rfl) (fun _ _ _ h => h) (Or.inl ⟨by simp [Region.wanted], fun W _ => by go_simp⟩) hS ?_
                  simp only [List.getElem_toArray, List.getElem_cons_zero, List.getElem_cons_succ, Act.put, List.setIfInBounds_toArray, List.set_cons_zero, List.set_cons_succ]
                  refine wpAnyH_take (i := 2) (v := .pointer (some ⟨b0, off + k * 4, none⟩)) rfl (by kernel_rfl) (by kernel_rfl) (by kernel_rfl) (fun _ _ _ h => h) (Or.inl ⟨by simp [Region.wanted], fun W _ => by go_simp⟩) hS ?_
                  simp only [List.getElem_toArray, List.getElem_cons_zero, List.getElem_cons_succ, Act.put, List.setIfInBounds_toArray, List.set_cons_zero, List.set_cons_succ]
                  refine wpAnyH_take (i := 3) (v := .pointer (some ⟨b0, off + k * 4, none⟩)) rfl (by kernel_rfl) (by kernel_rfl) (by kernel_rfl) (fun _ _ _ h => h) (Or.inl ⟨by simp [Region.wanted], fun W _ => by go_simp⟩) hS ?_
                  simp only [List.getElem_toArray, List.getElem_cons_zero, List.getElem_cons_succ, Act.put, List.setIfInBounds_toArray, List.set_cons_zero, List.set_cons_succ]
                  refine wpAnyH_take (i := 4) (v := .int .i64 t.r) rfl (by kernel_rfl) (by kernel_rfl) (by kernel_rfl) (fun _ _ _ h => h) (Or.inl ⟨by simp [Region.wanted], fun W hW => by have h1 := HTC.out W hW; go_simp⟩) hS ?_
                  simp only [List.getElem_toArray, List.getElem_cons_zero, List.getElem_cons_succ, Act.put, List.setIfInBounds_toArray, List.set_cons_zero, List.set_cons_succ]
                  refine wpAnyH_take (i := 5) (v := .pointer (some ⟨W9.heap.size, 0, none⟩)) rfl (by kernel_rfl) (by kernel_rfl) (by kernel_rfl) (fun _ _ _ h => h) (Or.inl ⟨by simp [Region.wanted], fun W _ => by go_simp⟩) hS ?_
                  simp only [List.getElem_toArray, List.getElem_cons_zero, List.getElem_cons_succ, Act.put, List.setIfInBounds_toArray, List.set_cons_zero, List.set_cons_succ]
                  refine wpAnyH_take (i := 6) (v := .int .i64 r) rfl (by kernel_rfl) (by kernel_rfl) (by kernel_rfl) (fun _ _ _ h => h) (Or.inl ⟨by simp [Region.wanted], fun W hW => by have h1 := HSC.out W hW; go_simp⟩) hS ?_
                  simp only [List.getElem_toArray, List.getElem_cons_zero, List.getElem_cons_succ, Act.put, List.setIfInBounds_toArray, List.set_cons_zero, List.set_cons_succ]
                  refine wpAnyH_take (i := 7) (v := .bool (t.r == r)) rfl (by kernel_rfl) (by kernel_rfl) (by kernel_rfl) (fun _ _ _ h => h) (Or.inl ⟨by simp [Region.wanted], fun W _ => by go_simp⟩) hS ?_
                  simp only [List.getElem_toArray, List.getElem_cons_zero, List.getElem_cons_succ, Act.put, List.setIfInBounds_toArray, List.set_cons_zero, List.set_cons_succ]
                  refine wpAnyH_done (by kernel_rfl) ?_ _
                  by_cases he : t.r = r
                  · have HM := Lib.hid (HNO.out (by rw [HOK.out]; exact new_no hlt2 HTK.out he))
                    have g : (t.r == r) = true := by rw [beq_iff_eq]; exact he
                    clear he
                    go_wp2
                    go_ret
                    exact ⟨by rw [HM.out]; rfl, HLW.out.trans ((HL2.out.trans (((Below.refl _ wr).drew).mono HL2.out.size)).mono HLW.out.size)⟩
                  · have g : (t.r == r) = false := by rw [beq_eq_false_iff_ne]; exact he
                    have HNX := Lib.hid (show newS (l.take (k + 1)) r = true by rw [new_next HTK.out, HNW.out]; simp [he])
                    clear he
                    go_wp2
                    go_roundw
                    case rel => exact ⟨k + 1, by go_num, hlt2, HNX.out, HL2.out.trans (((Below.refl _ wr).drew).mono HL2.out.size)⟩
                    case measure => simp [intOf]; omega
                · have hki : k = i := by omega
                  subst hki
                  have HAN := Lib.hid (all_next HAL.out (by rw [HOK.out]; exact HNW.out))
                  go_wp2
                  go_roundw
                  case rel => exact ⟨k + 1, by go_num, hlt, HAN.out, HLW.out.trans (HL2.out.mono HLW.out.size)⟩
                  case measure => simp [intOf]; omega
    · have hin : i = n := by omega
      have HM := Lib.hid (show maySteps l = true by rw [may_ok, HN.out, ← hin]; exact HAL.out)
      go_wp2
      go_ret
      exact ⟨by rw [HM.out]; rfl, HLO.out⟩
end Go.Proofs.YtfodnadmabnacaaDoor

/- The document's Same: its contract. -/
import Derived.Test.YtellifcjamedkaaBkRef3
import Derived.Test.YtellifcjamedkaaBkEq
namespace Go.Proofs.Ytellifcjamedkaa
open Go.RowKit Base Base2

theorem take_eq_next {A B : List Item} {i : Nat} {x : Item} (h : A.take i = B.take i) (hx : A[i]? = some x) (hy : B[i]? = some x) : A.take (i + 1) = B.take (i + 1) := by rw [take_one hx, take_one hy, h]
theorem take_eq_no {A B : List Item} {i : Nat} {x y : Item} (hx : A[i]? = some x) (hy : B[i]? = some y) (h : x ≠ y) : (A == B) = false := by
  rw [beq_eq_false_iff_ne]; rintro rfl; rw [hx] at hy; exact h (Option.some.inj hy)
theorem take_eq_all {A B : List Item} {i : Nat} (h : A.take i = B.take i) (h1 : A.length ≤ i) (h2 : B.length ≤ i) : (A == B) = true := by
  rw [List.take_of_length_le h1, List.take_of_length_le h2] at h; rw [h]; simp
theorem len_ne {A B : List Item} (h : A.length ≠ B.length) : (A == B) = false := by rw [beq_eq_false_iff_ne]; rintro rfl; exact h rfl

set_option maxRecDepth 100000 in
set_option maxHeartbeats 8000000 in
theorem same12 (v u : Slots) (a b : BookT) (w : World) (ha : BookIn w v a) (hb : BookIn w u b) (ka : BookOk 2000 a) (kb : BookOk 2000 b) :
    Calls Try.prog 12 #[.agg (cellsB v a), .agg (cellsB u b)] w fun e w' => e = .returned (.bool (sameT a b)) ∧ Below w.heap.size w w' := by
  obtain ⟨W0, hW0⟩ : ∃ W, (w.alloc (.cells (cellsB v a) 27)).alloc (.cells (cellsB u b) 27) = W := ⟨_, rfl⟩
  have hlo : Below w.heap.size w W0 := by rw [← hW0]; exact ((Below.refl _ w).alloc (Nat.le_refl _) _).alloc (by simp) _
  have hx : BoxB W0 w.heap.size v a ∧ BoxB W0 (w.heap.size + 1) u b := by rw [← hW0]; exact two_new
  have HCA := Lib.hid (show ∀ W, Below (w.heap.size + 2) W0 W → _ from fun W h => (hx.1.below h (by omega)).cells)
  have HCB := Lib.hid (show ∀ W, Below (w.heap.size + 2) W0 W → _ from fun W h => (hx.2.below h (by omega)).cells)
  have HLO := Lib.hid (show ∀ W, Below (w.heap.size + 2) W0 W → Below w.heap.size w W from fun W h => hlo.trans (h.mono (by omega)))
  have HB0 := Lib.hid (show Below (w.heap.size + 2) W0 W0 from Below.refl _ _)

  have HRAhs := Lib.hid ha.hs
  have HRBhs := Lib.hid hb.hs
  have lenhs := ka.hs.1
  have HKAhs := Lib.hid ka.hs.2
  have HKBhs := Lib.hid kb.hs.2
  have HRAss := Lib.hid ha.ss
  have HRBss := Lib.hid hb.ss
  have lenss := ka.ss.1
  have HKAss := Lib.hid ka.ss.2
  have HKBss := Lib.hid kb.ss.2
  have HRAos := Lib.hid ha.os
  have HRBos := Lib.hid hb.os
  have lenos := ka.os.1
  have HKAos := Lib.hid ka.os.2
  have HKBos := Lib.hid kb.os.2
  have HRArs := Lib.hid ha.rs
  have HRBrs := Lib.hid hb.rs
  have lenrs := ka.rs.1
  have HKArs := Lib.hid ka.rs.2
  have HKBrs := Lib.hid kb.rs.2
  obtain ⟨e0, e1, e2, e3, e4⟩ := HCA.out _ HB0.out
  obtain ⟨f0, f1, f2, f3, f4⟩ := HCB.out _ HB0.out
  unfold sameT
  unfold cellsB at *
  clear ha hb ka kb hlo hx
  generalize a.hs = LAhs at *
  generalize a.ss = LAss at *
  generalize a.os = LAos at *
  generalize a.rs = LArs at *
  generalize a.co = nA at *
  generalize v.h = aAhs at *
  generalize v.ch = cAhs at *
  generalize v.s = aAss at *
  generalize v.cs = cAss at *
  generalize v.o = aAos at *
  generalize v.co = cAos at *
  generalize v.r = aArs at *
  generalize v.cr = cArs at *
  generalize b.hs = LBhs at *
  generalize b.ss = LBss at *
  generalize b.os = LBos at *
  generalize b.rs = LBrs at *
  generalize b.co = nB at *
  generalize u.h = aBhs at *
  generalize u.ch = cBhs at *
  generalize u.s = aBss at *
  generalize u.cs = cBss at *
  generalize u.o = aBos at *
  generalize u.co = cBos at *
  generalize u.r = aBrs at *
  generalize u.cr = cBrs at *
  by_cases qhs : LAhs.length = LBhs.length
  case neg =>
    have g : ¬ ((LAhs.length : Int) = (LBhs.length : Int)) := by omega
    have HN := Lib.hid (len_ne qhs)
    clear qhs
    go_enter Try.func12, Try.ntmps12
    go_wp2
    go_ret
    exact ⟨ret_bool (by rw [HN.out]; simp), HLO.out _ HB0.out⟩
  obtain ⟨nhs, hnhs⟩ : ∃ n, LBhs.length = n := ⟨_, rfl⟩
  have HQhs := Lib.hid (qhs.trans hnhs)
  have HPhs := Lib.hid hnhs
  rw [qhs, hnhs] at e0 HCA hW0 lenhs ⊢
  rw [hnhs] at f0 HCB
  clear qhs hnhs
  by_cases qss : LAss.length = LBss.length
  case neg =>
    have g : ¬ ((LAss.length : Int) = (LBss.length : Int)) := by omega
    have HN := Lib.hid (len_ne qss)
    clear qss
    go_enter Try.func12, Try.ntmps12
    go_wp2
    go_ret
    exact ⟨ret_bool (by rw [HN.out]; simp), HLO.out _ HB0.out⟩
  obtain ⟨nss, hnss⟩ : ∃ n, LBss.length = n := ⟨_, rfl⟩
  have HQss := Lib.hid (qss.trans hnss)
  have HPss := Lib.hid hnss
  rw [qss, hnss] at e1 HCA hW0 lenss ⊢
  rw [hnss] at f1 HCB
  clear qss hnss
  by_cases qos : LAos.length = LBos.length
  case neg =>
    have g : ¬ ((LAos.length : Int) = (LBos.length : Int)) := by omega
    have HN := Lib.hid (len_ne qos)
    clear qos
    go_enter Try.func12, Try.ntmps12
    go_wp2
    go_ret
    exact ⟨ret_bool (by rw [HN.out]; simp), HLO.out _ HB0.out⟩
  obtain ⟨nos, hnos⟩ : ∃ n, LBos.length = n := ⟨_, rfl⟩
  have HQos := Lib.hid (qos.trans hnos)
  have HPos := Lib.hid hnos
  rw [qos, hnos] at e2 HCA hW0 lenos ⊢
  rw [hnos] at f2 HCB
  clear qos hnos
  by_cases qrs : LArs.length = LBrs.length
  case neg =>
    have g : ¬ ((LArs.length : Int) = (LBrs.length : Int)) := by omega
    have HN := Lib.hid (len_ne qrs)
    clear qrs
    go_enter Try.func12, Try.ntmps12
    go_wp2
    go_ret
    exact ⟨ret_bool (by rw [HN.out]; simp), HLO.out _ HB0.out⟩
  obtain ⟨nrs, hnrs⟩ : ∃ n, LBrs.length = n := ⟨_, rfl⟩
  have HQrs := Lib.hid (qrs.trans hnrs)
  have HPrs := Lib.hid hnrs
  rw [qrs, hnrs] at e3 HCA hW0 lenrs ⊢
  rw [hnrs] at f3 HCB
  clear qrs hnrs
  by_cases qc : nA = nB
  case neg =>
    have HG := Lib.hid (show (nA == nB) = false by rw [beq_eq_false_iff_ne]; exact qc)
    go_enter Try.func12, Try.ntmps12
    go_wp2
    go_ret
    exact ⟨ret_bool (by rw [HG.out]; simp), HLO.out _ HB0.out⟩
  subst qc
  go_enter Try.func12, Try.ntmps12
  go_wp2
  clear hW0 e0 e1 e2 e3 e4 f0 f1 f2 f3 f4
  go_loopw [5] (fun vi W => ∃ j : Nat, vi = .int .i64 (j : Int) ∧ j ≤ nhs ∧ LAhs.take j = LBhs.take j ∧ Below (w.heap.size + 2) W0 W) (fun vi _ => nhs - (intOf vi).toNat)
  case atStart => exact ⟨0, rfl, Nat.zero_le _, rfl, HB0.out⟩
  case round =>
    obtain ⟨j, rfl, hj, hri, hbw⟩ := hrel
    have HB := Lib.hid hbw
    have HRI := Lib.hid hri
    clear hbw hri HB0
    have cA := (HCA.out _ HB.out).1
    have cB := (HCB.out _ HB.out).1
    by_cases hlt : j < nhs
    · have hl1 : j < LAhs.length := by rw [HQhs.out]; exact hlt
      have hl2 : j < LBhs.length := by rw [HPhs.out]; exact hlt
      obtain ⟨x, hx⟩ : ∃ x, LAhs[j]? = some x := ⟨LAhs[j], by simp [hl1]⟩
      obtain ⟨y, hy⟩ : ∃ y, LBhs[j]? = some y := ⟨LBhs[j], by simp [hl2]⟩
      clear hl1 hl2
      obtain ⟨b0, off, rfl, hb0, hcs⟩ := HRAhs.out.at hx
      obtain ⟨b1, off1, rfl, hb1, hds⟩ := HRBhs.out.at hy
      obtain ⟨p, q, r, s, rfl⟩ := item4 (HKAhs.out _ (List.mem_of_getElem? hx)).1
      obtain ⟨p', q', r', s', rfl⟩ := item4 (HKBhs.out _ (List.mem_of_getElem? hy)).1
      have x0 := hcs _ (HLO.out _ HB.out) 0 p rfl
      have y0 := hds _ (HLO.out _ HB.out) 0 p' rfl
      have x1 := hcs _ (HLO.out _ HB.out) 1 q rfl
      have y1 := hds _ (HLO.out _ HB.out) 1 q' rfl
      have x2 := hcs _ (HLO.out _ HB.out) 2 r rfl
      have y2 := hds _ (HLO.out _ HB.out) 2 r' rfl
      have x3 := hcs _ (HLO.out _ HB.out) 3 s rfl
      have y3 := hds _ (HLO.out _ HB.out) 3 s' rfl
      rw [Nat.add_zero] at x0 y0
      have hne := neq_hold p q r s p' q' r' s'
      by_cases he : ([p, q, r, s] : Item) = [p', q', r', s']
      · have hc : (p == p' && q == q' && r == r' && s == s') = true := by simp only [List.cons.injEq] at he; simp [he]
        have HNX := Lib.hid (take_eq_next HRI.out hx (by rw [he]; exact hy))
        rw [hc] at hne
        clear he hx hy hcs hds hc
        go_wp2
        go_quiet (fail)
        go_wp2
        go_roundw
        case rel => exact ⟨j + 1, by go_num, by omega, HNX.out, below_drewN' HB.out _⟩
        case measure => simp [intOf]; omega
      · have hc : (p == p' && q == q' && r == r' && s == s') = false := by cases hq : (p == p' && q == q' && r == r' && s == s') <;> simp_all
        have HNO := Lib.hid (take_eq_no hx hy he)
        rw [hc] at hne
        clear he hx hy hcs hds hc
        go_wp2
        go_quiet (fail)
        go_wp2
        go_ret
        exact ⟨ret_bool (by rw [HNO.out]; simp), HLO.out _ (below_drewN' HB.out _)⟩
    · have HD0 := Lib.hid (take_eq_all HRI.out (by rw [HQhs.out]; omega) (by rw [HPhs.out]; omega))
      have HB1 := Lib.hid HB.out
      clear HRI HB
      go_wp2
      clear hlt hj
      go_loopw [6] (fun vi W => ∃ j : Nat, vi = .int .i64 (j : Int) ∧ j ≤ nss ∧ LAss.take j = LBss.take j ∧ Below (w.heap.size + 2) W0 W) (fun vi _ => nss - (intOf vi).toNat)
      case atStart => exact ⟨0, rfl, Nat.zero_le _, rfl, HB1.out⟩
      case round =>
        obtain ⟨j, rfl, hj, hri, hbw⟩ := hrel
        have HB := Lib.hid hbw
        have HRI := Lib.hid hri
        clear hbw hri HB1
        have cA := (HCA.out _ HB.out).2.1
        have cB := (HCB.out _ HB.out).2.1
        by_cases hlt : j < nss
        · have hl1 : j < LAss.length := by rw [HQss.out]; exact hlt
          have hl2 : j < LBss.length := by rw [HPss.out]; exact hlt
          obtain ⟨x, hx⟩ : ∃ x, LAss[j]? = some x := ⟨LAss[j], by simp [hl1]⟩
          obtain ⟨y, hy⟩ : ∃ y, LBss[j]? = some y := ⟨LBss[j], by simp [hl2]⟩
          clear hl1 hl2
          obtain ⟨b0, off, rfl, hb0, hcs⟩ := HRAss.out.at hx
          obtain ⟨b1, off1, rfl, hb1, hds⟩ := HRBss.out.at hy
          obtain ⟨p, q, r, rfl⟩ := item3 (HKAss.out _ (List.mem_of_getElem? hx)).1
          obtain ⟨p', q', r', rfl⟩ := item3 (HKBss.out _ (List.mem_of_getElem? hy)).1
          have x0 := hcs _ (HLO.out _ HB.out) 0 p rfl
          have y0 := hds _ (HLO.out _ HB.out) 0 p' rfl
          have x1 := hcs _ (HLO.out _ HB.out) 1 q rfl
          have y1 := hds _ (HLO.out _ HB.out) 1 q' rfl
          have x2 := hcs _ (HLO.out _ HB.out) 2 r rfl
          have y2 := hds _ (HLO.out _ HB.out) 2 r' rfl
          rw [Nat.add_zero] at x0 y0
          have hne := neq_stake p q r p' q' r'
          by_cases he : ([p, q, r] : Item) = [p', q', r']
          · have hc : (p == p' && q == q' && r == r') = true := by simp only [List.cons.injEq] at he; simp [he]
            have HNX := Lib.hid (take_eq_next HRI.out hx (by rw [he]; exact hy))
            rw [hc] at hne
            clear he hx hy hcs hds hc
            go_wp2
            go_quiet (fail)
            go_wp2
            go_roundw
            case rel => exact ⟨j + 1, by go_num, by omega, HNX.out, below_drewN' HB.out _⟩
            case measure => simp [intOf]; omega
          · have hc : (p == p' && q == q' && r == r') = false := by cases hq : (p == p' && q == q' && r == r') <;> simp_all
            have HNO := Lib.hid (take_eq_no hx hy he)
            rw [hc] at hne
            clear he hx hy hcs hds hc
            go_wp2
            go_quiet (fail)
            go_wp2
            go_ret
            exact ⟨ret_bool (by rw [HNO.out]; simp), HLO.out _ (below_drewN' HB.out _)⟩
        · have HD1 := Lib.hid (take_eq_all HRI.out (by rw [HQss.out]; omega) (by rw [HPss.out]; omega))
          have HB2 := Lib.hid HB.out
          clear HRI HB
          go_wp2
          clear hlt hj
          go_loopw [7] (fun vi W => ∃ j : Nat, vi = .int .i64 (j : Int) ∧ j ≤ nos ∧ LAos.take j = LBos.take j ∧ Below (w.heap.size + 2) W0 W) (fun vi _ => nos - (intOf vi).toNat)
          case atStart => exact ⟨0, rfl, Nat.zero_le _, rfl, HB2.out⟩
          case round =>
            obtain ⟨j, rfl, hj, hri, hbw⟩ := hrel
            have HB := Lib.hid hbw
            have HRI := Lib.hid hri
            clear hbw hri HB2
            have cA := (HCA.out _ HB.out).2.2.1
            have cB := (HCB.out _ HB.out).2.2.1
            by_cases hlt : j < nos
            · have hl1 : j < LAos.length := by rw [HQos.out]; exact hlt
              have hl2 : j < LBos.length := by rw [HPos.out]; exact hlt
              obtain ⟨x, hx⟩ : ∃ x, LAos[j]? = some x := ⟨LAos[j], by simp [hl1]⟩
              obtain ⟨y, hy⟩ : ∃ y, LBos[j]? = some y := ⟨LBos[j], by simp [hl2]⟩
              clear hl1 hl2
              obtain ⟨b0, off, rfl, hb0, hcs⟩ := HRAos.out.at hx
              obtain ⟨b1, off1, rfl, hb1, hds⟩ := HRBos.out.at hy
              obtain ⟨p, q, r, s, t, z, rfl⟩ := item6 (HKAos.out _ (List.mem_of_getElem? hx)).1
              obtain ⟨p', q', r', s', t', z', rfl⟩ := item6 (HKBos.out _ (List.mem_of_getElem? hy)).1
              have x0 := hcs _ (HLO.out _ HB.out) 0 p rfl
              have y0 := hds _ (HLO.out _ HB.out) 0 p' rfl
              have x1 := hcs _ (HLO.out _ HB.out) 1 q rfl
              have y1 := hds _ (HLO.out _ HB.out) 1 q' rfl
              have x2 := hcs _ (HLO.out _ HB.out) 2 r rfl
              have y2 := hds _ (HLO.out _ HB.out) 2 r' rfl
              have x3 := hcs _ (HLO.out _ HB.out) 3 s rfl
              have y3 := hds _ (HLO.out _ HB.out) 3 s' rfl
              have x4 := hcs _ (HLO.out _ HB.out) 4 t rfl
              have y4 := hds _ (HLO.out _ HB.out) 4 t' rfl
              have x5 := hcs _ (HLO.out _ HB.out) 5 z rfl
              have y5 := hds _ (HLO.out _ HB.out) 5 z' rfl
              rw [Nat.add_zero] at x0 y0
              have hne := neq_open p q r s t z p' q' r' s' t' z'
              by_cases he : ([p, q, r, s, t, z] : Item) = [p', q', r', s', t', z']
              · have hc : (p == p' && q == q' && r == r' && s == s' && t == t' && z == z') = true := by simp only [List.cons.injEq] at he; simp [he]
                have HNX := Lib.hid (take_eq_next HRI.out hx (by rw [he]; exact hy))
                rw [hc] at hne
                clear he hx hy hcs hds hc
                go_wp2
                go_quiet (fail)
                go_wp2
                go_roundw
                case rel => exact ⟨j + 1, by go_num, by omega, HNX.out, below_drewN' HB.out _⟩
                case measure => simp [intOf]; omega
              · have hc : (p == p' && q == q' && r == r' && s == s' && t == t' && z == z') = false := by cases hq : (p == p' && q == q' && r == r' && s == s' && t == t' && z == z') <;> simp_all
                have HNO := Lib.hid (take_eq_no hx hy he)
                rw [hc] at hne
                clear he hx hy hcs hds hc
                go_wp2
                go_quiet (fail)
                go_wp2
                go_ret
                exact ⟨ret_bool (by rw [HNO.out]; simp), HLO.out _ (below_drewN' HB.out _)⟩
            · have HD2 := Lib.hid (take_eq_all HRI.out (by rw [HQos.out]; omega) (by rw [HPos.out]; omega))
              have HB3 := Lib.hid HB.out
              clear HRI HB
              go_wp2
              clear hlt hj
              go_loopw [8] (fun vi W => ∃ j : Nat, vi = .int .i64 (j : Int) ∧ j ≤ nrs ∧ LArs.take j = LBrs.take j ∧ Below (w.heap.size + 2) W0 W) (fun vi _ => nrs - (intOf vi).toNat)
              case atStart => exact ⟨0, rfl, Nat.zero_le _, rfl, HB3.out⟩
              case round =>
                obtain ⟨j, rfl, hj, hri, hbw⟩ := hrel
                have HB := Lib.hid hbw
                have HRI := Lib.hid hri
                clear hbw hri HB3
                have cA := (HCA.out _ HB.out).2.2.2.1
                have cB := (HCB.out _ HB.out).2.2.2.1
                by_cases hlt : j < nrs
                · have hl1 : j < LArs.length := by rw [HQrs.out]; exact hlt
                  have hl2 : j < LBrs.length := by rw [HPrs.out]; exact hlt
                  obtain ⟨x, hx⟩ : ∃ x, LArs[j]? = some x := ⟨LArs[j], by simp [hl1]⟩
                  obtain ⟨y, hy⟩ : ∃ y, LBrs[j]? = some y := ⟨LBrs[j], by simp [hl2]⟩
                  clear hl1 hl2
                  obtain ⟨b0, off, rfl, hb0, hcs⟩ := HRArs.out.at hx
                  obtain ⟨b1, off1, rfl, hb1, hds⟩ := HRBrs.out.at hy
                  obtain ⟨p, q, rfl⟩ := item2 (HKArs.out _ (List.mem_of_getElem? hx)).1
                  obtain ⟨p', q', rfl⟩ := item2 (HKBrs.out _ (List.mem_of_getElem? hy)).1
                  have x0 := hcs _ (HLO.out _ HB.out) 0 p rfl
                  have y0 := hds _ (HLO.out _ HB.out) 0 p' rfl
                  have x1 := hcs _ (HLO.out _ HB.out) 1 q rfl
                  have y1 := hds _ (HLO.out _ HB.out) 1 q' rfl
                  rw [Nat.add_zero] at x0 y0
                  have hne := neq_rate p q p' q'
                  by_cases he : ([p, q] : Item) = [p', q']
                  · have hc : (p == p' && q == q') = true := by simp only [List.cons.injEq] at he; simp [he]
                    have HNX := Lib.hid (take_eq_next HRI.out hx (by rw [he]; exact hy))
                    rw [hc] at hne
                    clear he hx hy hcs hds hc
                    go_wp2
                    go_quiet (fail)
                    go_wp2
                    go_roundw
                    case rel => exact ⟨j + 1, by go_num, by omega, HNX.out, below_drewN' HB.out _⟩
                    case measure => simp [intOf]; omega
                  · have hc : (p == p' && q == q') = false := by cases hq : (p == p' && q == q') <;> simp_all
                    have HNO := Lib.hid (take_eq_no hx hy he)
                    rw [hc] at hne
                    clear he hx hy hcs hds hc
                    go_wp2
                    go_quiet (fail)
                    go_wp2
                    go_ret
                    exact ⟨ret_bool (by rw [HNO.out]; simp), HLO.out _ (below_drewN' HB.out _)⟩
                · have HD3 := Lib.hid (take_eq_all HRI.out (by rw [HQrs.out]; omega) (by rw [HPrs.out]; omega))
                  have HB4 := Lib.hid HB.out
                  clear HRI HB
                  go_wp2
                  clear hlt hj
                  go_ret
                  exact ⟨ret_bool (by rw [HD0.out, HD1.out, HD2.out, HD3.out]; simp), HLO.out _ HB4.out⟩
end Go.Proofs.Ytellifcjamedkaa

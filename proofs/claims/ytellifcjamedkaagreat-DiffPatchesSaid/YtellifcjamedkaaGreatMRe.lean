/- The document's Same: its contract. A row of things that is made: what it owns, what it is for others. -/
import Derived.Test.YtellifcjamedkaaGreatMRc
namespace Go.Proofs.YtellifcjamedkaaGreat
open Go.RowKit Base Base2
theorem take_eq_next {A B : List Item} {i : Nat} {x : Item} (h : A.take i = B.take i) (hx : A[i]? = some x) (hy : B[i]? = some x) : A.take (i + 1) = B.take (i + 1) := by rw [take_one hx, take_one hy, h]
theorem take_eq_no {A B : List Item} {i : Nat} {x y : Item} (hx : A[i]? = some x) (hy : B[i]? = some y) (h : x ≠ y) : (A == B) = false := by
  rw [beq_eq_false_iff_ne]; rintro rfl; rw [hx] at hy; exact h (Option.some.inj hy)
theorem take_eq_all {A B : List Item} {i : Nat} (h : A.take i = B.take i) (h1 : A.length ≤ i) (h2 : B.length ≤ i) : (A == B) = true := by
  rw [List.take_of_length_le h1, List.take_of_length_le h2] at h; rw [h]; simp
theorem len_ne {A B : List Item} (h : A.length ≠ B.length) : (A == B) = false := by rw [beq_eq_false_iff_ne]; rintro rfl; exact h rfl
set_option maxRecDepth 100000 in
set_option maxHeartbeats 8000000 in
theorem same12 (v u : Slots) (a b : BookT) (w : World) (ha : BookIn w v a) (hb : BookIn w u b) (ka : BookOk 2000 a) (kb : BookOk 2000 b) :
    Calls Tryz.prog 14 #[.agg (cellsB v a), .agg (cellsB u b)] w fun e w' => e = .returned (.bool (sameT a b)) ∧ Below w.heap.size w w' := by
  obtain ⟨W0, hW0⟩ : ∃ W, (w.alloc (.cells (cellsB v a) 27)).alloc (.cells (cellsB u b) 27) = W := ⟨_, rfl⟩
  have hlo : Below w.heap.size w W0 := by rw [← hW0]; exact ((Below.refl _ w).alloc (Nat.le_refl _) _).alloc (by simp) _
  have hx : BoxB W0 w.heap.size v a ∧ BoxB W0 (w.heap.size + 1) u b := by rw [← hW0]; exact two_new
  have HCA := Lib.hid (show ∀ W, Below (w.heap.size + 2) W0 W → _ from fun W h => (hx.1.below h (by omega)).cells)
  have HCB := Lib.hid (show ∀ W, Below (w.heap.size + 2) W0 W → _ from fun W h => (hx.2.below h (by omega)).cells)
  have HLO := Lib.hid (show ∀ W, Below (w.heap.size + 2) W0 W → Below w.heap.size w W from fun W h => hlo.trans (h.mono (by omega)))
  have HB0 := Lib.hid (show Below (w.heap.size + 2) W0 W0 from Below.refl _ _)
  have HRAhs := Lib.hid ha.hs
  have HRBhs := Lib.hid hb.hs
  have lenhs := ka.hs.1
  have HKAhs := Lib.hid ka.hs.2
  have HKBhs := Lib.hid kb.hs.2
  have HRAss := Lib.hid ha.ss
  have HRBss := Lib.hid hb.ss
  have lenss := ka.ss.1
  have HKAss := Lib.hid ka.ss.2
  have HKBss := Lib.hid kb.ss.2
  have HRAos := Lib.hid ha.os
  have HRBos := Lib.hid hb.os
  have lenos := ka.os.1
  have HKAos := Lib.hid ka.os.2
  have HKBos := Lib.hid kb.os.2
  have HRArs := Lib.hid ha.rs
  have HRBrs := Lib.hid hb.rs
  have lenrs := ka.rs.1
  have HKArs := Lib.hid ka.rs.2
  have HKBrs := Lib.hid kb.rs.2
  obtain ⟨e0, e1, e2, e3, e4⟩ := HCA.out _ HB0.out
  obtain ⟨f0, f1, f2, f3, f4⟩ := HCB.out _ HB0.out
  unfold sameT
  unfold cellsB at *
  clear ha hb ka kb hlo hx
  generalize a.hs = LAhs at *
  generalize a.ss = LAss at *
  generalize a.os = LAos at *
  generalize a.rs = LArs at *
  generalize a.co = nA at *
  generalize v.h = aAhs at *
  generalize v.ch = cAhs at *
  generalize v.s = aAss at *
  generalize v.cs = cAss at *
  generalize v.o = aAos at *
  generalize v.co = cAos at *
  generalize v.r = aArs at *
  generalize v.cr = cArs at *
  generalize b.hs = LBhs at *
  generalize b.ss = LBss at *
  generalize b.os = LBos at *
  generalize b.rs = LBrs at *
  generalize b.co = nB at *
  generalize u.h = aBhs at *
  generalize u.ch = cBhs at *
  generalize u.s = aBss at *
  generalize u.cs = cBss at *
  generalize u.o = aBos at *
  generalize u.co = cBos at *
  generalize u.r = aBrs at *
  generalize u.cr = cBrs at *
  by_cases qhs : LAhs.length = LBhs.length
  case neg =>
    have g : ¬ ((LAhs.length : Int) = (LBhs.length : Int)) := by omega
    have HN := Lib.hid (len_ne qhs)
    clear qhs
    go_enter Tryz.func14, Tryz.ntmps14
    go_wp2
    go_ret
    exact ⟨ret_bool (by rw [HN.out]; simp), HLO.out _ HB0.out⟩
  obtain ⟨nhs, hnhs⟩ : ∃ n, LBhs.length = n := ⟨_, rfl⟩
  have HQhs := Lib.hid (qhs.trans hnhs)
  have HPhs := Lib.hid hnhs
  rw [qhs, hnhs] at e0 HCA hW0 lenhs ⊢
  rw [hnhs] at f0 HCB
  clear qhs hnhs
  by_cases qss : LAss.length = LBss.length
  case neg =>
    have g : ¬ ((LAss.length : Int) = (LBss.length : Int)) := by omega
    have HN := Lib.hid (len_ne qss)
    clear qss
    go_enter Tryz.func14, Tryz.ntmps14
    go_wp2
    go_ret
    exact ⟨ret_bool (by rw [HN.out]; simp), HLO.out _ HB0.out⟩
  obtain ⟨nss, hnss⟩ : ∃ n, LBss.length = n := ⟨_, rfl⟩
  have HQss := Lib.hid (qss.trans hnss)
  have HPss := Lib.hid hnss
  rw [qss, hnss] at e1 HCA hW0 lenss ⊢
  rw [hnss] at f1 HCB
  clear qss hnss
  by_cases qos : LAos.length = LBos.length
  case neg =>
    have g : ¬ ((LAos.length : Int) = (LBos.length : Int)) := by omega
    have HN := Lib.hid (len_ne qos)
    clear qos
    go_enter Tryz.func14, Tryz.ntmps14
    go_wp2
    go_ret
    exact ⟨ret_bool (by rw [HN.out]; simp), HLO.out _ HB0.out⟩
  obtain ⟨nos, hnos⟩ : ∃ n, LBos.length = n := ⟨_, rfl⟩
  have HQos := Lib.hid (qos.trans hnos)
  have HPos := Lib.hid hnos
  rw [qos, hnos] at e2 HCA hW0 lenos ⊢
  rw [hnos] at f2 HCB
  clear qos hnos
  by_cases qrs : LArs.length = LBrs.length
  case neg =>
    have g : ¬ ((LArs.length : Int) = (LBrs.length : Int)) := by omega
    have HN := Lib.hid (len_ne qrs)
    clear qrs
    go_enter Tryz.func14, Tryz.ntmps14
    go_wp2
    go_ret
    exact ⟨ret_bool (by rw [HN.out]; simp), HLO.out _ HB0.out⟩
  obtain ⟨nrs, hnrs⟩ : ∃ n, LBrs.length = n := ⟨_, rfl⟩
  have HQrs := Lib.hid (qrs.trans hnrs)
  have HPrs := Lib.hid hnrs
  rw [qrs, hnrs] at e3 HCA hW0 lenrs ⊢
  rw [hnrs] at f3 HCB
  clear qrs hnrs
  by_cases qc : nA = nB
  case neg =>
    have HG := Lib.hid (show (nA == nB) = false by rw [beq_eq_false_iff_ne]; exact qc)
    go_enter Tryz.func14, Tryz.ntmps14
    go_wp2
    go_ret
    exact ⟨ret_bool (by rw [HG.out]; simp), HLO.out _ HB0.out⟩
  subst qc
  go_enter Tryz.func14, Tryz.ntmps14
  go_wp2
  clear hW0 e0 e1 e2 e3 e4 f0 f1 f2 f3 f4
  go_loopw [5] (fun vi W => ∃ j : Nat, vi = .int .i64 (j : Int) ∧ j ≤ nhs ∧ LAhs.take j = LBhs.take j ∧ Below (w.heap.size + 2) W0 W) (fun vi _ => nhs - (intOf vi).toNat)
  case atStart => exact ⟨0, rfl, Nat.zero_le _, rfl, HB0.out⟩
  case round =>
    obtain ⟨j, rfl, hj, hri, hbw⟩ := hrel
    have HB := Lib.hid hbw
    have HRI := Lib.hid hri
    clear hbw hri HB0
    have cA := (HCA.out _ HB.out).1
    have cB := (HCB.out _ HB.out).1
    by_cases hlt : j < nhs
    · have hl1 : j < LAhs.length := by rw [HQhs.out]; exact hlt
      have hl2 : j < LBhs.length := by rw [HPhs.out]; exact hlt
      obtain ⟨x, hx⟩ : ∃ x, LAhs[j]? = some x := ⟨LAhs[j], by simp [hl1]⟩
      obtain ⟨y, hy⟩ : ∃ y, LBhs[j]? = some y := ⟨LBhs[j], by simp [hl2]⟩
      clear hl1 hl2
      obtain ⟨b0, off, rfl, hb0, hcs⟩ := HRAhs.out.at hx
      obtain ⟨b1, off1, rfl, hb1, hds⟩ := HRBhs.out.at hy
      obtain ⟨p, q, r, s, rfl⟩ := item4 (HKAhs.out _ (List.mem_of_getElem? hx)).1
      obtain ⟨p', q', r', s', rfl⟩ := item4 (HKBhs.out _ (List.mem_of_getElem? hy)).1
      have x0 := hcs _ (HLO.out _ HB.out) 0 p rfl
      have y0 := hds _ (HLO.out _ HB.out) 0 p' rfl
      have x1 := hcs _ (HLO.out _ HB.out) 1 q rfl
      have y1 := hds _ (HLO.out _ HB.out) 1 q' rfl
      have x2 := hcs _ (HLO.out _ HB.out) 2 r rfl
      have y2 := hds _ (HLO.out _ HB.out) 2 r' rfl
      have x3 := hcs _ (HLO.out _ HB.out) 3 s rfl
      have y3 := hds _ (HLO.out _ HB.out) 3 s' rfl
      rw [Nat.add_zero] at x0 y0
      have hne := neq_hold p q r s p' q' r' s'
      by_cases he : ([p, q, r, s] : Item) = [p', q', r', s']
      · have hc : (p == p' && q == q' && r == r' && s == s') = true := by simp only [List.cons.injEq] at he; simp [he]
        have HNX := Lib.hid (take_eq_next HRI.out hx (by rw [he]; exact hy))
        rw [hc] at hne
        clear he hx hy hcs hds hc
        go_wp2
        go_quiet (fail)
        go_wp2
        go_roundw
        case rel => exact ⟨j + 1, by go_num, by omega, HNX.out, below_drewN' HB.out _⟩
        case measure => simp [intOf]; omega
      · have hc : (p == p' && q == q' && r == r' && s == s') = false := by cases hq : (p == p' && q == q' && r == r' && s == s') <;> simp_all
        have HNO := Lib.hid (take_eq_no hx hy he)
        rw [hc] at hne
        clear he hx hy hcs hds hc
        go_wp2
        go_quiet (fail)
        go_wp2
        go_ret
        exact ⟨ret_bool (by rw [HNO.out]; simp), HLO.out _ (below_drewN' HB.out _)⟩
    · have HD0 := Lib.hid (take_eq_all HRI.out (by rw [HQhs.out]; omega) (by rw [HPhs.out]; omega))
      have HB1 := Lib.hid HB.out
      clear HRI HB
      go_wp2
      clear hlt hj
      go_loopw [6] (fun vi W => ∃ j : Nat, vi = .int .i64 (j : Int) ∧ j ≤ nss ∧ LAss.take j = LBss.take j ∧ Below (w.heap.size + 2) W0 W) (fun vi _ => nss - (intOf vi).toNat)
      case atStart => exact ⟨0, rfl, Nat.zero_le _, rfl, HB1.out⟩
      case round =>
        obtain ⟨j, rfl, hj, hri, hbw⟩ := hrel
        have HB := Lib.hid hbw
        have HRI := Lib.hid hri
        clear hbw hri HB1
        have cA := (HCA.out _ HB.out).2.1
        have cB := (HCB.out _ HB.out).2.1
        by_cases hlt : j < nss
        · have hl1 : j < LAss.length := by rw [HQss.out]; exact hlt
          have hl2 : j < LBss.length := by rw [HPss.out]; exact hlt
          obtain ⟨x, hx⟩ : ∃ x, LAss[j]? = some x := ⟨LAss[j], by simp [hl1]⟩
          obtain ⟨y, hy⟩ : ∃ y, LBss[j]? = some y := ⟨LBss[j], by simp [hl2]⟩
          clear hl1 hl2
          obtain ⟨b0, off, rfl, hb0, hcs⟩ := HRAss.out.at hx
          obtain ⟨b1, off1, rfl, hb1, hds⟩ := HRBss.out.at hy
          obtain ⟨p, q, r, rfl⟩ := item3 (HKAss.out _ (List.mem_of_getElem? hx)).1
          obtain ⟨p', q', r', rfl⟩ := item3 (HKBss.out _ (List.mem_of_getElem? hy)).1
          have x0 := hcs _ (HLO.out _ HB.out) 0 p rfl
          have y0 := hds _ (HLO.out _ HB.out) 0 p' rfl
          have x1 := hcs _ (HLO.out _ HB.out) 1 q rfl
          have y1 := hds _ (HLO.out _ HB.out) 1 q' rfl
          have x2 := hcs _ (HLO.out _ HB.out) 2 r rfl
          have y2 := hds _ (HLO.out _ HB.out) 2 r' rfl
          rw [Nat.add_zero] at x0 y0
          have hne := neq_stake p q r p' q' r'
          by_cases he : ([p, q, r] : Item) = [p', q', r']
          · have hc : (p == p' && q == q' && r == r') = true := by simp only [List.cons.injEq] at he; simp [he]
            have HNX := Lib.hid (take_eq_next HRI.out hx (by rw [he]; exact hy))
            rw [hc] at hne
            clear he hx hy hcs hds hc
            go_wp2
            go_quiet (fail)
            go_wp2
            go_roundw
            case rel => exact ⟨j + 1, by go_num, by omega, HNX.out, below_drewN' HB.out _⟩
            case measure => simp [intOf]; omega
          · have hc : (p == p' && q == q' && r == r') = false := by cases hq : (p == p' && q == q' && r == r') <;> simp_all
            have HNO := Lib.hid (take_eq_no hx hy he)
            rw [hc] at hne
            clear he hx hy hcs hds hc
            go_wp2
            go_quiet (fail)
            go_wp2
            go_ret
            exact ⟨ret_bool (by rw [HNO.out]; simp), HLO.out _ (below_drewN' HB.out _)⟩
        · have HD1 := Lib.hid (take_eq_all HRI.out (by rw [HQss.out]; omega) (by rw [HPss.out]; omega))
          have HB2 := Lib.hid HB.out
          clear HRI HB
          go_wp2
          clear hlt hj
          go_loopw [7] (fun vi W => ∃ j : Nat, vi = .int .i64 (j : Int) ∧ j ≤ nos ∧ LAos.take j = LBos.take j ∧ Below (w.heap.size + 2) W0 W) (fun vi _ => nos - (intOf vi).toNat)
          case atStart => exact ⟨0, rfl, Nat.zero_le _, rfl, HB2.out⟩
          case round =>
            obtain ⟨j, rfl, hj, hri, hbw⟩ := hrel
            have HB := Lib.hid hbw
            have HRI := Lib.hid hri
            clear hbw hri HB2
            have cA := (HCA.out _ HB.out).2.2.1
            have cB := (HCB.out _ HB.out).2.2.1
            by_cases hlt : j < nos
            · have hl1 : j < LAos.length := by rw [HQos.out]; exact hlt
              have hl2 : j < LBos.length := by rw [HPos.out]; exact hlt
              obtain ⟨x, hx⟩ : ∃ x, LAos[j]? = some x := ⟨LAos[j], by simp [hl1]⟩
              obtain ⟨y, hy⟩ : ∃ y, LBos[j]? = some y := ⟨LBos[j], by simp [hl2]⟩
              clear hl1 hl2
              obtain ⟨b0, off, rfl, hb0, hcs⟩ := HRAos.out.at hx
              obtain ⟨b1, off1, rfl, hb1, hds⟩ := HRBos.out.at hy
              obtain ⟨p, q, r, s, t, z, rfl⟩ := item6 (HKAos.out _ (List.mem_of_getElem? hx)).1
              obtain ⟨p', q', r', s', t', z', rfl⟩ := item6 (HKBos.out _ (List.mem_of_getElem? hy)).1
              have x0 := hcs _ (HLO.out _ HB.out) 0 p rfl
              have y0 := hds _ (HLO.out _ HB.out) 0 p' rfl
              have x1 := hcs _ (HLO.out _ HB.out) 1 q rfl
              have y1 := hds _ (HLO.out _ HB.out) 1 q' rfl
              have x2 := hcs _ (HLO.out _ HB.out) 2 r rfl
              have y2 := hds _ (HLO.out _ HB.out) 2 r' rfl
              have x3 := hcs _ (HLO.out _ HB.out) 3 s rfl
              have y3 := hds _ (HLO.out _ HB.out) 3 s' rfl
              have x4 := hcs _ (HLO.out _ HB.out) 4 t rfl
              have y4 := hds _ (HLO.out _ HB.out) 4 t' rfl
              have x5 := hcs _ (HLO.out _ HB.out) 5 z rfl
              have y5 := hds _ (HLO.out _ HB.out) 5 z' rfl
              rw [Nat.add_zero] at x0 y0
              have hne := neq_open p q r s t z p' q' r' s' t' z'
              by_cases he : ([p, q, r, s, t, z] : Item) = [p', q', r', s', t', z']
              · have hc : (p == p' && q == q' && r == r' && s == s' && t == t' && z == z') = true := by simp only [List.cons.injEq] at he; simp [he]
                have HNX := Lib.hid (take_eq_next HRI.out hx (by rw [he]; exact hy))
                rw [hc] at hne
                clear he hx hy hcs hds hc
                go_wp2
                go_quiet (fail)
                go_wp2
                go_roundw
                case rel => exact ⟨j + 1, by go_num, by omega, HNX.out, below_drewN' HB.out _⟩
                case measure => simp [intOf]; omega
              · have hc : (p == p' && q == q' && r == r' && s == s' && t == t' && z == z') = false := by cases hq : (p == p' && q == q' && r == r' && s == s' && t == t' && z == z') <;> simp_all
                have HNO := Lib.hid (take_eq_no hx hy he)
                rw [hc] at hne
                clear he hx hy hcs hds hc
                go_wp2
                go_quiet (fail)
                go_wp2
                go_ret
                exact ⟨ret_bool (by rw [HNO.out]; simp), HLO.out _ (below_drewN' HB.out _)⟩
            · have HD2 := Lib.hid (take_eq_all HRI.out (by rw [HQos.out]; omega) (by rw [HPos.out]; omega))
              have HB3 := Lib.hid HB.out
              clear HRI HB
              go_wp2
              clear hlt hj
              go_loopw [8] (fun vi W => ∃ j : Nat, vi = .int .i64 (j : Int) ∧ j ≤ nrs ∧ LArs.take j = LBrs.take j ∧ Below (w.heap.size + 2) W0 W) (fun vi _ => nrs - (intOf vi).toNat)
              case atStart => exact ⟨0, rfl, Nat.zero_le _, rfl, HB3.out⟩
              case round =>
                obtain ⟨j, rfl, hj, hri, hbw⟩ := hrel
                have HB := Lib.hid hbw
                have HRI := Lib.hid hri
                clear hbw hri HB3
                have cA := (HCA.out _ HB.out).2.2.2.1
                have cB := (HCB.out _ HB.out).2.2.2.1
                by_cases hlt : j < nrs
                · have hl1 : j < LArs.length := by rw [HQrs.out]; exact hlt
                  have hl2 : j < LBrs.length := by rw [HPrs.out]; exact hlt
                  obtain ⟨x, hx⟩ : ∃ x, LArs[j]? = some x := ⟨LArs[j], by simp [hl1]⟩
                  obtain ⟨y, hy⟩ : ∃ y, LBrs[j]? = some y := ⟨LBrs[j], by simp [hl2]⟩
                  clear hl1 hl2
                  obtain ⟨b0, off, rfl, hb0, hcs⟩ := HRArs.out.at hx
                  obtain ⟨b1, off1, rfl, hb1, hds⟩ := HRBrs.out.at hy
                  obtain ⟨p, q, rfl⟩ := item2 (HKArs.out _ (List.mem_of_getElem? hx)).1
                  obtain ⟨p', q', rfl⟩ := item2 (HKBrs.out _ (List.mem_of_getElem? hy)).1
                  have x0 := hcs _ (HLO.out _ HB.out) 0 p rfl
                  have y0 := hds _ (HLO.out _ HB.out) 0 p' rfl
                  have x1 := hcs _ (HLO.out _ HB.out) 1 q rfl
                  have y1 := hds _ (HLO.out _ HB.out) 1 q' rfl
                  rw [Nat.add_zero] at x0 y0
                  have hne := neq_rate p q p' q'
                  by_cases he : ([p, q] : Item) = [p', q']
                  · have hc : (p == p' && q == q') = true := by simp only [List.cons.injEq] at he; simp [he]
                    have HNX := Lib.hid (take_eq_next HRI.out hx (by rw [he]; exact hy))
                    rw [hc] at hne
                    clear he hx hy hcs hds hc
                    go_wp2
                    go_quiet (fail)
                    go_wp2
                    go_roundw
                    case rel => exact ⟨j + 1, by go_num, by omega, HNX.out, below_drewN' HB.out _⟩
                    case measure => simp [intOf]; omega
                  · have hc : (p == p' && q == q') = false := by cases hq : (p == p' && q == q') <;> simp_all
                    have HNO := Lib.hid (take_eq_no hx hy he)
                    rw [hc] at hne
                    clear he hx hy hcs hds hc
                    go_wp2
                    go_quiet (fail)
                    go_wp2
                    go_ret
                    exact ⟨ret_bool (by rw [HNO.out]; simp), HLO.out _ (below_drewN' HB.out _)⟩
                · have HD3 := Lib.hid (take_eq_all HRI.out (by rw [HQrs.out]; omega) (by rw [HPrs.out]; omega))
                  have HB4 := Lib.hid HB.out
                  clear HRI HB
                  go_wp2
                  clear hlt hj
                  go_ret
                  exact ⟨ret_bool (by rw [HD0.out, HD1.out, HD2.out, HD3.out]; simp), HLO.out _ HB4.out⟩
end Go.Proofs.YtellifcjamedkaaGreat
namespace Go.Proofs.YtellifcjamedkaaGreat
open Go.RowKit Base Base2
def flatI (l : List Item) : List Value := (l.map (fun x => x.map (Value.int .i64))).flatten
theorem flatI_app (l m : List Item) : flatI (l ++ m) = flatI l ++ flatI m := by simp [flatI]
theorem flatI_one (x : Item) : flatI [x] = x.map (Value.int .i64) := by simp [flatI]
theorem flatI_at {k : Nat} : ∀ (l : List Item), (∀ x ∈ l, x.length = k) → ∀ (i : Nat) (x : Item), l[i]? = some x → ∀ (j : Nat) (z : Int), x[j]? = some z → (flatI l)[i * k + j]? = some (.int .i64 z)
  | [], _, i, x, h, _, _, _ => by simp at h
  | y :: l, hk, 0, x, h, j, z, hz => by
    simp at h; subst h
    have hj := (List.getElem?_eq_some_iff.1 hz).1
    show (y.map (Value.int .i64) ++ flatI l)[0 * k + j]? = _
    rw [Nat.zero_mul, Nat.zero_add, List.getElem?_append_left (by simpa using hj), List.getElem?_map, hz]; rfl
  | y :: l, hk, i + 1, x, h, j, z, hz => by
    have ih := flatI_at l (fun x hx => hk x (List.mem_cons_of_mem _ hx)) i x (by simpa using h) j z hz
    have hy := hk y (List.mem_cons_self ..)
    show (y.map (Value.int .i64) ++ flatI l)[(i + 1) * k + j]? = _
    rw [List.getElem?_append_right (by simp [hy, Nat.add_mul]; omega), List.length_map, hy, show (i + 1) * k + j - k = i * k + j by rw [Nat.add_mul]; omega]
    exact ih
theorem rows_own {k : Nat} (_ : 0 < k) {W : World} {base : Nat} {T : TypeId} {v : Value} {l : List Item} (hk : ∀ x ∈ l, x.length = k) (h : W.ownsRow base T k v l.length (flatI l)) : ∃ a c, v = .slice a l.length c ∧ RowsOf k W a l := by
  have h0 := h
  rcases h.2 with ⟨rfl, hn⟩ | ⟨g, cap, cur, rfl, a1, a2, a3, a4, a5, a6⟩
  · exact ⟨none, 0, by rw [hn], .inl (List.eq_nil_of_length_eq_zero hn)⟩
  · refine ⟨_, _, rfl, .inr ⟨g, 0, rfl, (Array.getElem?_eq_some_iff.1 a2).1, fun i x hi j z hz => ?_⟩⟩
    have hat := flatI_at l hk i x hi j z hz
    have := h0.cells (g := g) rfl (i * k + j) _ hat
    rw [Addr.add_mid] at this
    rw [show 0 + i * k + j = 0 + (i * k + j) by omega]
    exact this
theorem new_cells (W : World) (cs : List Value) (T : TypeId) : ∀ (j : Nat) (u : Value), cs[j]? = some u → (W.alloc (.cells cs.toArray T)).cell? ((⟨W.heap.size, 0, none⟩ : Addr).add j) = some u := by
  intro j u hu
  have h := heap_alloc_new W (.cells cs.toArray T)
  rw [Addr.add_mid, Nat.zero_add, cell_of_row _ _ _ _ T (0, 0) h]
  simpa using hu
theorem one_items (x : Item) : ∀ u ∈ x.map (Value.int .i64), u.oneCell' = true := by
  intro u hu
  obtain ⟨z, _, rfl⟩ := List.mem_map.1 hu
  rfl
/-- A row that is being made, from a block on; below it all lies as it lay. -/
structure SetSt (B : Nat) (W0 : World) (T : TypeId) (k : Nat) (o : List Item) (v : Value) (W : World) : Prop where
  row : W.ownsRow B T k v o.length (flatI o)
  lo : Below B W0 W
  sz : B ≤ W.heap.size
theorem SetSt.app {B : Nat} {W0 : World} {T : TypeId} {k : Nat} {o : List Item} {v v' : Value} {W w2 : World} {ob : Obj} {x : Item} (h : SetSt B W0 T k o v W) (hr : w2.ownsRow B T k v' (o.length + 1) (flatI o ++ x.map (Value.int .i64))) (hg : (W.alloc ob).grownBy w2 v.ownBlock) : SetSt B W0 T k (o ++ [x]) v' w2 :=
  have hg2 := World_grown_alloc hg
  ⟨by rw [flatI_app, flatI_one, List.length_append]; exact hr, h.lo.grown hg2 h.sz (own_block_ge h.row), Nat.le_trans h.sz hg2.size⟩
theorem SetSt.drewN {B : Nat} {W0 : World} {T : TypeId} {k : Nat} {o : List Item} {v : Value} {W : World} (h : SetSt B W0 T k o v W) (m : Nat) : SetSt B W0 T k o v (W.drewN m) := ⟨h.row, below_drewN' h.lo m, h.sz⟩
theorem SetSt.nil {B : Nat} {W0 : World} {T : TypeId} {k : Nat} (h : B ≤ W0.heap.size) : SetSt B W0 T k [] (.slice none 0 0) W0 := ⟨⟨by simp [flatI], .inl ⟨rfl, rfl⟩⟩, Below.refl _ _, h⟩
theorem own_formK {W : World} {base : Nat} {e : TypeId} {k : Nat} {v : Value} {n : Nat} {xs : List Value} (h : W.ownsRow base e k v n xs) : ∃ av cv, v = .slice av n cv := by
  rcases h.2 with ⟨rfl, hn⟩ | ⟨g, cap2, cur, rfl, _⟩
  · exact ⟨_, _, by rw [hn]⟩
  · exact ⟨_, _, rfl⟩
theorem own_low {W W' : World} {B n k : Nat} {T : TypeId} {v : Value} {xs : List Value} (h : W.ownsRow B T k v n xs) (hs : ∀ i, B ≤ i → W'.heap[i]? = W.heap[i]?) : W'.ownsRow B T k v n xs := by
  obtain ⟨e, h0⟩ := h
  refine ⟨e, ?_⟩
  rcases h0 with h0 | ⟨g, cap, cur, rfl, a1, a2, a3⟩
  · exact .inl h0
  · exact .inr ⟨g, cap, cur, rfl, a1, (hs g a1).trans a2, a3⟩
theorem infoH : (Tryz.prog.info? 71).map (fun i => (i.zero, i.size, i.bytes)) = some (some (.agg #[.int .i64 0, .int .i64 0, .int .i64 0, .int .i64 0]), 4, 32) := by kernel_rfl
theorem infoO : (Tryz.prog.info? 76).map (fun i => (i.zero, i.size, i.bytes)) = some (some (.agg #[.int .i64 0, .int .i64 0, .int .i64 0, .int .i64 0, .int .i64 0, .int .i64 0]), 6, 48) := by kernel_rfl
theorem infoS : (Tryz.prog.info? 73).map (fun i => (i.zero, i.size, i.bytes)) = some (some (.agg #[.int .i64 0, .int .i64 0, .int .i64 0]), 3, 24) := by kernel_rfl
theorem infoR : (Tryz.prog.info? 50).map (fun i => (i.zero, i.size, i.bytes)) = some (some (.agg #[.int .i64 0, .int .i64 0]), 2, 16) := by kernel_rfl
theorem room2 {n : Nat} (k : Nat) (hk : k ≤ 100) (h : n ≤ 1001) : n + 1 + 1 ≤ maxLen ∧ (n + 1 + 1) * k ≤ 140737488355328 := by
  refine ⟨by unfold maxLen; omega, ?_⟩
  have : (n + 1 + 1) * k ≤ 1003 * 100 := Nat.mul_le_mul (by omega) hk
  omega
/-- What an answer that is a book is. -/
def BookAns (w : World) (b : BookT) (e : Ending) (w' : World) : Prop := (∃ v, e = .returned (.agg (cellsB v b)) ∧ BookIn w' v b) ∧ Below w.heap.size w w'
end Go.Proofs.YtellifcjamedkaaGreat

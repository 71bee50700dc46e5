/- The contract of the document's May over files. -/
import Derived.Test.YtcedkilgfoiifaaDkSet
namespace Go.Proofs.Ytcedkilgfoiifaa
open Go.RowKit Base Base2

theorem nameAt_at {l : List FileT} {i : Nat} {f : FileT} (h : l[i]? = some f) : nameAt l i = f.1 := by
  unfold nameAt; rw [List.getD_eq_getElem?_getD, h]; rfl
theorem okAt_at {l : List FileT} {i : Nat} {f : FileT} (h : l[i]? = some f) : okAt l i = (namedS f.1 && decide (f.2.size ≠ 0) && (decide (i = 0) || ltB (nameAt l (i - 1)) f.1)) := by
  unfold okAt; rw [nameAt_at h, List.getD_eq_getElem?_getD, h]; rfl

set_option maxRecDepth 100000 in
set_option maxHeartbeats 4000000 in
theorem rmay10 (a : Option Addr) (l : List FileT) (cap : Nat) (w : World) (hr : FilesAt w a l) (hl : l.length ≤ maxLen) (hsz : ∀ f ∈ l, f.1.size ≤ maxLen ∧ f.2.size ≤ maxLen) :
    Calls Try.prog 10 #[.slice a l.length cap] w fun e w' => e = .returned (.bool (mayF l)) ∧ ∃ m, w' = w.drewN m := by
  unfold maxLen at hl
  obtain ⟨RES, hR⟩ : ∃ R, mayF l = R := ⟨_, rfl⟩
  rw [hR]
  by_cases hbig : 4096 < l.length
  · have : RES = false := by
      rw [← hR, Bool.eq_false_iff]
      intro h
      have := ((mayF_iff l).1 h).1
      omega
    subst this
    clear hR hr hsz
    have hb2 : (4096 : Int) < (l.length : Int) := by omega
    go_enter Try.func10, Try.ntmps10
    go_wp2
    go_ret
    exact ⟨rfl, 0, rfl⟩
  have hb2 : ¬ (4096 : Int) < (l.length : Int) := by omega
  have hb3 : l.length ≤ 4096 := by omega
  have HR := Lib.hid hR
  have HFL := Lib.hid hr
  have HSZ := Lib.hid hsz
  clear hR hr hsz hbig
  go_enter Try.func10, Try.ntmps10
  go_wp2
  go_loopw [3] (fun vi W => (∃ i : Nat, i ≤ l.length ∧ vi = .int .i64 (i : Int) ∧ (∀ j, j < i → okAt l j = true)) ∧ ∃ m, W = w.drewN m) (fun vi _ => l.length - (intOf vi).toNat)
  case atStart => exact ⟨⟨0, by omega, rfl, fun j hj => by omega⟩, 0, rfl⟩
  case round =>
    obtain ⟨⟨i, hi, rfl, hal⟩, m, hW⟩ := hrel
    have HW := Lib.hid hW
    have HAL := Lib.hid hal
    clear hal
    by_cases hlt : i < l.length
    · obtain ⟨b, off, rfl, hbw, hcells⟩ := HFL.out.some (by omega)
      have hBel : Below w.heap.size w wr := by rw [hW]; exact below_drews m
      have hc : ∀ (i : Nat) (f : FileT), l[i]? = some f → wr.cell? ⟨b, off + i * 2, none⟩ = Option.some (.string f.1) ∧ wr.cell? ⟨b, off + i * 2 + 1, none⟩ = Option.some (.string f.2) := fun i f hf =>
        ⟨(hBel.cell (p := ⟨b, off + i * 2, none⟩) hbw).trans (hcells i f hf).1, (hBel.cell (p := ⟨b, off + i * 2 + 1, none⟩) hbw).trans (hcells i f hf).2⟩
      obtain ⟨f, hf⟩ : ∃ f, l[i]? = Option.some f := ⟨l[i], by simp [hlt]⟩
      obtain ⟨c0, c1⟩ := hc i f hf
      obtain ⟨z1, z2⟩ := HSZ.out f (List.mem_of_getElem? hf)
      have hok := okAt_at hf
      have HNO := Lib.hid (fun h => mayF_no (l := l) hlt h)
      have HYES : Hid (okAt l i = true → ∀ j, j < i + 1 → okAt l j = true) := fun h j hj => by
        by_cases hji : j < i
        · exact HAL.out j hji
        · obtain rfl : j = i := by omega
          exact h
      unfold maxLen at z2
      obtain ⟨fn, fb⟩ := f
      dsimp only at c0 c1 z1 z2 hok
      clear hcells hW hBel
      cases kn : namedS fn with
      | false =>
        have HOK := Lib.hid (HR.out.symm.trans (HNO.out (by rw [hok, kn]; rfl)))
        have HNM : Hid (∀ W, Calls Try.prog 36 #[.string fn] W fun e w' => e = .returned (.bool false) ∧ w' = W) := fun W => by have h := rnamed34 fn W z1; rw [kn] at h; exact h.mono fun _ _ h => ⟨h.1, h.2.symm⟩
        clear hok hc hf z1
        go_upto_region 6 with (fail)
        go_quiet (first | (go_at_call 36; exact Calls.quiet_of_same (HNM.out _)))
        go_wp2
        go_ret
        exact ⟨by rw [HOK.out]; rfl, m + nq, by rw [HW.out, World.drewN_drewN]⟩
      | true =>
        have HNM : Hid (∀ W, Calls Try.prog 36 #[.string fn] W fun e w' => e = .returned (.bool true) ∧ w' = W) := fun W => by have h := rnamed34 fn W z1; rw [kn] at h; exact h.mono fun _ _ h => ⟨h.1, h.2.symm⟩
        by_cases kz : fb.size = 0
        · have HOK := Lib.hid (HR.out.symm.trans (HNO.out (by rw [hok, kn, kz]; rfl)))
          have g1 : ((fb.size : Int) == 0) = true := by rw [kz]; rfl
          clear hok hc hf z1
          go_upto_region 6 with (fail)
          go_quiet (first | (go_at_call 36; exact Calls.quiet_of_same (HNM.out _)))
          go_wp2
          go_ret
          exact ⟨by rw [HOK.out]; rfl, m + nq, by rw [HW.out, World.drewN_drewN]⟩
        · have g1 : ((fb.size : Int) == 0) = false := by rw [beq_eq_false_iff_ne]; omega
          have kd : decide (fb.size ≠ 0) = true := decide_eq_true kz
          by_cases h0 : i = 0
          · have HG := Lib.hid (HYES.out (by rw [hok, kn, kd, decide_eq_true h0]; rfl))
            have k0 : ¬ 0 < i := by omega
            have k1 : ¬ (0 : Int) < (i : Int) := by omega
            clear hok hc hf z1 h0
            go_upto_region 6 with (fail)
            go_quiet (first | (go_at_call 36; exact Calls.quiet_of_same (HNM.out _)))
            go_wp2
            go_roundw
            case rel => exact ⟨⟨i + 1, by omega, by go_num, HG.out⟩, m + nq, by rw [HW.out, World.drewN_drewN]⟩
            case measure => simp [intOf]; omega
          · obtain ⟨j, rfl⟩ : ∃ j, i = j + 1 := ⟨i - 1, by omega⟩
            obtain ⟨g, hg⟩ : ∃ g, l[j]? = Option.some g := ⟨l[j]'(by omega), by simp [show j < l.length by omega]⟩
            obtain ⟨p0, _⟩ := hc j g hg
            rw [Nat.add_sub_cancel, nameAt_at hg] at hok
            obtain ⟨gn, gb⟩ := g
            dsimp only at p0 hok
            have hj0 : decide (j + 1 = 0) = false := by simp
            rw [kn, kd, hj0] at hok
            cases kl : ltB gn fn with
            | true =>
              have HG := Lib.hid (HYES.out (by rw [hok, kl]; rfl))
              have g2 : Op.bytesLess gn.toList fn.toList = true := kl
              clear hok hc hf hg z1
              go_upto_region 6 with (fail)
              go_quiet (first | (go_at_call 36; exact Calls.quiet_of_same (HNM.out _)))
              go_wp2
              go_roundw
              case rel => exact ⟨⟨j + 1 + 1, by omega, by go_num, HG.out⟩, m + nq, by rw [HW.out, World.drewN_drewN]⟩
              case measure => simp [intOf]; omega
            | false =>
              have HOK := Lib.hid (HR.out.symm.trans (HNO.out (by rw [hok, kl]; rfl)))
              have g2 : Op.bytesLess gn.toList fn.toList = false := kl
              clear hok hc hf hg z1
              go_upto_region 6 with (fail)
              go_quiet (first | (go_at_call 36; exact Calls.quiet_of_same (HNM.out _)))
              go_wp2
              go_ret
              exact ⟨by rw [HOK.out]; rfl, m + nq, by rw [HW.out, World.drewN_drewN]⟩
    · have hie : i = l.length := by omega
      subst hie
      have HA := Lib.hid (HR.out.symm.trans (mayF_yes hb3 (fun j hj => HAL.out j hj)))
      clear hW
      go_wp2
      go_ret
      exact ⟨by rw [HA.out]; rfl, m, HW.out⟩
end Go.Proofs.Ytcedkilgfoiifaa

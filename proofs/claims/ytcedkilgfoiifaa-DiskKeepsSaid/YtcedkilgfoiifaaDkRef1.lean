/- Contracts of the document's Named, Used, Read over files. -/
import Derived.Test.YtcedkilgfoiifaaDkMath
import Derived.Test.YtcedkilgfoiifaaProg
import Derived.BigQuiet
namespace Go.Proofs.Ytcedkilgfoiifaa
open Go.RowKit Base Base2

theorem namedS_no {s : ByteArray} {i : Nat} (hi : i < s.size) (h : charOk s[i] = false) : namedS s = false := by
  unfold namedS
  have : s.data.toList.all charOk = false := by
    rw [List.all_eq_false]
    exact ⟨s[i], by rw [show s[i] = s.data.toList[i]'(by simpa using hi) from rfl]; exact List.getElem_mem _, by simp [h]⟩
  rw [this]; rfl
theorem namedS_all {s : ByteArray} (h : ∀ (j : Nat) (hj : j < s.size), charOk s[j] = true) : namedS s = (decide (1 ≤ s.size) && decide (s.size ≤ 16)) := by
  unfold namedS
  have : s.data.toList.all charOk = true := by
    rw [List.all_eq_true]
    intro c hc
    obtain ⟨j, hj, rfl⟩ := List.getElem_of_mem hc
    exact h j (by simpa using hj)
  rw [this]; rfl

set_option maxRecDepth 100000 in
set_option maxHeartbeats 2000000 in
theorem rnamed34 (s : ByteArray) (w : World) (hs : s.size ≤ maxLen) : Calls Try.prog 36 #[.string s] w fun e w' => e = .returned (.bool (namedS s)) ∧ w = w' := by
  unfold maxLen at hs
  obtain ⟨RES, hR⟩ : ∃ R, namedS s = R := ⟨_, rfl⟩
  rw [hR]
  have HR := Lib.hid hR
  clear hR
  go_enter Try.func36, Try.ntmps36
  go_wp2
  go_loopw [3] (fun vi W => ∃ i : Nat, i ≤ s.size ∧ vi = .int .i64 (i : Int) ∧ (∀ (j : Nat) (hj : j < s.size), j < i → charOk s[j] = true) ∧ W = w) (fun vi _ => s.size - (intOf vi).toNat)
  case atStart => exact ⟨0, by omega, rfl, fun j _ hj => by omega, rfl⟩
  case round =>
    obtain ⟨i, hi, rfl, hal, rfl⟩ := hrel
    by_cases hlt : i < s.size
    · have HAL := Lib.hid hal
      have HNO := Lib.hid (fun h => namedS_no hlt h)
      have HC : Hid (charOk s[i] = ((decide ((48 : Int) ≤ (s[i].toNat : Int)) && decide ((s[i].toNat : Int) ≤ 57)) || (decide ((97 : Int) ≤ (s[i].toNat : Int)) && decide ((s[i].toNat : Int) ≤ 122)))) := by
        show _ = _
        unfold charOk
        rw [show decide (48 ≤ s[i].toNat) = decide ((48 : Int) ≤ (s[i].toNat : Int)) from decide_eq_decide.2 (by omega), show decide (s[i].toNat ≤ 57) = decide ((s[i].toNat : Int) ≤ 57) from decide_eq_decide.2 (by omega),
          show decide (97 ≤ s[i].toNat) = decide ((97 : Int) ≤ (s[i].toNat : Int)) from decide_eq_decide.2 (by omega), show decide (s[i].toNat ≤ 122) = decide ((s[i].toNat : Int) ≤ 122) from decide_eq_decide.2 (by omega)]
      obtain ⟨c, hc⟩ : ∃ c : Int, (s[i].toNat : Int) = c := ⟨_, rfl⟩
      rw [hc] at HC
      have good : Hid (charOk s[i] = true → ∀ (j : Nat) (hj : j < s.size), j < i + 1 → charOk s[j] = true) := fun h j hj hji => by
        by_cases hji2 : j < i
        · exact HAL.out j hj hji2
        · obtain rfl : j = i := by omega
          exact h
      clear hal
      by_cases k1 : c < 48
      · have k2 : ¬ (48 : Int) ≤ c := by omega
        have k3 : ¬ (97 : Int) ≤ c := by omega
        have hk : charOk s[i] = false := by
          rw [HC.out]; simp only [Bool.or_eq_false_iff, Bool.and_eq_false_iff, decide_eq_false_iff_not]; omega
        have HN := Lib.hid (HR.out.symm.trans (HNO.out hk))
        clear hk
        go_wp2
        go_ret
        exact ⟨by rw [HN.out]; rfl, rfl⟩
      by_cases k2 : c ≤ 57
      · have k3 : (48 : Int) ≤ c := by omega
        have hk : charOk s[i] = true := by
          rw [HC.out]; simp only [Bool.or_eq_true, Bool.and_eq_true, decide_eq_true_eq]; omega
        have HG := Lib.hid (good.out hk)
        clear hk
        go_wp2
        go_roundw
        case rel => exact ⟨i + 1, by omega, by go_num, HG.out, by trivial⟩
        case measure => simp [intOf]; omega
      by_cases k4 : c < 97
      · have k5 : ¬ (97 : Int) ≤ c := by omega
        have hk : charOk s[i] = false := by
          rw [HC.out]; simp only [Bool.or_eq_false_iff, Bool.and_eq_false_iff, decide_eq_false_iff_not]; omega
        have HN := Lib.hid (HR.out.symm.trans (HNO.out hk))
        clear hk
        go_wp2
        go_ret
        exact ⟨by rw [HN.out]; rfl, rfl⟩
      by_cases k6 : c ≤ 122
      · have k7 : (97 : Int) ≤ c := by omega
        have hk : charOk s[i] = true := by
          rw [HC.out]; simp only [Bool.or_eq_true, Bool.and_eq_true, decide_eq_true_eq]; omega
        have HG := Lib.hid (good.out hk)
        clear hk
        go_wp2
        go_roundw
        case rel => exact ⟨i + 1, by omega, by go_num, HG.out, by trivial⟩
        case measure => simp [intOf]; omega
      have k7 : (97 : Int) ≤ c := by omega
      have hk : charOk s[i] = false := by
        rw [HC.out]; simp only [Bool.or_eq_false_iff, Bool.and_eq_false_iff, decide_eq_false_iff_not]; omega
      have HN := Lib.hid (HR.out.symm.trans (HNO.out hk))
      clear hk
      go_wp2
      go_ret
      exact ⟨by rw [HN.out]; rfl, rfl⟩
    · have hie : i = s.size := by omega
      subst hie
      have HA := Lib.hid (HR.out.symm.trans (namedS_all (fun j hj => hal j hj hj)))
      clear hal
      by_cases k1 : s.size = 0
      · have e : (decide (1 ≤ s.size) && decide (s.size ≤ 16)) = false := by simp [k1]
        have HB := Lib.hid (HA.out.trans e)
        clear e HA
        go_wp2
        go_ret
        exact ⟨by rw [HB.out]; rfl, rfl⟩
      · have k2 : (1 : Int) ≤ (s.size : Int) := by omega
        by_cases k3 : (s.size : Int) ≤ 16
        · have e : (decide (1 ≤ s.size) && decide (s.size ≤ 16)) = true := by simp; omega
          have HB := Lib.hid (HA.out.trans e)
          clear e HA k1
          go_wp2
          go_ret
          exact ⟨by rw [HB.out]; rfl, rfl⟩
        · have e : (decide (1 ≤ s.size) && decide (s.size ≤ 16)) = false := by simp; omega
          have HB := Lib.hid (HA.out.trans e)
          clear e HA k1
          go_wp2
          go_ret
          exact ⟨by rw [HB.out]; rfl, rfl⟩

/-- A row of files from an address on. -/
def FilesAt (W : World) (a : Option Addr) (l : List FileT) : Prop := l = [] ∨ ∃ b off, a = some ⟨b, off, none⟩ ∧ b < W.heap.size ∧ ∀ (i : Nat) (f : FileT), l[i]? = some f → W.cell? ⟨b, off + i * 2, none⟩ = some (.string f.1) ∧ W.cell? ⟨b, off + i * 2 + 1, none⟩ = some (.string f.2)
theorem FilesAt.below {W W' : World} {a : Option Addr} {l : List FileT} (h : FilesAt W a l) (hb : Below W.heap.size W W') : FilesAt W' a l := by
  rcases h with h | ⟨b, off, rfl, h1, h2⟩
  · exact .inl h
  · exact .inr ⟨b, off, rfl, Nat.lt_of_lt_of_le h1 hb.size, fun i f hi => ⟨(hb.cell (p := ⟨b, off + i * 2, none⟩) h1).trans (h2 i f hi).1, (hb.cell (p := ⟨b, off + i * 2 + 1, none⟩) h1).trans (h2 i f hi).2⟩⟩
theorem FilesAt.some {W : World} {a : Option Addr} {l : List FileT} (h : FilesAt W a l) (hl : 1 ≤ l.length) : ∃ b off, a = some ⟨b, off, none⟩ ∧ b < W.heap.size ∧ ∀ (i : Nat) (f : FileT), l[i]? = some f → W.cell? ⟨b, off + i * 2, none⟩ = some (.string f.1) ∧ W.cell? ⟨b, off + i * 2 + 1, none⟩ = some (.string f.2) := by
  rcases h with rfl | h
  · simp at hl
  · exact h

set_option maxRecDepth 100000 in
set_option maxHeartbeats 2000000 in
theorem rused11 (a : Option Addr) (l : List FileT) (cap : Nat) (w : World) (hr : FilesAt w a l) (hm : l.length ≤ maxLen) (hu : usedF l ≤ 1000000000000) :
    Calls Try.prog 11 #[.slice a l.length cap] w fun e w' => e = .returned (.int .i64 (usedF l : Int)) ∧ w = w' := by
  unfold maxLen at hm
  obtain ⟨RES, hR⟩ : ∃ R, usedF l = R := ⟨_, rfl⟩
  rw [hR]
  have HR := Lib.hid hR
  have HU := Lib.hid (fun i => usedF_take_le l i)
  go_enter Try.func11, Try.ntmps11
  go_wp2
  go_loopw [3, 4] (fun vn vi W => ∃ i : Nat, i ≤ l.length ∧ vn = .int .i64 (usedF (l.take i) : Int) ∧ vi = .int .i64 (i : Int) ∧ W = w) (fun _ vi _ => l.length - (intOf vi).toNat)
  case atStart => exact ⟨0, by omega, rfl, rfl, rfl⟩
  case round =>
    obtain ⟨i, hi, rfl, rfl, rfl⟩ := hrel
    by_cases hlt : i < l.length
    · obtain ⟨b, off, rfl, hbw, hcells⟩ := hr.some (by omega)
      obtain ⟨f, hf⟩ : ∃ f, l[i]? = Option.some f := ⟨l[i], by simp [hlt]⟩
      have c1 := (hcells i f hf).2
      have ht := usedF_take l i f hf
      have h1 := HU.out i
      have h2 := HU.out (i + 1)
      rw [hR] at h1 h2 hu
      obtain ⟨s0, hs0⟩ : ∃ z, usedF (l.take i) = z := ⟨_, rfl⟩
      obtain ⟨s1, hs1⟩ : ∃ z, usedF (l.take (i + 1)) = z := ⟨_, rfl⟩
      rw [hs0] at ht h1 ⊢
      rw [hs1] at ht h2
      have HS1 := Lib.hid hs1
      obtain ⟨fn, fb⟩ := f
      dsimp only at c1 ht
      have HT := Lib.hid ht
      have hfb : fb.size ≤ 1000000000000 := by omega
      clear hcells hf hs0 hs1 hr hR ht
      go_wp2
      go_roundw
      case rel => exact ⟨i + 1, by omega, by rw [HS1.out, HT.out]; go_num, by go_num, by trivial⟩
      case measure => simp [intOf]; omega
    · have hie : i = l.length := by omega
      subst hie
      rw [List.take_length, hR]
      clear hr hR
      go_wp2
      go_ret
      exact ⟨rfl, rfl⟩

set_option maxRecDepth 100000 in
set_option maxHeartbeats 2000000 in
theorem rread23 (a : Option Addr) (l : List FileT) (cap : Nat) (name : ByteArray) (w : World) (hr : FilesAt w a l) (hm : l.length ≤ maxLen) :
    Calls Try.prog 23 #[.slice a l.length cap, .string name] w fun e w' => e = .returned (.string (readF l name)) ∧ w = w' := by
  unfold maxLen at hm
  obtain ⟨RES, hR⟩ : ∃ R, readF l name = R := ⟨_, rfl⟩
  rw [hR]
  have HR := Lib.hid hR
  clear hR
  go_enter Try.func23, Try.ntmps23
  go_wp2
  go_loopw [5] (fun vi W => ∃ i : Nat, i ≤ l.length ∧ vi = .int .i64 (i : Int) ∧ (∀ j, j < i → ∀ g : FileT, l[j]? = some g → g.1 ≠ name) ∧ W = w) (fun vi _ => l.length - (intOf vi).toNat)
  case atStart => exact ⟨0, by omega, rfl, fun j hj => by omega, rfl⟩
  case round =>
    obtain ⟨i, hi, rfl, hne, rfl⟩ := hrel
    by_cases hlt : i < l.length
    · obtain ⟨b, off, rfl, hbw, hcells⟩ := hr.some (by omega)
      obtain ⟨f, hf⟩ : ∃ f, l[i]? = Option.some f := ⟨l[i], by simp [hlt]⟩
      obtain ⟨c0, c1⟩ := hcells i f hf
      by_cases hn : f.1 = name
      · have HA := Lib.hid (HR.out.symm.trans (readF_at hf hn hne))
        obtain ⟨fn, fb⟩ := f
        dsimp only at c0 c1 hn HA
        subst hn
        clear hcells hf hr hne
        go_wp2
        go_ret
        exact ⟨by rw [HA.out]; rfl, rfl⟩
      · have HN : Hid (∀ j, j < i + 1 → ∀ g : FileT, l[j]? = Option.some g → g.1 ≠ name) := fun j hj g hg => by
          by_cases hji : j < i
          · exact hne j hji g hg
          · obtain rfl : j = i := by omega
            rw [hf] at hg
            obtain rfl := Option.some.inj hg
            exact hn
        have hb : (f.1.toList == name.toList) = false := by
          rw [beq_eq_false_iff_ne, ByteArray.toList_eq, ByteArray.toList_eq]
          intro h2; exact hn (by apply ByteArray.ext; exact Array.toList_inj.1 h2)
        obtain ⟨fn, fb⟩ := f
        dsimp only at c0 c1 hb
        clear hcells hf hr hne hn
        go_wp2
        go_roundw
        case rel => exact ⟨i + 1, by omega, by go_num, HN.out, by trivial⟩
        case measure => simp [intOf]; omega
    · have hie : i = l.length := by omega
      subst hie
      have HA := Lib.hid (HR.out.symm.trans (readF_none (fun j g hg => hne j (List.getElem?_eq_some_iff.1 hg).1 g hg)))
      clear hr hne
      go_wp2
      go_ret
      exact ⟨by rw [HA.out]; rfl, rfl⟩
end Go.Proofs.Ytcedkilgfoiifaa

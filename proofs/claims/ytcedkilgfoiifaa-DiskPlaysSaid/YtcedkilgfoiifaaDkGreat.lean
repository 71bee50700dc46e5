/- The contract of the law's Great over files. -/
import Derived.Test.YtcedkilgfoiifaaDkSet
namespace Go.Proofs.Ytcedkilgfoiifaa
open Go.RowKit Base Base2

/-- How much statements look at. -/
def lookF (f : FileT) : Nat := min f.2.size 10000 + min f.1.size 100
def looksF (l : List FileT) : Nat := (l.map lookF).sum
def greatF (l : List FileT) : Bool := decide (60 < l.length) || decide (6000 < looksF l)
theorem looksF_take (l : List FileT) (i : Nat) (f : FileT) (h : l[i]? = some f) : looksF (l.take (i + 1)) = looksF (l.take i) + lookF f := by
  rw [List.take_add_one, h]; simp [looksF]
theorem looksF_le (l : List FileT) : looksF l ≤ 10100 * l.length := by
  induction l with
  | nil => simp [looksF]
  | cons f l ih =>
    have e : looksF (f :: l) = lookF f + looksF l := by simp [looksF]
    have : lookF f ≤ 10100 := by unfold lookF; omega
    rw [e, List.length_cons]; omega
theorem greatF_no {l : List FileT} (h : greatF l = false) : l.length ≤ 60 ∧ looksF l ≤ 6000 := by
  unfold greatF at h
  rw [Bool.or_eq_false_iff, decide_eq_false_iff_not, decide_eq_false_iff_not] at h
  omega

set_option maxRecDepth 100000 in
set_option maxHeartbeats 4000000 in
theorem great7F (a : Option Addr) (l : List FileT) (cap : Nat) (w : World) (hr : FilesAt w a l) (hl : l.length ≤ maxLen) (hsz : ∀ f ∈ l, f.1.size ≤ maxLen ∧ f.2.size ≤ maxLen) :
    Calls Try.prog 7 #[.slice a l.length cap] w fun e w' => e = .returned (.bool (greatF l)) ∧ ∃ m, w' = w.drewN m := by
  unfold maxLen at hl
  by_cases hbig : (60 : Int) < (l.length : Int)
  · have hg : greatF l = true := by unfold greatF; rw [decide_eq_true (by omega)]; rfl
    rw [hg]
    clear hr hsz hg
    go_enter Try.func7, Try.ntmps7
    go_wp2
    go_ret
    exact ⟨rfl, 0, rfl⟩
  have hl60 : l.length ≤ 60 := by omega
  have HG : Hid (greatF l = decide (6000 < looksF l)) := by
    show _ = _
    unfold greatF; rw [decide_eq_false (by omega)]; rfl
  have HFL := Lib.hid hr
  have HSZ := Lib.hid hsz
  clear hr hsz
  go_enter Try.func7, Try.ntmps7
  go_wp2
  go_loopw [3, 4] (fun vn vi W => (∃ i : Nat, i ≤ l.length ∧ vn = .int .i64 (looksF (l.take i) : Int) ∧ vi = .int .i64 (i : Int)) ∧ ∃ m, W = w.drewN m) (fun _ vi _ => l.length - (intOf vi).toNat)
  case atStart => exact ⟨⟨0, by omega, rfl, rfl⟩, 0, rfl⟩
  case round =>
    obtain ⟨⟨i, hi, rfl, rfl⟩, m, hW⟩ := hrel
    have HW := Lib.hid hW
    have hle := looksF_le (l.take i)
    rw [List.length_take, Nat.min_eq_left hi] at hle
    by_cases hlt : i < l.length
    · obtain ⟨b, off, rfl, hbw, hcells⟩ := HFL.out.some (by omega)
      have hBel : Below w.heap.size w wr := by rw [hW]; exact below_drews m
      obtain ⟨f, hf⟩ : ∃ f, l[i]? = Option.some f := ⟨l[i], by simp [hlt]⟩
      have c0 := (hBel.cell (p := ⟨b, off + i * 2, none⟩) hbw).trans (hcells i f hf).1
      have c1 := (hBel.cell (p := ⟨b, off + i * 2 + 1, none⟩) hbw).trans (hcells i f hf).2
      obtain ⟨z1, z2⟩ := HSZ.out f (List.mem_of_getElem? hf)
      have HT := Lib.hid (looksF_take l i f hf)
      obtain ⟨s0, hs0⟩ : ∃ z, looksF (l.take i) = z := ⟨_, rfl⟩
      rw [hs0] at hle HT ⊢
      obtain ⟨fn, fb⟩ := f
      unfold lookF at HT
      dsimp only at c0 c1 z1 z2 HT
      unfold maxLen at z1 z2
      have h0 : s0 ≤ 1000000 := by omega
      obtain ⟨x, hx⟩ : ∃ x, min fb.size 10000 = x := ⟨_, rfl⟩
      obtain ⟨y, hy⟩ : ∃ y, min fn.size 100 = y := ⟨_, rfl⟩
      have hx2 : x ≤ 10000 := by omega
      have hy2 : y ≤ 100 := by omega
      have hxi : min (fb.size : Int) 10000 = (x : Int) := by omega
      have hyi : min (fn.size : Int) 100 = (y : Int) := by omega
      rw [hx, hy] at HT
      clear hcells hW hBel hf hs0 hx hy hle
      go_upto_region 7 with (fail)
      go_quiet (fail)
      go_wp2
      go_roundw
      case rel => exact ⟨⟨i + 1, by omega, by rw [HT.out]; go_num, by go_num⟩, m + nq, by rw [HW.out, World.drewN_drewN]⟩
      case measure => simp [intOf]; omega
    · have hie : i = l.length := by omega
      subst hie
      rw [List.take_length] at hle ⊢
      obtain ⟨s0, hs0⟩ : ∃ z, looksF l = z := ⟨_, rfl⟩
      rw [hs0] at hle HG ⊢
      have HGG : Hid (greatF l = decide ((6000 : Int) < (s0 : Int))) := by show _ = _; rw [HG.out]; exact decide_eq_decide.2 (by omega)
      clear hW hs0
      go_wp2
      go_ret
      exact ⟨by rw [HGG.out]; rfl, m, HW.out⟩
end Go.Proofs.Ytcedkilgfoiifaa

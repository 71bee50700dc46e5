/- Rows of texts in memory; the contracts of sides, refusal, Great, Same. -/
import Derived.Test.YtbaajabiimckoaaTreeSplit
import Derived.Deep.Strs
import Derived.BigQuiet
import Derived.Laws.OwnMore
namespace Go.Proofs.Ytbaajabiimckoaa
open Go.RowKit

/-- A row of texts from an address on. -/
def StrsAt (W : World) (a : Option Addr) (l : List ByteArray) : Prop := l = [] ∨ ∃ b off, a = some ⟨b, off, none⟩ ∧ b < W.heap.size ∧ ∀ i t, l[i]? = some t → W.cell? ⟨b, off + i, none⟩ = some (.string t)
theorem StrsAt.below {W W' : World} {a : Option Addr} {l : List ByteArray} (h : StrsAt W a l) (hb : Below W.heap.size W W') : StrsAt W' a l := by
  rcases h with h | ⟨b, off, rfl, h1, h2⟩
  · exact .inl h
  · exact .inr ⟨b, off, rfl, Nat.lt_of_lt_of_le h1 hb.size, fun i t hi => (hb.cell (p := ⟨b, off + i, none⟩) h1).trans (h2 i t hi)⟩
theorem StrsAt.some {W : World} {a : Option Addr} {l : List ByteArray} (h : StrsAt W a l) (hl : 1 ≤ l.length) : ∃ b off, a = some ⟨b, off, none⟩ ∧ b < W.heap.size ∧ ∀ i t, l[i]? = some t → W.cell? ⟨b, off + i, none⟩ = some (.string t) := by
  rcases h with rfl | h
  · simp at hl
  · exact h
theorem StrsAt.take {W : World} {b off : Nat} {l : List ByteArray} (h : StrsAt W (Option.some ⟨b, off, none⟩) l) (s : Nat) : StrsAt W (Option.some ⟨b, off, none⟩) (l.take s) := by
  rcases h with rfl | ⟨b', off', e, h1, h2⟩
  · exact .inl (by simp)
  · simp only [Option.some.injEq, Addr.mk.injEq, and_true] at e
    obtain ⟨rfl, rfl⟩ := e
    refine .inr ⟨b, off, rfl, h1, fun i t hi => h2 i t ?_⟩
    rw [List.getElem?_take] at hi
    by_cases hs : i < s
    · rwa [if_pos hs] at hi
    · rw [if_neg hs] at hi; cases hi
theorem StrsAt.drop {W : World} {b off : Nat} {l : List ByteArray} (h : StrsAt W (Option.some ⟨b, off, none⟩) l) (s : Nat) : StrsAt W (Option.some ⟨b, off + s, none⟩) (l.drop s) := by
  rcases h with rfl | ⟨b', off', e, h1, h2⟩
  · exact .inl (by simp)
  · simp only [Option.some.injEq, Addr.mk.injEq, and_true] at e
    obtain ⟨rfl, rfl⟩ := e
    refine .inr ⟨b, off + s, rfl, h1, fun i t hi => ?_⟩
    rw [List.getElem?_drop] at hi
    rw [Nat.add_assoc]
    exact h2 _ t hi

theorem sizeS (W : World) : (sizeOf 9).run Try.prog W = .ok 1 W := by kernel_rfl

/-- Why there is no tree. -/
def refS (len : Nat) (n : Int) : Int := if 1 ≤ n ∧ n ≤ 32 then (if 4096 < len then 4 else 0) else 1
theorem refS_arg {len : Nat} {n : Int} (h : ¬ (1 ≤ n ∧ n ≤ 32)) : refS len n = 1 := by unfold refS; rw [if_neg h]
theorem refS_many {len : Nat} {n : Int} (h : 1 ≤ n ∧ n ≤ 32) (h2 : 4096 < len) : refS len n = 4 := by unfold refS; rw [if_pos h, if_pos h2]
theorem refS_ok {len : Nat} {n : Int} (h : 1 ≤ n ∧ n ≤ 32) (h2 : ¬ 4096 < len) : refS len n = 0 := by unfold refS; rw [if_pos h, if_neg h2]
/-- Are leaves more than statements look at? -/
def greatS (l : List ByteArray) : Bool := decide (40 < l.length) || l.any (fun t => decide (200 < t.size))
theorem greatS_no {l : List ByteArray} (h : greatS l = false) : l.length ≤ 40 ∧ ∀ t ∈ l, t.size ≤ 200 := by
  unfold greatS at h
  simp only [Bool.or_eq_false_iff, decide_eq_false_iff_not, List.any_eq_false, decide_eq_true_eq] at h
  exact ⟨by omega, fun t ht => by have := h.2 t ht; omega⟩
theorem greatS_far {l : List ByteArray} (h : 40 < l.length) : greatS l = true := by unfold greatS; rw [decide_eq_true h]; rfl
theorem greatS_at {l : List ByteArray} {i : Nat} {t : ByteArray} (h : l[i]? = some t) (h2 : 200 < t.size) : greatS l = true := by
  unfold greatS
  rw [Bool.or_eq_true]
  exact .inr (List.any_eq_true.2 ⟨t, List.mem_of_getElem? h, by simpa using h2⟩)
theorem greatS_small {l : List ByteArray} (h : l.length ≤ 40) (h2 : ∀ (i : Nat) t, l[i]? = some t → t.size ≤ 200) : greatS l = false := by
  unfold greatS
  rw [Bool.or_eq_false_iff]
  refine ⟨by simpa using h, List.any_eq_false.2 fun t ht => ?_⟩
  obtain ⟨i, hi⟩ := List.mem_iff_getElem?.1 ht
  have := h2 i t hi
  simp; omega

theorem great7 (a : Option Addr) (l : List ByteArray) (cap : Nat) (w : World) (hr : StrsAt w a l) (_hcap : l.length ≤ cap) : Calls Try.prog 15 #[.slice a l.length cap] w fun e w' => e = .returned (.bool (greatS l)) ∧ w = w' := by
  obtain ⟨n, hn⟩ : ∃ n, l.length = n := ⟨_, rfl⟩
  rw [hn]
  by_cases hbig : (n : Int) > 40
  · rw [greatS_far (by omega)]
    clear hr
    go_enter Try.func15, Try.ntmps15
    go_wp2
    go_ret
    exact ⟨rfl, rfl⟩
  · obtain ⟨v, hv⟩ : ∃ v, greatS l = v := ⟨_, rfl⟩
    rw [hv]
    have HR := Lib.hid hr; have HN := Lib.hid hn; have HV := Lib.hid hv
    clear hr hn hv
    go_enter Try.func15, Try.ntmps15
    go_upto_region 4 with (fail)
    go_loop [3] (fun v => ∃ i : Nat, i ≤ n ∧ v = .int .i64 (i : Int) ∧ ∀ j t, j < i → l[j]? = some t → t.size ≤ 200) (fun v => n - (intOf v).toNat)
    case atStart => exact ⟨0, by omega, rfl, fun j t hj => absurd hj (by omega)⟩
    case round =>
      obtain ⟨i, hi, rfl, hsz⟩ := hrel
      have HSZ := Lib.hid hsz
      clear hsz
      by_cases hlt : (i : Int) < (n : Int)
      · obtain ⟨b, off, rfl, hbw, hcell⟩ := HR.out.some (by rw [HN.out]; omega)
        obtain ⟨t, ht⟩ : ∃ t, l[i]? = some t := ⟨_, List.getElem?_eq_getElem (by rw [HN.out]; omega)⟩
        have c1 := hcell i t ht
        have HT := Lib.hid ht
        clear hcell ht
        by_cases h200 : (t.size : Int) > 200
        · have e : v = true := by rw [← HV.out]; exact greatS_at HT.out (by omega)
          subst e
          go_wp2
          go_ret
          exact ⟨rfl, rfl⟩
        · go_wp2
          go_round
          case rel =>
            refine ⟨i + 1, by omega, by go_num, fun j u hj hu => ?_⟩
            by_cases hji : j = i
            · subst hji; rw [HT.out] at hu; cases hu; omega
            · exact HSZ.out j u (by omega) hu
          case measure => simp [intOf]; omega
      · have e : v = false := by
          rw [← HV.out]
          refine greatS_small (by rw [HN.out]; omega) fun j u hu => HSZ.out j u ?_ hu
          have := (List.getElem?_eq_some_iff.1 hu).1
          rw [HN.out] at this; omega
        subst e
        go_wp2
        go_ret
        exact ⟨rfl, rfl⟩

/-- Two rows of the same texts. -/
theorem same12 (a b : Option Addr) (l : List ByteArray) (ca cb : Nat) (w : World) (hr : StrsAt w a l) (hq : StrsAt w b l) (hn : l.length ≤ 60000) :
    Calls Try.prog 14 #[.slice a l.length ca, .slice b l.length cb] w fun e w' => e = .returned (.bool true) ∧ ∃ m, w' = w.drewN m := by
  obtain ⟨n, e⟩ : ∃ n, l.length = n := ⟨_, rfl⟩
  rw [e] at hn ⊢
  have hn60 := hn
  clear hn
  have hn := e
  clear e
  have HR := Lib.hid hr; have HQ := Lib.hid hq; have HN := Lib.hid hn
  clear hr hq hn
  go_enter Try.func14, Try.ntmps14
  go_upto_region 4 with (fail)
  go_loopw [5] (fun v W => (∃ i : Nat, i ≤ n ∧ v = .int .i64 (i : Int)) ∧ ∃ m, W = w.drewN m) (fun v _ => n - (intOf v).toNat)
  case atStart => exact ⟨⟨0, by omega, rfl⟩, 0, rfl⟩
  case round =>
    obtain ⟨⟨i, hi, rfl⟩, m, rfl⟩ := hrel
    by_cases hlt : (i : Int) < (n : Int)
    · obtain ⟨b, off, rfl, hbw, hcell⟩ := HR.out.some (by rw [HN.out]; omega)
      obtain ⟨b2, off2, rfl, hbw2, hcell2⟩ := HQ.out.some (by rw [HN.out]; omega)
      obtain ⟨t, ht⟩ : ∃ t, l[i]? = some t := ⟨_, List.getElem?_eq_getElem (by rw [HN.out]; omega)⟩
      have c1 := hcell i t ht
      have c2 := hcell2 i t ht
      clear hcell hcell2 ht
      go_upto_region 6 with (fail)
      go_quiet (fail)
      go_wp2
      go_roundw
      case rel => exact ⟨⟨i + 1, by omega, by go_num⟩, m + nq, rfl⟩
      case measure => simp [intOf]; omega
    · go_wp2
      go_ret
      exact ⟨rfl, m, rfl⟩
end Go.Proofs.Ytbaajabiimckoaa

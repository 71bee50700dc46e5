/- The contracts of the document's Put and Same. -/
import Derived.Test.YtellifcjamedkaaClRef1
import Derived.BigQuiet
import Derived.StillTailTactics
import Derived.Deep.RegionHeld3
namespace Go.Proofs.Ytellifcjamedkaa
open Go.RowKit Base Base2

def encRB (r : List RunT) : ByteArray := ⟨(encR r).toArray⟩
theorem encRB_snoc (r : List RunT) (d : Int) (k : Nat) : encRB (r ++ [(d, k)]) = encRB r ++ M.encB (M.zig d).toNat ++ M.encB k := by
  unfold encRB
  rw [encR_app]
  apply ByteArray.ext
  simp [encR, M.encB]
theorem encRB_len (r : List RunT) : (encRB r).size ≤ 20 * r.length := by
  have := encR_len r
  simpa [encRB, ByteArray.size] using this
theorem putB_app (l : List Int) : putB l = M.encB l.length ++ encRB (runsS l) := by
  unfold putB putL encRB M.encB
  apply ByteArray.ext; simp

set_option maxRecDepth 100000 in
set_option maxHeartbeats 4000000 in
/-- Of two rows of numbers: whether they are alike. -/
theorem rsame12 (a b : Option Addr) (l m : List Int) (c d : Nat) (w : World) (ha : I64s w a l) (hb : I64s w b m) (hl : l.length ≤ 1000000) :
    Calls Try.prog 24 #[.slice a l.length c, .slice b m.length d] w fun e w' => e = .returned (.bool (decide (l = m))) ∧ ∃ k, w' = w.drewN k := by
  by_cases hlen : l.length = m.length
  · have hl1 : ((l.length : Int) != (m.length : Int)) = false := by simp [hlen]
    have HA := Lib.hid ha
    have HB := Lib.hid hb
    obtain ⟨RES, hR⟩ : ∃ r, decide (l = m) = r := ⟨_, rfl⟩
    have HR := Lib.hid hR
    rw [hR]
    have HL := Lib.hid hlen
    clear ha hb hR hlen
    go_enter Try.func24, Try.ntmps24
    go_wp2
    go_loopw [5] (fun vi W => ∃ i : Nat, i ≤ l.length ∧ vi = .int .i64 (i : Int) ∧ l.take i = m.take i ∧ ∃ k, W = w.drewN k) (fun vi _ => l.length - (intOf vi).toNat)
    case atStart => exact ⟨0, by omega, rfl, rfl, 0, rfl⟩
    case round =>
      obtain ⟨i, hi, rfl, htk, k, hW⟩ := hrel
      have hbw : Below w.heap.size w wr := by rw [hW]; exact below_drews k
      by_cases hlt : i < l.length
      · have hlm : i < m.length := by have := HL.out; omega
        rcases HA.out.below hbw with h | ⟨b1, o1, rfl, h1, hc1⟩
        · rw [h] at hlt; simp at hlt
        rcases HB.out.below hbw with h | ⟨b2, o2, rfl, h2, hc2⟩
        · rw [h] at hlm; simp at hlm
        obtain ⟨x, hx⟩ : ∃ x, l[i]? = Option.some x := ⟨l[i], by simp [hlt]⟩
        obtain ⟨y, hy⟩ : ∃ y, m[i]? = Option.some y := ⟨m[i], by simp [hlm]⟩
        have c1 := hc1 i x hx
        have c2 := hc2 i y hy
        have t1 : l.take (i + 1) = l.take i ++ [x] := by rw [List.take_add_one, hx]; rfl
        have t2 : m.take (i + 1) = m.take i ++ [y] := by rw [List.take_add_one, hy]; rfl
        have HW := Lib.hid hW
        by_cases hxy : x = y
        · have gxy : (x != y) = false := by simp [hxy]
          have HT : Hid (l.take (i + 1) = m.take (i + 1)) := by show _ = _; rw [t1, t2, htk, hxy]
          clear hc1 hc2 hx hy t1 t2 htk hxy hW hbw
          go_upto_region 6 with (fail)
          go_quiet (fail)
          go_wp2
          go_roundw
          case rel => exact ⟨i + 1, by omega, by go_num, HT.out, k + nq, by rw [HW.out, World.drewN_drewN]⟩
          case measure => simp [intOf]; omega
        · have gxy : (x != y) = true := by simpa using hxy
          have hz : RES = false := by
            rw [← HR.out]
            apply decide_eq_false
            intro e
            rw [e, hy] at hx
            exact hxy (Option.some.inj hx).symm
          subst hz
          clear hc1 hc2 hx hy t1 t2 htk hxy hW hbw
          go_upto_region 6 with (fail)
          go_quiet (fail)
          go_wp2
          go_ret
          exact ⟨rfl, k + nq, by rw [HW.out, World.drewN_drewN]⟩
      · have hie : i = l.length := by omega
        have hz : RES = true := by
          rw [← HR.out]
          apply decide_eq_true
          rw [hie, List.take_length, HL.out, List.take_length] at htk
          exact htk
        subst hz
        subst hie
        clear htk hlt hi
        have HW := Lib.hid hW
        clear hW hbw
        go_wp2
        go_ret
        exact ⟨rfl, k, HW.out⟩
  · have hl1 : ((l.length : Int) != (m.length : Int)) = true := by simp; omega
    rw [decide_eq_false (fun e => hlen (by rw [e]))]
    clear hlen ha hb
    go_enter Try.func24, Try.ntmps24
    go_wp2
    go_ret
    exact ⟨rfl, 0, rfl⟩
end Go.Proofs.Ytellifcjamedkaa

/- Columns: differences, runs, their bytes; plain. The contract of the document's Runs. The contracts of the document's Put and Same. -/
import Derived.Test.YtellifcjamedkaaGreatMNums
import Derived.Laws.BitsLemmas
import Derived.Test.YtellifcjamedkaaGreatBase2
import Derived.Laws.AppendOwn
import Derived.Laws.OwnMore
import Derived.WalkLawsBesides
import Derived.BigQuiet
import Derived.StillTailTactics
import Derived.Deep.RegionHeld3
namespace Go.Proofs.YtellifcjamedkaaGreat
open Go.RowKit
abbrev RunT := Int × Nat
def total : List RunT → Nat
  | [] => 0
  | p :: r => p.2 + total r
end Go.Proofs.YtellifcjamedkaaGreat
namespace Go.Proofs.YtellifcjamedkaaGreat
open Go.RowKit Base Base2
/-- A row of numbers. -/
def I64s (W : World) (a : Option Addr) (l : List Int) : Prop := l = [] ∨ ∃ b off, a = some ⟨b, off, none⟩ ∧ b < W.heap.size ∧ ∀ (i : Nat) (z : Int), l[i]? = some z → W.cell? ⟨b, off + i, none⟩ = some (.int .i64 z)
theorem I64s.below {W W' : World} {a : Option Addr} {l : List Int} (h : I64s W a l) (hb : Below W.heap.size W W') : I64s W' a l := by
  rcases h with h | ⟨b, off, rfl, h1, h2⟩
  · exact .inl h
  · exact .inr ⟨b, off, rfl, Nat.lt_of_lt_of_le h1 hb.size, fun i z hi => (hb.cell (p := ⟨b, off + i, none⟩) h1).trans (h2 i z hi)⟩
def flatR : List RunT → List Value
  | [] => []
  | p :: r => .int .i64 p.1 :: .int .i64 (p.2 : Int) :: flatR r
theorem flatR_app : ∀ (r s : List RunT), flatR (r ++ s) = flatR r ++ flatR s
  | [], _ => rfl
  | p :: r, s => by show _ :: _ :: flatR (r ++ s) = _; rw [flatR_app r s]; rfl
structure RunR (w : World) (r : List RunT) (v : Value) (W : World) : Prop where
  own : W.ownsRow w.heap.size 128 2 v r.length (flatR r)
  lo : Below w.heap.size w W
theorem RunR.nil (w W : World) (h : Below w.heap.size w W) : RunR w [] (.slice none 0 0) W := ⟨⟨rfl, .inl ⟨rfl, rfl⟩⟩, h⟩
theorem RunR.app {w W w2 : World} {r : List RunT} {v v' : Value} {d : Int} {o : Obj} (h : RunR w r v W) (ho : w2.ownsRow w.heap.size 128 2 v' (r.length + 1) (flatR r ++ [.int .i64 d, .int .i64 1])) (hg : (W.alloc o).grownBy w2 v.ownBlock) : RunR w (r ++ [(d, 1)]) v' w2 :=
  ⟨by rw [flatR_app, List.length_append]; exact ho, h.lo.grown (World_grown_alloc hg) h.lo.size (own_block_ge h.own)⟩
end Go.Proofs.YtellifcjamedkaaGreat
namespace Go.Proofs.YtellifcjamedkaaGreat
open Go.RowKit Base Base2
set_option maxRecDepth 100000 in
set_option maxHeartbeats 4000000 in
/-- Of two rows of numbers: whether they are alike. -/
theorem rsame12 (a b : Option Addr) (l m : List Int) (c d : Nat) (w : World) (ha : I64s w a l) (hb : I64s w b m) (hl : l.length ≤ 1000000) :
    Calls Tryz.prog 28 #[.slice a l.length c, .slice b m.length d] w fun e w' => e = .returned (.bool (decide (l = m))) ∧ ∃ k, w' = w.drewN k := by
  by_cases hlen : l.length = m.length
  · have hl1 : ((l.length : Int) != (m.length : Int)) = false := by simp [hlen]
    have HA := Lib.hid ha
    have HB := Lib.hid hb
    obtain ⟨RES, hR⟩ : ∃ r, decide (l = m) = r := ⟨_, rfl⟩
    have HR := Lib.hid hR
    rw [hR]
    have HL := Lib.hid hlen
    clear ha hb hR hlen
    go_enter Tryz.func28, Tryz.ntmps28
    go_wp2
    go_loopw [5] (fun vi W => ∃ i : Nat, i ≤ l.length ∧ vi = .int .i64 (i : Int) ∧ l.take i = m.take i ∧ ∃ k, W = w.drewN k) (fun vi _ => l.length - (intOf vi).toNat)
    case atStart => exact ⟨0, by omega, rfl, rfl, 0, rfl⟩
    case round =>
      obtain ⟨i, hi, rfl, htk, k, hW⟩ := hrel
      have hbw : Below w.heap.size w wr := by rw [hW]; exact below_drews k
      by_cases hlt : i < l.length
      · have hlm : i < m.length := by have := HL.out; omega
        rcases HA.out.below hbw with h | ⟨b1, o1, rfl, h1, hc1⟩
        · rw [h] at hlt; simp at hlt
        rcases HB.out.below hbw with h | ⟨b2, o2, rfl, h2, hc2⟩
        · rw [h] at hlm; simp at hlm
        obtain ⟨x, hx⟩ : ∃ x, l[i]? = Option.some x := ⟨l[i], by simp [hlt]⟩
        obtain ⟨y, hy⟩ : ∃ y, m[i]? = Option.some y := ⟨m[i], by simp [hlm]⟩
        have c1 := hc1 i x hx
        have c2 := hc2 i y hy
        have t1 : l.take (i + 1) = l.take i ++ [x] := by rw [List.take_add_one, hx]; rfl
        have t2 : m.take (i + 1) = m.take i ++ [y] := by rw [List.take_add_one, hy]; rfl
        have HW := Lib.hid hW
        by_cases hxy : x = y
        · have gxy : (x != y) = false := by simp [hxy]
          have HT : Hid (l.take (i + 1) = m.take (i + 1)) := by show _ = _; rw [t1, t2, htk, hxy]
          clear hc1 hc2 hx hy t1 t2 htk hxy hW hbw
          go_upto_region 6 with (fail)
          go_quiet (fail)
          go_wp2
          go_roundw
          case rel => exact ⟨i + 1, by omega, by go_num, HT.out, k + nq, by rw [HW.out, World.drewN_drewN]⟩
          case measure => simp [intOf]; omega
        · have gxy : (x != y) = true := by simpa using hxy
          have hz : RES = false := by
            rw [← HR.out]
            apply decide_eq_false
            intro e
            rw [e, hy] at hx
            exact hxy (Option.some.inj hx).symm
          subst hz
          clear hc1 hc2 hx hy t1 t2 htk hxy hW hbw
          go_upto_region 6 with (fail)
          go_quiet (fail)
          go_wp2
          go_ret
          exact ⟨rfl, k + nq, by rw [HW.out, World.drewN_drewN]⟩
      · have hie : i = l.length := by omega
        have hz : RES = true := by
          rw [← HR.out]
          apply decide_eq_true
          rw [hie, List.take_length, HL.out, List.take_length] at htk
          exact htk
        subst hz
        subst hie
        clear htk hlt hi
        have HW := Lib.hid hW
        clear hW hbw
        go_wp2
        go_ret
        exact ⟨rfl, k, HW.out⟩
  · have hl1 : ((l.length : Int) != (m.length : Int)) = true := by simp; omega
    rw [decide_eq_false (fun e => hlen (by rw [e]))]
    clear hlen ha hb
    go_enter Tryz.func28, Tryz.ntmps28
    go_wp2
    go_ret
    exact ⟨rfl, 0, rfl⟩
end Go.Proofs.YtellifcjamedkaaGreat

/- The contract of the document's Scan: all frames that stand, their rows and their sizes. -/
import Derived.Test.YtbaajabiimckoaaFrRef
namespace Go.Proofs.Ytbaajabiimckoaa
open Go.RowKit Base

def strLen : Value → Nat
  | .string s => s.size
  | _ => 0
theorem one_str (s : ByteArray) : ∀ u ∈ [Value.string s], u.oneCell' = true := by
  intro u hu; simp at hu; subst hu; rfl
theorem one_int (n : Int) : ∀ u ∈ [Value.int .i64 n], u.oneCell' = true := by
  intro u hu; simp at hu; subst hu; rfl
theorem infoS : (Try.prog.info? 9).map (fun i => (i.zero, i.size, i.bytes)) = some (some (.string ⟨#[]⟩), 1, 16) := by kernel_rfl
theorem infoI : (Try.prog.info? 3).map (fun i => (i.zero, i.size, i.bytes)) = some (some (.int .i64 0), 1, 8) := by kernel_rfl
/-- Two rows of elements of two kinds lie in two blocks. -/
theorem own_own_ne {W : World} {B B' n n' : Nat} {e e' : TypeId} {z z' : Nat} {v v' : Value} {xs xs' : List Value} (h : W.ownsRow B e z v n xs) (k : W.ownsRow B' e' z' v' n' xs') (he : e ≠ e') : v.ownBlock = none ∨ v.ownBlock ≠ v'.ownBlock := by
  rcases h.2 with ⟨rfl, _⟩ | ⟨g, cap, cur, rfl, _, hg, _⟩
  · exact .inl rfl
  · right
    rcases k.2 with ⟨rfl, _⟩ | ⟨g', cap', cur', rfl, _, hg', _⟩
    · simp [Value.ownBlock]
    · intro h2
      simp [Value.ownBlock] at h2
      subst h2
      rw [hg] at hg'
      simp only [Option.some.injEq, Obj.cells.injEq] at hg'
      exact he hg'.2.1
/-- While frames are told: what is left, the rows, the sizes. -/
structure ScanR (B : Nat) (w : World) (S cur : ByteArray) (L : List (ByteArray × Nat)) (v u : Value) (W : World) : Prop where
  all : scanS S = L ++ scanS cur
  len : L.length + cur.size ≤ S.size
  rows : W.ownsRow B 9 1 v L.length (L.map fun p => Value.string p.1)
  sizes : W.ownsRow B 3 1 u L.length (L.map fun p => Value.int .i64 (p.2 : Int))
  lo : Below B w W
  le : B ≤ W.heap.size
theorem ScanR.below {B : Nat} {w W W' : World} {S cur : ByteArray} {L : List (ByteArray × Nat)} {v u : Value} (h : ScanR B w S cur L v u W) (hb : Below W.heap.size W W') : ScanR B w S cur L v u W' :=
  ⟨h.all, h.len, own_below' h.rows hb, own_below' h.sizes hb, h.lo.trans (hb.mono h.le), Nat.le_trans h.le hb.size⟩
/-- One row more. -/
theorem ScanR.app1 {B : Nat} {w W W' : World} {S cur r : ByteArray} {L : List (ByteArray × Nat)} {v v' u : Value} (h : ScanR B w S cur L v u W) (_hr : W'.ownsRow B 9 1 v' (L.length + 1) (L.map (fun p => Value.string p.1) ++ [.string r])) (hg : (W.alloc (.cells #[.string r] 9)).grownBy W' v.ownBlock) :
    W'.ownsRow B 3 1 u L.length (L.map fun p => Value.int .i64 (p.2 : Int)) ∧ Below B w W' ∧ B ≤ W'.heap.size := by
  refine ⟨(h.sizes.alloc _).kept hg (own_own_ne (h.sizes.alloc (.cells #[.string r] 9)) (h.rows.alloc (.cells #[.string r] 9)) (by decide)), h.lo.grown (World_grown_alloc hg) h.le (own_block_ge h.rows), ?_⟩
  have := hg.size
  have := h.le
  simp at *
  omega

set_option maxRecDepth 100000 in
set_option maxHeartbeats 4000000 in
theorem rscan12 (S : ByteArray) (w : World) (hs : S.size ≤ 1000000) : Calls Try.prog 12 #[.string S] w fun e w' => (∃ v u, e = .returned (.tuple #[v, u]) ∧ w'.ownsRow w.heap.size 9 1 v (scanS S).length ((scanS S).map fun p => Value.string p.1) ∧ w'.ownsRow w.heap.size 3 1 u (scanS S).length ((scanS S).map fun p => Value.int .i64 (p.2 : Int))) ∧ Below w.heap.size w w' := by
  obtain ⟨i0, hi, hz0, hz1, hz2⟩ := info_parts infoS
  obtain ⟨j0, hj, hy0, hy1, hy2⟩ := info_parts infoI
  obtain ⟨B, hB⟩ : ∃ B, B = w.heap.size := ⟨_, rfl⟩
  rw [← hB]
  obtain ⟨RES, hRES⟩ : ∃ R, scanS S = R := ⟨_, rfl⟩
  rw [hRES]
  have HR := Lib.hid hRES
  have hst : ScanR B w S S [] (.slice none 0 0) (.slice none 0 0) w := ⟨rfl, by simp, ⟨rfl, .inl ⟨rfl, rfl⟩⟩, ⟨rfl, .inl ⟨rfl, rfl⟩⟩, Below.refl _ _, by omega⟩
  have HST := Lib.hid hst
  clear hst hRES hB
  go_enter Try.func12, Try.ntmps12
  go_wp2
  go_loopw [0, 4, 5] (fun c v u W => ∃ cur L, c = .string cur ∧ ScanR B w S cur L v u W) (fun c _ _ _ => strLen c)
  case atStart => exact ⟨S, [], rfl, HST.out⟩
  case round =>
    clear HST
    obtain ⟨cur, L, rfl, hC⟩ := hrel
    have hsz : cur.size ≤ 1000000 := by have := hC.len; omega
    have HN := Lib.hid (rnext10 cur wr hsz)
    have hnx := scanS_next cur
    have hok := nextS_ok cur
    have hall := hC.all
    obtain ⟨⟨row, k, er⟩, hq⟩ : ∃ q, nextS cur = q := ⟨_, rfl⟩
    rw [hq] at HN hnx hok
    simp only at hnx hok
    have HN2 : Hid (Calls Try.prog 10 #[.string cur] wr fun e w' => e = .returned (.tuple #[.string row, .int .i64 (k : Int), .int .i64 er]) ∧ Below wr.heap.size wr w') := HN.out
    have HC := Lib.hid hC
    by_cases he : er = 0
    · obtain ⟨k1, k2⟩ := hok he
      rw [if_pos he] at hnx
      rw [hnx] at hall
      have hlen := hC.len
      have hx : (cur.extract k cur.size).size = cur.size - k := by simp [ByteArray.size_extract]
      have HA : Hid (scanS S = (L ++ [(row, k)]) ++ scanS (cur.extract k cur.size)) := by show _ = _; rw [hall]; simp
      have HL : Hid ((L ++ [(row, k)]).length + (cur.extract k cur.size).size ≤ S.size) := by show _ ≤ _; rw [hx]; simp; omega
      have HM : Hid ((cur.extract k cur.size).size < cur.size) := by show _ < _; omega
      have hb : (er != 0) = false := by simpa using he
      have b1 : L.length + 1 ≤ maxLen := by unfold maxLen; omega
      have b2 : (L.length + 1) * 16 ≤ 140737488355328 := by omega
      have b3 : (L.length + 1) * 8 ≤ 140737488355328 := by omega
      have hkz : (k : Int) ≤ (cur.size : Int) := by omega
      clear hC hnx hok hall hlen hx he hq HN
      go_wp2_with (first
        | (go_at_call 10; refine HN2.out.mono ?_; rintro e w1 ⟨rfl, hb1⟩; have HC1 := Lib.hid (HC.out.below hb1); clear hb1)
        | (at_builtin; refine wpList_append_own _ rfl _ _ 30 rfl B 9 i0 (.string ⟨#[]⟩) 1 16 Try.underlying30 hi hz0 hz1 hz2 rfl (by decide) _ _ _ rfl (HC1.out.rows.alloc _) ⟨w1.heap.size, 0, none⟩ 1 1 [.string row] rfl rfl (new_one _ _ _) (one_str _) b1 b2 (by have := HC1.out.le; simp; omega) ?_; intro v' w2 hown' hgrow _; have HO2 := Lib.hid hown'; have HA2 := Lib.hid (HC1.out.app1 hown' hgrow); clear hown' hgrow)
        | (at_builtin; refine wpList_append_own _ rfl _ _ 33 rfl B 3 j0 (.int .i64 0) 1 8 Try.underlying33 hj hy0 hy1 hy2 rfl (by decide) _ _ _ rfl (HA2.out.1.alloc _) ⟨w2.heap.size, 0, none⟩ 1 1 [.int .i64 (k : Int)] rfl rfl (new_one _ _ _) (one_int _) b1 b3 (by have := HA2.out.2.2; simp; omega) ?_; intro u' w3 hown3 hgrow3 _; have HO3 := Lib.hid hown3; have HG3 := Lib.hid hgrow3; clear hown3 hgrow3))
      go_roundw
      case rel =>
        refine ⟨_, L ++ [(row, k)], rfl, HA.out, HL.out, ?_, ?_, HA2.out.2.1.grown (World_grown_alloc HG3.out) HA2.out.2.2 (own_block_ge HA2.out.1), ?_⟩
        · have := (HO2.out.alloc (.cells #[.int .i64 (k : Int)] 3)).kept HG3.out (own_own_ne (HO2.out.alloc (.cells #[.int .i64 (k : Int)] 3)) (HA2.out.1.alloc (.cells #[.int .i64 (k : Int)] 3)) (by decide))
          simpa using this
        · simpa using HO3.out
        · have := HG3.out.size; have := HA2.out.2.2; simp at *; omega
      case measure => exact HM.out
    · rw [if_neg he, ] at hnx
      rw [hnx, List.append_nil] at hall
      have hb : (er != 0) = true := by simpa using he
      have HA := Lib.hid (HR.out.symm.trans hall)
      clear hC hnx hok hall he hq HN HR
      go_wp2_with (go_at_call 10; refine HN2.out.mono ?_; rintro e w1 ⟨rfl, hb1⟩; have HC1 := Lib.hid (HC.out.below hb1); clear hb1)
      go_ret2
      rw [HA.out]
      exact ⟨⟨_, _, rfl, HC1.out.rows, HC1.out.sizes⟩, HC1.out.lo⟩
end Go.Proofs.Ytbaajabiimckoaa

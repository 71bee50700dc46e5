/- The contract of what writes the numbers that a row points to: their bytes, one behind the other. -/
import Derived.Test.YtnakmlnjfjgghaaDoorEvOf
import Derived.Test.YtnakmlnjfjgghaaDoorEvBuild
import Derived.Test.YtnakmlnjfjgghaaDoorEvMath
import Derived.Test.YtnakmlnjfjgghaaDoorShelf
import Derived.Laws.OwnMore
namespace Go.Proofs.YtnakmlnjfjgghaaDoor
open Go.RowKit Base

theorem is67_yes (W : World) (v : Value) : (Instr.typeAssert (.iface 67 v) 20 67 true).run Tryd.prog W = .ok (.tuple #[v, .bool true]) W := by kernel_rfl
theorem is67_no (W : World) (v : Value) : (Instr.typeAssert (.iface 72 v) 20 67 true).run Tryd.prog W = .ok (.tuple #[.pointer none, .bool false]) W := by kernel_rfl
theorem is72_yes (W : World) (v : Value) : (Instr.typeAssert (.iface 72 v) 20 72 true).run Tryd.prog W = .ok (.tuple #[v, .bool true]) W := by kernel_rfl

theorem isB_below {B b : Nat} {bs : List Value} {W W' : World} (h : Lib.IsBuilder 66 5 B b bs W) (hb : Below W.heap.size W W') : Lib.IsBuilder 66 5 B b bs W' := by
  rcases h with ⟨h1, v, h2, h3, h4⟩ | ⟨h1, v, h2, h3, h4⟩
  · exact .inl ⟨h1, v, (hb.block b (lt_of_blk h2)).trans h2, own_below' h3 hb, h4⟩
  · exact .inr ⟨h1, v, (hb.block b (lt_of_blk h2)).trans h2, own_below' h3 hb, h4⟩
theorem isB_new (w : World) : Lib.IsBuilder 66 5 w.heap.size w.heap.size [] (w.alloc (.cells #[.pointer none, .slice none 0 0] 66)) :=
  .inl ⟨Nat.le_refl _, .slice none 0 0, heap_alloc_new w _, ⟨rfl, .inl ⟨rfl, rfl⟩⟩, by simp [Value.ownBlock]⟩
theorem str_bytes (l : List Int) (k : Nat) (h : k < l.length) : Lib.byteCells (encL (l.take k)) ++ Lib.strCells (M.encB (M.zig l[k]).toNat) = Lib.byteCells (encL (l.take (k + 1))) := by
  rw [encL_snoc l k h, Lib.byteCells_append]; rfl
theorem pts_at (b n k : Nat) (h : k < n) : (pts b n)[k]? = some (pt (kd k) b k) := by simp [pts, h]
theorem kd_or (k : Nat) : kd k = 67 ∨ kd k = 72 := by unfold kd; split <;> simp
theorem num_cell {w : World} {b T : Nat} {l : List Int} (h : w.heap[b]? = some (.cells (l.map (Value.int .i64)).toArray T (0, 0))) (k : Nat) (hk : k < l.length) : w.cell? ⟨b, k, none⟩ = some (.int .i64 l[k]) := by
  rw [cell_of_row w b k _ T (0, 0) h]; simp [hk]
theorem below_cell {w W : World} {B g i : Nat} {v : Value} (hb : Below B w W) (hg : g < B) (h : w.cell? ⟨g, i, none⟩ = some v) : W.cell? ⟨g, i, none⟩ = some v := by
  have := hb.block g hg
  simp only [World.cell?] at h ⊢
  rw [this]; exact h

/-- What the loop holds: the first k numbers are written. -/
def PutRel (w : World) (l : List Int) (i : Value) (W : World) : Prop :=
  ∃ k : Nat, k ≤ l.length ∧ i = .int .i64 k ∧ Lib.IsBuilder 66 5 w.heap.size w.heap.size (Lib.byteCells (encL (l.take k))) W ∧ Below w.heap.size w W

set_option maxRecDepth 100000 in
set_option maxHeartbeats 2000000 in
theorem written23 (B g b n cap T : Nat) (l : List Int) (w : World) (hl : l.length = n) (hn : n ≤ 9) (hrow : w.ownsRow B 20 1 (.slice (some ⟨g, 0, none⟩) n cap) n (pts b n))
    (hb : w.heap[b]? = some (.cells (l.map (Value.int .i64)).toArray T (0, 0))) (hin : In64L l) :
    Calls Tryd.prog 23 #[.slice (some ⟨g, 0, none⟩) n cap] w fun e w' => e = .returned (.string (encS l)) ∧ Below w.heap.size w w' := by
  have hglt : g < w.heap.size := (hrow.lt g rfl).2
  have hblt : b < w.heap.size := lt_of_blk hb
  have HC := Lib.hid (fun (k : Nat) (hk : k < n) => (hrow.cellAt k (by omega)).trans (pts_at b n k hk))
  have HN := Lib.hid (fun (k : Nat) (hk : k < l.length) => num_cell hb k hk)
  have hst : PutRel w l (.int .i64 0) (w.alloc (.cells #[.pointer none, .slice none 0 0] 66)) :=
    ⟨0, by omega, rfl, isB_new w, (Below.refl _ w).alloc (Nat.le_refl _) _⟩
  clear hb hrow
  go_enter Tryd.func23, Tryd.ntmps23
  go_wp2
  go_loopw [10] (fun i W => PutRel w l i W) (fun i _ => l.length - (intOf i).toNat)
  case atStart => exact hst
  case round =>
    clear hst
    obtain ⟨k, hk, rfl, hB, hbl⟩ := hrel
    by_cases hlt : k < n
    · have hki : k < l.length := by omega
      have cl := below_cell hbl hglt (HC.out k hlt)
      have cn := below_cell hbl hblt (HN.out k hki)
      obtain ⟨x, hx⟩ : ∃ x, x = l[k] := ⟨_, rfl⟩
      rw [← hx] at cn
      have hxi : -9223372036854775808 ≤ x ∧ x ≤ 9223372036854775807 := by rw [hx]; exact hin _ (List.getElem_mem hki)
      have HI := Lib.hid (int10 x wr hxi.1 hxi.2)
      have hlen := encL_len (l.take k)
      have hz := encB_size (M.zig x).toNat
      have HW := Lib.hid (fun (W : World) (h : Lib.IsBuilder 66 5 w.heap.size w.heap.size (Lib.byteCells (encL (l.take k))) W) (h2 : w.heap.size ≤ W.heap.size) => write33 w.heap.size w.heap.size _ (M.encB (M.zig x).toNat) W h (by rw [Lib.byteCells_length]; simp at hlen; omega) h2)
      have HS := Lib.hid (str_bytes l k hki)
      rw [← hx] at HS
      have HB := Lib.hid hB; have HBL := Lib.hid hbl
      clear hB hbl hx hxi hlen hz hin
      rcases kd_or k with hk7 | hk7
      · rw [hk7] at cl
        unfold pt at cl
        have ty := is67_yes
        go_wp2_with (first
          | (go_at_call 34; refine HI.out.mono ?_; rintro e w1 ⟨rfl, hb1⟩; have HB1 := Lib.hid (isB_below HB.out hb1); have HL1 := Lib.hid (HBL.out.trans (hb1.mono HBL.out.size)); clear hb1)
          | (go_at_call 33; refine (HW.out _ HB1.out HL1.out.size).mono ?_; rintro e w2 ⟨rfl, hb2, hl2⟩; have HB2 := Lib.hid hb2; have HL2 := Lib.hid (HL1.out.trans hl2); clear hb2 hl2))
        go_roundw
        case rel => exact ⟨k + 1, by omega, by go_num, by rw [← HS.out]; exact .inr HB2.out, HL2.out⟩
        case measure => simp [intOf]; omega
      · rw [hk7] at cl
        unfold pt at cl
        have ty := is67_no
        have ty2 := is72_yes
        go_wp2_with (first
          | (go_at_call 34; refine HI.out.mono ?_; rintro e w1 ⟨rfl, hb1⟩; have HB1 := Lib.hid (isB_below HB.out hb1); have HL1 := Lib.hid (HBL.out.trans (hb1.mono HBL.out.size)); clear hb1)
          | (go_at_call 33; refine (HW.out _ HB1.out HL1.out.size).mono ?_; rintro e w2 ⟨rfl, hb2, hl2⟩; have HB2 := Lib.hid hb2; have HL2 := Lib.hid (HL1.out.trans hl2); clear hb2 hl2))
        go_roundw
        case rel => exact ⟨k + 1, by omega, by go_num, by rw [← HS.out]; exact .inr HB2.out, HL2.out⟩
        case measure => simp [intOf]; omega
    · have hkn : k = l.length := by omega
      rw [hkn, List.take_length] at hB
      have HG := Lib.hid (shBuilder_String_any w.heap.size w.heap.size (encL l) wr hB hbl.size)
      have HBL := Lib.hid hbl
      clear hB hbl HC HN hin
      go_wp2_with (go_at_call 35; refine HG.out.mono ?_; rintro e w1 ⟨rfl, hb1⟩; have HL1 := Lib.hid (HBL.out.trans hb1); clear hb1)
      go_ret
      exact ⟨rfl, HL1.out⟩
end Go.Proofs.YtnakmlnjfjgghaaDoor

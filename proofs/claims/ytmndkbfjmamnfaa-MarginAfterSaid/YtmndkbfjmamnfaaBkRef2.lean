/- The document's 'there', and the law's measure of a book: their contracts. -/
import Derived.Test.YtmndkbfjmamnfaaBkRef1
namespace Go.Proofs.Ytmndkbfjmamnfaa
open Go.RowKit Base Base2

theorem find_mem {p : Item → Bool} {l : List Item} {x : Item} (h : findL p l = some x) : x ∈ l := List.mem_of_find?_eq_some h
theorem valH_form {p : Item → Bool} {l : List Item} {m : Nat} (h : ItemsOk 4 m l) : ∃ a b c d, valH (findL p l) = .agg #[.int .i64 a, .int .i64 b, .int .i64 c, .int .i64 d] := by
  cases hf : findL p l with
  | none => exact ⟨0, 0, 0, 0, rfl⟩
  | some x =>
    obtain ⟨a, b, c, d, rfl⟩ := item4 (h.2 x (find_mem hf)).1
    exact ⟨a, b, c, d, rfl⟩
theorem info27 : (Try.prog.info? 27).map (·.size) = some 5 := by kernel_rfl
theorem load_book {W : World} {g : Nat} {v : Slots} {b : BookT} (h : BoxB W g v b) : (Instr.loadAt 27 (.pointer (some ⟨g, 0, none⟩))).run Try.prog W = .ok (.agg (cellsB v b)) W := by
  have := load_at (P := Try.prog) W g 0 27 (cellsB v b).toList _ (fun j u hu => ?_) Try.underlying27 rfl (by rw [info27]; rfl)
  · simpa using this
  · rw [Nat.zero_add, h.c j, ← Array.getElem?_toList]; exact hu

set_option maxRecDepth 100000 in
set_option maxHeartbeats 4000000 in
theorem there31 (v : Slots) (b : BookT) (acc sym : Int) (w : World) (hb : BookIn w v b) (hk : BookOk 2000 b) :
    Calls Try.prog 30 #[.agg (cellsB v b), .int .i64 acc, .int .i64 sym] w fun e w' => e = .returned (.bool (thereT b acc sym)) ∧ Below w.heap.size w w' := by
  obtain ⟨p, q, r, s, hv⟩ := valH_form (p := is1 acc) hk.hs
  have HH := Lib.hid (fun W hW => rholder18 v b acc W hW hk.hs)
  have HR := Lib.hid (fun W hW => rrate20 v b sym W hW hk.rs)
  rw [hv] at HH
  have HBI := Lib.hid (fun W (h : Below w.heap.size w W) => hb.below h)
  have HLB := Lib.hid (fun W (h : BoxB W w.heap.size v b) => load_book h)
  have HX := Lib.hid (BoxB.new w v b)
  have HLO := Lib.hid (show Below w.heap.size w (w.alloc (.cells (cellsB v b) 27)) from (Below.refl _ w).alloc (Nat.le_refl _) _)
  unfold thereT
  generalize (findL (is1 acc) b.hs).isSome = b1 at *
  generalize (findL (is1 sym) b.rs).isSome = b2 at *
  generalize valR (findL (is1 sym) b.rs) = z at *
  have HI := Lib.hid (show (Try.prog.info? 27).map (·.size) = some (cellsB v b).size from info27)
  obtain ⟨cb, hcb⟩ : ∃ c, cellsB v b = c := ⟨_, rfl⟩
  unfold BoxB at HX
  rw [hcb] at HH HR HLO HX HI ⊢
  clear hb hk hv HLB
  have HB0 := Lib.hid (HBI.out _ HLO.out)
  have hsz : w.heap.size < (w.alloc (.cells cb 27)).heap.size := by simp
  go_enter Try.func30, Try.ntmps30
  go_wp2_with (first
    | ((with_reducible refine atLoad (ty := 27) (x := .tmp 3) rfl ?_); refine wpList_load_row rfl 27 (.tmp 3) rfl w.heap.size rfl 27 cb (0, 0) _ HX2.out Try.underlying27 rfl HI.out ?_)
    | ((with_reducible refine atLoad (ty := 27) (x := .tmp 3) rfl ?_); refine wpList_load_row rfl 27 (.tmp 3) rfl w.heap.size rfl 27 cb (0, 0) _ HX.out Try.underlying27 rfl HI.out ?_)
    | (go_at_call 18; refine (HH.out _ HB0.out).mono ?_; rintro e w1 ⟨rfl, hb1⟩; have HB1 := Lib.hid (HLO.out.trans (hb1.mono HLO.out.size)); have HX1 := Lib.hid ((hb1.block _ hsz).trans HX.out); have HLT := Lib.hid (Nat.lt_of_lt_of_le hsz hb1.size); clear hb1)
    | ((with_reducible refine atStore (ty := 45) (x := .tmp 7) (y := .tmp 15) rfl ?_); refine wpList_store_row rfl 45 (.tmp 7) (.tmp 15) rfl w1.heap.size #[.int .i64 p, .int .i64 q, .int .i64 r, .int .i64 s] rfl rfl 45 #[.int .i64 0, .int .i64 0, .int .i64 0, .int .i64 0] (heap_alloc_new w1 _) info33 rfl (by simp [Value.oneCell']) ?_; have hbA : Below w1.heap.size w1 ((w1.alloc (.cells #[.int .i64 0, .int .i64 0, .int .i64 0, .int .i64 0] 45)).setRow w1.heap.size #[.int .i64 p, .int .i64 q, .int .i64 r, .int .i64 s]) := below_rowB ((Below.refl _ _).alloc (Nat.le_refl _) _) (Nat.le_refl _); have HX2 := Lib.hid ((hbA.block _ HLT.out).trans HX1.out); have HL2 := Lib.hid (HB1.out.trans (hbA.mono HB1.out.size)); have HB2 := Lib.hid (HBI.out _ HL2.out); clear hbA)
    | (go_at_call 32; refine (HR.out _ HB2.out).mono ?_; rintro e w3 ⟨rfl, hb3⟩; have HB3 := Lib.hid (HL2.out.trans (hb3.mono HL2.out.size)); clear hb3))
  all_goals go_ret
  all_goals exact ⟨ret_bool (by simp_all), HB3.out⟩
end Go.Proofs.Ytmndkbfjmamnfaa

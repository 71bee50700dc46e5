/- The document's Put of a book: the contract. -/
import Derived.Test.YtnhljfhpfpfniaaGreatSnColsW
import Derived.Test.YtnhljfhpfpfniaaGreatClRef2
import Derived.Test.YtnhljfhpfpfniaaGreatBkRef9
namespace Go.Proofs.YtnhljfhpfpfniaaGreat
open Go.RowKit Base Base2

def snapB (b : BookT) : ByteArray := ⟨(snapL b).toArray⟩
def colsB (cs : List (List Int)) : ByteArray := ⟨(putCols cs).toArray⟩
theorem snapB_app (b : BookT) : snapB b = M.encB b.co.toNat ++ colsB (colsT b) := by
  unfold snapB snapL colsB M.encB
  apply ByteArray.ext; simp
theorem colsB_next {cs : List (List Int)} {i : Nat} {c : List Int} (h : cs[i]? = some c) : colsB (cs.take (i + 1)) = colsB (cs.take i) ++ putB c := by
  unfold colsB putCols putB
  rw [List.take_add_one, h]
  apply ByteArray.ext; simp
theorem putB_len {l : List Int} {m : Nat} (h : l.length ≤ m) : (putB l).size ≤ 10 + 20 * m := by
  have h1 := encB_size l.length
  have h2 := encRB_len (runsS l)
  have h3 := runsS_len l
  rw [putB_app, ByteArray.size_append]
  omega
theorem colsB_len {cs : List (List Int)} {m : Nat} (h : ∀ c ∈ cs, c.length ≤ m) : ∀ i, i ≤ cs.length → (colsB (cs.take i)).size ≤ i * (10 + 20 * m)
  | 0, _ => by simp [colsB, putCols, ByteArray.size]
  | i + 1, hi => by
    obtain ⟨c, hc⟩ : ∃ c, cs[i]? = some c := ⟨cs[i], by simp [show i < cs.length by omega]⟩
    have ih := colsB_len h i (by omega)
    have hp := putB_len (h c (List.mem_of_getElem? hc))
    rw [colsB_next hc, ByteArray.size_append, Nat.add_mul, Nat.one_mul]
    omega
theorem cols_len {b : BookT} {m : Nat} (h : BookOk m b) : ∀ c ∈ colsT b, c.length ≤ m ∧ ∀ x ∈ c, in64 x := by
  have a1 := colT_in (l := b.hs) (fun x hx => (h.hs.2 x hx).2)
  have a2 := colT_in (l := b.ss) (fun x hx => (h.ss.2 x hx).2)
  have a3 := colT_in (l := b.os) (fun x hx => (h.os.2 x hx).2)
  have a4 := colT_in (l := b.rs) (fun x hx => (h.rs.2 x hx).2)
  have l1 : ∀ j, (colT j b.hs).length ≤ m := fun j => by have := h.hs.1; simpa [colT] using this
  have l2 : ∀ j, (colT j b.ss).length ≤ m := fun j => by have := h.ss.1; simpa [colT] using this
  have l3 : ∀ j, (colT j b.os).length ≤ m := fun j => by have := h.os.1; simpa [colT] using this
  have l4 : ∀ j, (colT j b.rs).length ≤ m := fun j => by have := h.rs.1; simpa [colT] using this
  intro c hc
  simp only [colsT, List.mem_cons, List.not_mem_nil, or_false] at hc
  rcases hc with rfl | rfl | rfl | rfl | rfl | rfl | rfl | rfl | rfl | rfl | rfl | rfl | rfl | rfl | rfl
  · exact ⟨l1 _, a1 _⟩
  · exact ⟨l1 _, a1 _⟩
  · exact ⟨l1 _, a1 _⟩
  · exact ⟨l1 _, a1 _⟩
  · exact ⟨l2 _, a2 _⟩
  · exact ⟨l2 _, a2 _⟩
  · exact ⟨l2 _, a2 _⟩
  · exact ⟨l3 _, a3 _⟩
  · exact ⟨l3 _, a3 _⟩
  · exact ⟨l3 _, a3 _⟩
  · exact ⟨l3 _, a3 _⟩
  · exact ⟨l3 _, a3 _⟩
  · exact ⟨l3 _, a3 _⟩
  · exact ⟨l4 _, a4 _⟩
  · exact ⟨l4 _, a4 _⟩
theorem vals_one {W : World} {B : Nat} {V : Nat → Value} {C : Nat → List Int} (h : ∀ j, j < 15 → W.ownsRow B 2 1 (V j) (C j).length ((C j).map (Value.int .i64))) : (((List.range 15).map V).toArray).all (·.oneCell') = true := by
  rw [Array.all_eq_true']
  intro x hx
  simp only [List.mem_toArray, List.mem_map, List.mem_range] at hx
  obtain ⟨j, hj, rfl⟩ := hx
  obtain ⟨a, c, hv⟩ := own_formS (h j hj)
  rw [hv]; rfl
set_option maxRecDepth 100000 in
set_option maxHeartbeats 8000000 in
theorem rput11 (v : Slots) (b : BookT) (w : World) (hb : BookIn w v b) (hk : BookOk 2000 b) (hc : 0 ≤ b.co) :
    Calls Tryz.prog 11 #[.agg (cellsB v b)] w fun e w' => e = .returned (.string (snapB b)) ∧ Below w.heap.size w w' := by
  have hb0 : Below w.heap.size w (w.alloc (.cells (cellsB v b) 27)) := (Below.refl _ w).alloc (Nat.le_refl _) _
  obtain ⟨c0, c1, c2, c3, c4⟩ := (BoxB.new w v b).cells
  have hco := hk.co.2
  have HX := Lib.hid (show ∀ W, Below (w.heap.size + 1) (w.alloc (.cells (cellsB v b) 27)) W → W.heap[w.heap.size]? = some (.cells (cellsB v b) 27 (0, 0)) from fun W h => (h.block _ (by omega)).trans (BoxB.new w v b))
  have HN := Lib.hid (fun W => ref9 b.co W hc (by omega))
  have HC := Lib.hid (fun W (h : Below w.heap.size w W) => rcols26 v b W (hb.below h) hk)
  have HL := Lib.hid (cols_len hk)
  have HL2 := Lib.hid (colsB_len (cs := colsT b) (m := 2000) (fun c hc => (HL.out c hc).1))
  have HE := Lib.hid (snapB_app b)
  have HI := Lib.hid (show (Tryz.prog.info? 27).map (·.size) = some (cellsB v b).size from info27)
  have HNX := Lib.hid (fun (i : Nat) (c : List Int) (h : (colsT b)[i]? = some c) => colsB_next h)
  have HQ := Lib.hid (fun (i : Nat) (h : i < 15) => (show (colsT b)[i]? = some ((colsT b).getD i []) by rw [List.getD_eq_getElem?_getD, List.getElem?_eq_getElem (show i < (colsT b).length from h)]; rfl))
  have h15 : (colsT b).length = 15 := rfl
  have hsz := encB_size b.co.toNat
  obtain ⟨Z, hZ⟩ : ∃ Z, M.encB b.co.toNat = Z := ⟨_, rfl⟩
  rw [hZ] at HN HE hsz
  rw [HE.out]
  have hwr : IntKind.u64.wrap b.co = b.co := by rw [IntKind.wrap_u64]; omega
  generalize colsT b = cs at *
  obtain ⟨W0, hW0⟩ : ∃ W, w.alloc (.cells (cellsB v b) 27) = W := ⟨_, rfl⟩
  have hs0 : W0.heap.size = w.heap.size + 1 := by rw [← hW0]; simp
  rw [hW0] at hb0 HX c0 c1 c2 c3 c4
  have HLO := Lib.hid (show ∀ W, Below (w.heap.size + 1) W0 W → Below w.heap.size w W from fun W h => hb0.trans (h.mono (by omega)))
  obtain ⟨CB, hCB⟩ : ∃ C, cellsB v b = C := ⟨_, rfl⟩
  rw [hCB] at hW0 HX HC HI ⊢
  clear hZ HE hb hk hCB
  go_enter Tryz.func11, Tryz.ntmps11
  go_upto_region 2 with (go_at_call 28; refine (HN.out _).mono ?_; rintro e w1 ⟨rfl, hb1⟩)
  rw [hs0] at hb1
  refine at_world (Φ := fun W => Below (w.heap.size + 1) W0 W) hb1 ?_
  clear hb1 HN hW0 c0 c1 c2 c3 c4
  rintro W1 hb1
  have HB1 := Lib.hid hb1
  clear hb1
  go_upto_region 3 with (first
    | ((with_reducible refine atStore (ty := 77) (x := .tmp 4) (y := .tmp 11) rfl ?_); refine wpList_store_row rfl 77 (.tmp 4) (.tmp 11) rfl y.heap.size ((List.range 15).map V).toArray rfl rfl 77 #[.slice none 0 0, .slice none 0 0, .slice none 0 0, .slice none 0 0, .slice none 0 0, .slice none 0 0, .slice none 0 0, .slice none 0 0, .slice none 0 0, .slice none 0 0, .slice none 0 0, .slice none 0 0, .slice none 0 0, .slice none 0 0, .slice none 0 0] (heap_alloc_new y _) (by rw [info15]; simp) (by simp) (vals_one hown) ?_)
    | ((with_reducible refine atLoad (ty := 27) (x := .tmp 1) rfl ?_); refine wpList_load_row rfl 27 (.tmp 1) rfl w.heap.size rfl 27 CB (0, 0) _ (HX.out _ HB1.out) Tryz.underlying27 rfl HI.out ?_)
    | (go_at_call 29; refine (HC.out _ (HLO.out _ HB1.out)).mono ?_; rintro e y ⟨V, rfl, hown, hby⟩))
  have hbA : Below y.heap.size y ((y.alloc (.cells #[.slice none 0 0, .slice none 0 0, .slice none 0 0, .slice none 0 0, .slice none 0 0, .slice none 0 0, .slice none 0 0, .slice none 0 0, .slice none 0 0, .slice none 0 0, .slice none 0 0, .slice none 0 0, .slice none 0 0, .slice none 0 0, .slice none 0 0] 77)).setRow y.heap.size ((List.range 15).map V).toArray) := below_rowB ((Below.refl _ _).alloc (Nat.le_refl _) _) (Nat.le_refl _)
  refine at_world (Φ := fun W => Below w.heap.size w W ∧ y.heap.size < W.heap.size ∧ (∀ j, j < 15 → W.cell? ⟨y.heap.size, j, none⟩ = some (V j)) ∧ ∀ j, j < 15 → W.ownsRow W1.heap.size 2 1 (V j) (cs.getD j []).length ((cs.getD j []).map (Value.int .i64)))
    ⟨(HLO.out _ HB1.out).trans ((hby.trans (hbA.mono hby.size)).mono (HLO.out _ HB1.out).size), by simp, fun j hj => by rw [cell_of_row _ y.heap.size j _ _ (0, 0) (setRow_heap _ _ _ _ _ _ (heap_alloc_new y _))]; simp [hj], fun j hj => own_belowS (hown j hj) hbA.block⟩ ?_
  clear hbA hby hown HC HX HI HB1 HLO
  generalize y.heap.size = g
  rintro Y ⟨hlo, hg, hcell, hown⟩
  have HLO := Lib.hid hlo
  have HCE := Lib.hid (show ∀ W, Below Y.heap.size Y W → ∀ j, j < 15 → W.cell? ⟨g, j, none⟩ = some (V j) from fun W h j hj => (h.cell (p := ⟨g, j, none⟩) hg).trans (hcell j hj))
  have HOW := Lib.hid (show ∀ W, Below Y.heap.size Y W → ∀ j, j < 15 → W.ownsRow W1.heap.size 2 1 (V j) (cs.getD j []).length ((cs.getD j []).map (Value.int .i64)) from fun W h j hj => own_belowS (hown j hj) h.block)
  clear hlo hg hcell hown
  go_wp2
  go_loopw [3, 5] (fun vs vi W => ∃ (i : Nat) (A : ByteArray), i ≤ 15 ∧ vi = .int .i64 (i : Int) ∧ vs = .string A ∧ A = Z ++ colsB (cs.take i) ∧ Below Y.heap.size Y W) (fun _ vi _ => 15 - (intOf vi).toNat)
  case atStart => exact ⟨0, Z, by omega, rfl, rfl, by simp [colsB, putCols]; apply ByteArray.ext; simp, Below.refl _ _⟩
  case round =>
    obtain ⟨i, A, hi, rfl, rfl, hA, hbw⟩ := hrel
    by_cases hlt : i < 15
    · have hq := HQ.out i hlt
      have hmem := HL.out _ (List.mem_of_getElem? hq)
      have hc := HCE.out _ hbw i hlt
      obtain ⟨av, cv, hv, hri⟩ := i64_own (HOW.out _ hbw i hlt)
      have z1 := HL2.out i (by omega)
      have z2 := putB_len hmem.1
      have hnx := HNX.out i _ hq
      have zA : A.size ≤ 10 + i * (10 + 20 * 2000) := by rw [hA, ByteArray.size_append]; omega
      have HA : Hid (A ++ putB (cs.getD i []) = Z ++ colsB (cs.take (i + 1))) := by
        show _ = _
        rw [hnx, hA, ByteArray.append_assoc]
      have HP := Lib.hid (fun W (h : Below wr.heap.size wr W) => rput10 av (cs.getD i []) cv W (hri.below h) (by omega) hmem.2)
      rw [hv] at hc
      obtain ⟨X1, hX1⟩ : ∃ X, putB (cs.getD i []) = X := ⟨_, rfl⟩
      rw [hX1] at HP HA z2
      generalize (cs.getD i []).length = nn at *
      have HBW := Lib.hid hbw
      clear hX1 hA hq hmem hv hri hnx hbw z1
      go_wp2_with (go_at_call 30; refine (HP.out _ (Below.refl _ _)).mono ?_; rintro e y2 ⟨rfl, hy2⟩)
      go_roundw
      case rel => exact ⟨i + 1, _, by omega, by go_num, rfl, HA.out, HBW.out.trans (hy2.mono HBW.out.size)⟩
      case measure => simp [intOf]; omega
    · have hie : i = cs.length := by omega
      rw [hie, List.take_length] at hA
      have HA := Lib.hid hA
      have HBW := Lib.hid hbw
      clear hA hbw
      go_wp2
      go_ret
      exact ⟨by rw [HA.out]; rfl, HLO.out.trans (HBW.out.mono HLO.out.size)⟩
end Go.Proofs.YtnhljfhpfpfniaaGreat

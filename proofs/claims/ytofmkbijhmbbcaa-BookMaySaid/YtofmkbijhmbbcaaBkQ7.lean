/- The program's left, put: contracts. -/
import Derived.Test.YtofmkbijhmbbcaaBkQ3
import Derived.Test.YtofmkbijhmbbcaaBkQ6
namespace Go.Proofs.Ytofmkbijhmbbcaa
open Go.RowKit Base Base2

/-- An operation whose run is known. -/
theorem wpList_op_run {P : Program} {ops : Array Oper} {rest : List Oper} {o : Oper} {a : Act} {w : World} {Q : Exit → Act → World → Prop} (hgd : o.guard = none) (v' : Value) (hr : (execOp a.eval o).run P w = .ok (.value v') w) (h : wpList P ops Q rest (a.put o.dst v') w) : wpList P ops Q (o :: rest) a w :=
  wpList_plain hgd fun _ hK => by unfold Oper.wp; rw [hr]; exact hK _ _ h
theorem atSlice {P : Program} {ops : Array Oper} {rest : List Oper} {o : Oper} {a : Act} {w : World} {Q : Exit → Act → World → Prop} {ty : TypeId} {x : Operand} {lo hi mx : Option Operand} (_ : o.op = .slice ty x lo hi mx) (h : wpList P ops Q (o :: rest) a w) : wpList P ops Q (o :: rest) a w := h
/-- A beginning of a row, an end of one. -/
theorem rows_to {k : Nat} {W : World} {a : Option Addr} {l : List Item} {c n : Nat} (h : RowsOf k W a l) (hn : n ≤ l.length) (hc : l.length ≤ c) : ∃ a1, sliced a 0 n c k = .slice a1 (l.take n).length c ∧ ∀ W', Below W.heap.size W W' → RowsOf k W' a1 (l.take n) := by
  have hl : (l.take n).length = n := by rw [List.length_take]; omega
  refine ⟨_, by rw [hl]; rfl, fun W' hb => ?_⟩
  rcases h with rfl | ⟨b, off, rfl, hb0, hcs⟩
  · exact .inl (by simp)
  · by_cases h0 : n = 0
    · exact .inl (by rw [h0]; rfl)
    · refine .inr ⟨b, off, by split <;> simp [Addr.add_mid], Nat.lt_of_lt_of_le hb0 hb.size, fun i x hi j z hz => (hb.cell (p := ⟨b, off + i * k + j, none⟩) hb0).trans (hcs i x ?_ j z hz)⟩
      have hin : i < n := by have := (List.getElem?_eq_some_iff.1 hi).1; omega
      rwa [List.getElem?_take_of_lt hin] at hi
theorem rows_from {k : Nat} {W : World} {a : Option Addr} {l : List Item} {c n : Nat} (h : RowsOf k W a l) (hn : n ≤ l.length) (hc : l.length ≤ c) : ∃ a1, sliced a n l.length c k = .slice a1 (l.drop n).length (c - n) ∧ RowsOf k W a1 (l.drop n) ∧ (l.drop n).length ≤ c - n := by
  have hl : (l.drop n).length = l.length - n := List.length_drop
  refine ⟨_, by rw [hl]; rfl, ?_, by rw [hl]; omega⟩
  rcases h with rfl | ⟨b, off, rfl, hb0, hcs⟩
  · exact .inl (by simp)
  · by_cases h0 : n = l.length
    · exact .inl (by rw [h0]; simp)
    · refine .inr ⟨b, off + n * k, by rw [if_neg (by omega)]; simp [Addr.add_mid], hb0, fun i x hi j z hz => ?_⟩
      rw [List.getElem?_drop] at hi
      have := hcs (n + i) x hi j z hz
      rwa [show off + n * k + i * k + j = off + (n + i) * k + j by rw [Nat.add_mul]; omega]
theorem row_one (w : World) (x : Item) (T : TypeId) {k : Nat} : RowsOf k (w.alloc (.cells (x.map (Value.int .i64)).toArray T)) (some ⟨w.heap.size, 0, none⟩) [x] := by
  refine .inr ⟨w.heap.size, 0, rfl, by simp, fun i y hi j z hz => ?_⟩
  match i, hi with
  | 0, hi =>
    simp at hi; subst hi
    rw [show 0 + 0 * k + j = j by omega, cell_of_row _ _ j _ T (0, 0) (heap_alloc_new w _)]
    simp [hz]
  | i + 1, hi => simp at hi
theorem three_at (W : World) (a1 a2 a3 : Option Addr) (c1 c2 c3 : Nat) (l1 l2 l3 : List Item) (T : TypeId) (i : Nat) (p : Part) (h : [(⟨a1, c1, l1⟩ : Part), ⟨a2, c2, l2⟩, ⟨a3, c3, l3⟩][i]? = some p) :
    (W.alloc (.cells #[.slice a1 l1.length c1, .slice a2 l2.length c2, .slice a3 l3.length c3] T)).cell? ⟨W.heap.size, i, none⟩ = some (.slice p.a p.l.length p.c) := by
  rw [cell_of_row _ _ i _ T (0, 0) (heap_alloc_new W _)]
  match i, h with
  | 0, h => simp at h; subst h; rfl
  | 1, h => simp at h; subst h; rfl
  | 2, h => simp at h; subst h; rfl
  | i + 3, h => simp at h
theorem three_rows {k : Nat} {W : World} {a1 a2 a3 : Option Addr} {c1 c2 c3 : Nat} {l1 l2 l3 : List Item} (h1 : RowsOf k W a1 l1) (h2 : RowsOf k W a2 l2) (h3 : RowsOf k W a3 l3) : ∀ p ∈ [(⟨a1, c1, l1⟩ : Part), ⟨a2, c2, l2⟩, ⟨a3, c3, l3⟩], RowsOf k W p.a p.l := by
  intro p hp
  simp only [List.mem_cons, List.not_mem_nil, or_false] at hp
  rcases hp with rfl | rfl | rfl
  · exact h1
  · exact h2
  · exact h3
theorem three_all {k : Nat} {a1 a2 a3 : Option Addr} {c1 c2 c3 : Nat} {l1 l2 l3 : List Item} (h1 : ∀ x ∈ l1, x.length = k) (h2 : ∀ x ∈ l2, x.length = k) (h3 : ∀ x ∈ l3, x.length = k) : ∀ p ∈ [(⟨a1, c1, l1⟩ : Part), ⟨a2, c2, l2⟩, ⟨a3, c3, l3⟩], ∀ x ∈ p.l, x.length = k := by
  intro p hp
  simp only [List.mem_cons, List.not_mem_nil, or_false] at hp
  rcases hp with rfl | rfl | rfl
  · exact h1
  · exact h2
  · exact h3

set_option maxRecDepth 100000 in
set_option maxHeartbeats 8000000 in
theorem putHolder (a : Option Addr) (c : Nat) (L : List Item) (id : Int) (ta : Option Addr) (tc : Nat) (M : List Item) (w : World) (hr : RowsOf 4 w a L) (hk : ItemsOk 4 1000 L) (hs : riseL lt1 L = true) (hcap : L.length ≤ c) (hm : RowsOf 4 w ta M) (hmk : ∀ x ∈ M, x.length = 4) (hml : M.length ≤ 1) :
    Calls Try.prog 51 #[.slice a L.length c, .int .i64 id, .func (.func 44) #[] #[], .slice ta M.length tc] w fun e w' => ∃ v, e = .returned v ∧ w'.ownsRow w.heap.size 33 4 v (L.take (posL (c1 id) L) ++ (M ++ behindL (c1 id) L)).length (flatI (L.take (posL (c1 id) L) ++ (M ++ behindL (c1 id) L))) ∧ Below w.heap.size w w' := by
  have HS := Lib.hid (fun W (h : Below w.heap.size w W) => placeHolder a c L id W (hr.below h) hk hs)
  have hpl := posL_le (c1 id) L
  have hlt := @foundL_lt (c1 id) L
  obtain ⟨BL, hBL⟩ : ∃ x, behindL (c1 id) L = x := ⟨_, rfl⟩
  have hBL2 := hBL
  unfold behindL at hBL2
  rw [hBL]
  clear hBL
  generalize foundL (c1 id) L = FO at *
  generalize posL (c1 id) L = PO at *
  obtain ⟨a1, hs1, hr1⟩ := rows_to hr hpl hcap
  obtain ⟨a2, hs2, hr2, hc2⟩ := rows_from hr hpl hcap
  have hkl := hk.1
  have hpc : PO ≤ c := by omega
  have HKT := Lib.hid (show ∀ x ∈ L.take PO, x.length = 4 from fun x hx => (hk.2 x (List.mem_of_mem_take hx)).1)
  have HKD := Lib.hid (show ∀ n, ∀ x ∈ L.drop n, x.length = 4 from fun n x hx => (hk.2 x (List.mem_of_mem_drop hx)).1)
  have HKM := Lib.hid hmk
  have HMM := Lib.hid hm
  have HR1 := Lib.hid hr1
  have HS1 := Lib.hid hs1
  have HS2 := Lib.hid hs2
  have HLT := Lib.hid (show (L.take PO).length = PO by rw [List.length_take]; omega)
  have HLD := Lib.hid (show ∀ n, (L.drop n).length = L.length - n from fun n => List.length_drop)
  clear hs1 hs2 hr1 hm hmk hs hk
  have HB := Lib.hid (Below.refl w.heap.size w)
  generalize L.take PO = AL at *
  cases FO with
  | false =>
    have hBL : L.drop PO = BL := by simpa using hBL2
    rw [hBL] at hr2 hc2 HS2
    have HKB := Lib.hid (show ∀ x ∈ BL, x.length = 4 from hBL ▸ HKD.out PO)
    have HCL := Lib.hid (show (catP [⟨a1, c, AL⟩, ⟨ta, tc, M⟩, ⟨a2, c - PO, BL⟩]).length ≤ 1500 by simp only [catP, List.map_cons, List.map_nil, List.flatten_cons, List.flatten_nil, List.append_nil, List.length_append]; rw [← hBL, HLT.out, HLD.out]; omega)
    have HCE := Lib.hid (show catP [⟨a1, c, AL⟩, ⟨ta, tc, M⟩, ⟨a2, c - PO, BL⟩] = AL ++ (M ++ BL) by simp [catP])
    have HCO := Lib.hid (fun W (hb : Below w.heap.size w W) T => concatHolder W.heap.size 3 [⟨a1, c, AL⟩, ⟨ta, tc, M⟩, ⟨a2, c - PO, BL⟩] (W.alloc (.cells #[.slice a1 (AL).length c, .slice ta M.length tc, .slice a2 BL.length (c - PO)] T)) (by simp) (three_at _ _ _ _ _ _ _ _ _ _ _) (three_rows (HR1.out _ (hb.alloc hb.size _)) (HMM.out.below (hb.alloc hb.size _)) (hr2.below (hb.alloc hb.size _))) (three_all HKT.out HKM.out HKB.out) HCL.out (by simp))
    have HBL := Lib.hid hBL
    clear hBL hBL2 hlt
    go_enter Try.func51, Try.ntmps51
    go_upto_region 2 with (go_at_call 78; refine (HS.out _ HB.out).mono ?_; rintro e y ⟨rfl, hy⟩; have HY := Lib.hid (HB.out.trans (hy.mono HB.out.size)); clear hy)
    refine wp_region_held_drew (S := fun W => Below w.heap.size w W) (by kernel_rfl) (below_drewN' HY.out 1) (fun hS => ?_)
    refine wpAnyH_take (i := 0) (v := .slice a L.length c) rfl (by kernel_rfl) (by kernel_rfl) (by kernel_rfl) (fun _ _ _ h => h) (Or.inl ⟨by simp [Region.wanted], fun W _ => by go_simp⟩) hS ?_
    simp only [List.getElem_toArray, List.getElem_cons_zero, Act.put, List.setIfInBounds_toArray, List.set_cons_zero, List.set_cons_succ]
    refine wpAnyH_take (i := 1) (v := .int .i64 (PO : Int)) rfl (by kernel_rfl) (by kernel_rfl) (by kernel_rfl) (fun _ _ _ h => h) (Or.inl ⟨by simp [Region.wanted], fun W _ => by go_simp⟩) hS ?_
    simp only [List.getElem_toArray, List.getElem_cons_zero, List.getElem_cons_succ, Act.put, List.setIfInBounds_toArray, List.set_cons_zero, List.set_cons_succ]
    refine wpAnyH_take (i := 2) (v := .slice a1 (AL).length c) rfl (by kernel_rfl) (by kernel_rfl) (by kernel_rfl) (fun _ _ _ h => h) (Or.inl ⟨by simp [Region.wanted], fun W hW => by rw [← HS1.out]; go_simp⟩) hS ?_
    simp only [List.getElem_toArray, List.getElem_cons_zero, List.getElem_cons_succ, Act.put, List.setIfInBounds_toArray, List.set_cons_zero, List.set_cons_succ]
    refine wpAnyH_take (i := 3) (v := .slice a L.length c) rfl (by kernel_rfl) (by kernel_rfl) (by kernel_rfl) (fun _ _ _ h => h) (Or.inl ⟨by simp [Region.wanted], fun W _ => by go_simp⟩) hS ?_
    simp only [List.getElem_toArray, List.getElem_cons_zero, List.getElem_cons_succ, Act.put, List.setIfInBounds_toArray, List.set_cons_zero, List.set_cons_succ]
    refine wpAnyH_take (i := 4) (v := .int .i64 (PO : Int)) rfl (by kernel_rfl) (by kernel_rfl) (by kernel_rfl) (fun _ _ _ h => h) (Or.inl ⟨by simp [Region.wanted], fun W _ => by go_simp⟩) hS ?_
    simp only [List.getElem_toArray, List.getElem_cons_zero, List.getElem_cons_succ, Act.put, List.setIfInBounds_toArray, List.set_cons_zero, List.set_cons_succ]
    refine wpAnyH_take (i := 5) (v := .slice a2 BL.length (c - PO)) rfl (by kernel_rfl) (by kernel_rfl) (by kernel_rfl) (fun _ _ _ h => h) (Or.inl ⟨by simp [Region.wanted], fun W hW => by rw [← HS2.out]; go_simp⟩) hS ?_
    simp only [List.getElem_toArray, List.getElem_cons_zero, List.getElem_cons_succ, Act.put, List.setIfInBounds_toArray, List.set_cons_zero, List.set_cons_succ]
    refine wpAnyH_take (i := 6) (v := .slice a1 (AL).length c) rfl (by kernel_rfl) (by kernel_rfl) (by kernel_rfl) (fun _ _ _ h => h) (Or.inl ⟨by simp [Region.wanted], fun W _ => by go_simp⟩) hS ?_
    simp only [List.getElem_toArray, List.getElem_cons_zero, List.getElem_cons_succ, Act.put, List.setIfInBounds_toArray, List.set_cons_zero, List.set_cons_succ]
    refine wpAnyH_take (i := 7) (v := .slice a2 BL.length (c - PO)) rfl (by kernel_rfl) (by kernel_rfl) (by kernel_rfl) (fun _ _ _ h => h) (Or.inl ⟨by simp [Region.wanted], fun W _ => by go_simp⟩) hS ?_
    simp only [List.getElem_toArray, List.getElem_cons_zero, List.getElem_cons_succ, Act.put, List.setIfInBounds_toArray, List.set_cons_zero, List.set_cons_succ]
    refine wpAnyH_done (by kernel_rfl) ?_ _
    have HYD := Lib.hid hS
    clear hS HY
    go_wp2_with (go_at_call 39; refine (HCO.out _ HYD.out _).mono ?_; rw [HCE.out]; rintro e w3 ⟨v3, rfl, hv3⟩; have H3 := Lib.hid hv3; clear hv3)
    go_ret
    exact ⟨v3, rfl, own_from H3.out.row (by have h0 := HYD.out.size; simp at h0 ⊢; omega), HYD.out.trans ((((Below.refl _ _).alloc (Nat.le_refl _) _).trans (H3.out.lo.mono (by simp))).mono HYD.out.size)⟩
  | true =>
    have hlt := hlt rfl
    have hBL : (L.drop PO).drop 1 = BL := by rw [List.drop_drop]; simpa using hBL2
    obtain ⟨a3, hs3, hr3, hc3⟩ := rows_from (n := 1) hr2 (by rw [HLD.out]; omega) hc2
    rw [hBL] at hs3 hr3 hc3
    have HS3 := Lib.hid hs3
    have HKB := Lib.hid (show ∀ x ∈ BL, x.length = 4 from fun x hx => HKD.out PO x (List.mem_of_mem_drop (by rw [hBL]; exact hx)))
    have HCL := Lib.hid (show (catP [⟨a1, c, AL⟩, ⟨ta, tc, M⟩, ⟨a3, c - PO - 1, BL⟩]).length ≤ 1500 by simp only [catP, List.map_cons, List.map_nil, List.flatten_cons, List.flatten_nil, List.append_nil, List.length_append]; rw [← hBL, HLT.out, List.length_drop, HLD.out]; omega)
    have HCE := Lib.hid (show catP [⟨a1, c, AL⟩, ⟨ta, tc, M⟩, ⟨a3, c - PO - 1, BL⟩] = AL ++ (M ++ BL) by simp [catP])
    have HCO := Lib.hid (fun W (hb : Below w.heap.size w W) T => concatHolder W.heap.size 3 [⟨a1, c, AL⟩, ⟨ta, tc, M⟩, ⟨a3, c - PO - 1, BL⟩] (W.alloc (.cells #[.slice a1 (AL).length c, .slice ta M.length tc, .slice a3 BL.length (c - PO - 1)] T)) (by simp) (three_at _ _ _ _ _ _ _ _ _ _ _) (three_rows (HR1.out _ (hb.alloc hb.size _)) (HMM.out.below (hb.alloc hb.size _)) (hr3.below (hb.alloc hb.size _))) (three_all HKT.out HKM.out HKB.out) HCL.out (by simp))
    have HBL := Lib.hid hBL
    clear hBL hBL2 hr2 hr3 hc2 hc3
    have hdl := HLD.out PO
    obtain ⟨DL, hDL⟩ : ∃ x, L.drop PO = x := ⟨_, rfl⟩
    rw [hDL] at hdl HS2 HS3
    clear hDL HBL
    have hq : ¬ ((DL.length : Nat) : Int) < 1 := by omega
    clear hdl
    go_enter Try.func51, Try.ntmps51
    go_upto_region 2 with (go_at_call 78; refine (HS.out _ HB.out).mono ?_; rintro e y ⟨rfl, hy⟩; have HY := Lib.hid (HB.out.trans (hy.mono HB.out.size)); clear hy)
    refine wp_region_held_drew (S := fun W => Below w.heap.size w W) (by kernel_rfl) (below_drewN' HY.out 1) (fun hS => ?_)
    refine wpAnyH_take (i := 0) (v := .slice a L.length c) rfl (by kernel_rfl) (by kernel_rfl) (by kernel_rfl) (fun _ _ _ h => h) (Or.inl ⟨by simp [Region.wanted], fun W _ => by go_simp⟩) hS ?_
    simp only [List.getElem_toArray, List.getElem_cons_zero, Act.put, List.setIfInBounds_toArray, List.set_cons_zero, List.set_cons_succ]
    refine wpAnyH_take (i := 1) (v := .int .i64 (PO : Int)) rfl (by kernel_rfl) (by kernel_rfl) (by kernel_rfl) (fun _ _ _ h => h) (Or.inl ⟨by simp [Region.wanted], fun W _ => by go_simp⟩) hS ?_
    simp only [List.getElem_toArray, List.getElem_cons_zero, List.getElem_cons_succ, Act.put, List.setIfInBounds_toArray, List.set_cons_zero, List.set_cons_succ]
    refine wpAnyH_take (i := 2) (v := .slice a1 (AL).length c) rfl (by kernel_rfl) (by kernel_rfl) (by kernel_rfl) (fun _ _ _ h => h) (Or.inl ⟨by simp [Region.wanted], fun W hW => by rw [← HS1.out]; go_simp⟩) hS ?_
    simp only [List.getElem_toArray, List.getElem_cons_zero, List.getElem_cons_succ, Act.put, List.setIfInBounds_toArray, List.set_cons_zero, List.set_cons_succ]
    refine wpAnyH_take (i := 3) (v := .slice a L.length c) rfl (by kernel_rfl) (by kernel_rfl) (by kernel_rfl) (fun _ _ _ h => h) (Or.inl ⟨by simp [Region.wanted], fun W _ => by go_simp⟩) hS ?_
    simp only [List.getElem_toArray, List.getElem_cons_zero, List.getElem_cons_succ, Act.put, List.setIfInBounds_toArray, List.set_cons_zero, List.set_cons_succ]
    refine wpAnyH_take (i := 4) (v := .int .i64 (PO : Int)) rfl (by kernel_rfl) (by kernel_rfl) (by kernel_rfl) (fun _ _ _ h => h) (Or.inl ⟨by simp [Region.wanted], fun W _ => by go_simp⟩) hS ?_
    simp only [List.getElem_toArray, List.getElem_cons_zero, List.getElem_cons_succ, Act.put, List.setIfInBounds_toArray, List.set_cons_zero, List.set_cons_succ]
    refine wpAnyH_take (i := 5) (v := .slice a2 DL.length (c - PO)) rfl (by kernel_rfl) (by kernel_rfl) (by kernel_rfl) (fun _ _ _ h => h) (Or.inl ⟨by simp [Region.wanted], fun W hW => by rw [← HS2.out]; go_simp⟩) hS ?_
    simp only [List.getElem_toArray, List.getElem_cons_zero, List.getElem_cons_succ, Act.put, List.setIfInBounds_toArray, List.set_cons_zero, List.set_cons_succ]
    refine wpAnyH_take (i := 6) (v := .slice a1 (AL).length c) rfl (by kernel_rfl) (by kernel_rfl) (by kernel_rfl) (fun _ _ _ h => h) (Or.inl ⟨by simp [Region.wanted], fun W _ => by go_simp⟩) hS ?_
    simp only [List.getElem_toArray, List.getElem_cons_zero, List.getElem_cons_succ, Act.put, List.setIfInBounds_toArray, List.set_cons_zero, List.set_cons_succ]
    refine wpAnyH_take (i := 7) (v := .slice a2 DL.length (c - PO)) rfl (by kernel_rfl) (by kernel_rfl) (by kernel_rfl) (fun _ _ _ h => h) (Or.inl ⟨by simp [Region.wanted], fun W _ => by go_simp⟩) hS ?_
    simp only [List.getElem_toArray, List.getElem_cons_zero, List.getElem_cons_succ, Act.put, List.setIfInBounds_toArray, List.set_cons_zero, List.set_cons_succ]
    refine wpAnyH_done (by kernel_rfl) ?_ _
    have HYD := Lib.hid hS
    clear hS HY
    go_wp2_with (first | ((with_reducible refine atSlice (ty := 22) (x := .tmp 27) (lo := some (.const (.int .i64 1))) (hi := none) (mx := none) rfl ?_); refine wpList_op_run rfl (.slice a3 BL.length (c - PO - 1)) (by rw [← HS3.out]; go_simp) ?_) | (go_at_call 39; refine (HCO.out _ HYD.out _).mono ?_; rw [HCE.out]; rintro e w3 ⟨v3, rfl, hv3⟩; have H3 := Lib.hid hv3; clear hv3))
    go_ret
    exact ⟨v3, rfl, own_from H3.out.row (by have h0 := HYD.out.size; simp at h0 ⊢; omega), HYD.out.trans ((((Below.refl _ _).alloc (Nat.le_refl _) _).trans (H3.out.lo.mono (by simp))).mono HYD.out.size)⟩

theorem leftStake (p q r zz : Int) (w : World) : Calls Try.prog 53 #[.agg #[.int .i64 p, .int .i64 q, .int .i64 r], .int .i64 zz] w fun e w' => (∃ a c, e = .returned (.slice a (if zz == 0 then [] else [[p, q, r]] : List Item).length c) ∧ RowsOf 3 w' a (if zz == 0 then [] else [[p, q, r]])) ∧ Below w.heap.size w w' := by
  have hb : Below w.heap.size w (w.alloc (.cells #[.int .i64 p, .int .i64 q, .int .i64 r] 45)) := (Below.refl _ w).alloc (Nat.le_refl _) _
  by_cases hz : zz = 0
  · have g : (zz == 0) = true := by rw [beq_iff_eq]; exact hz
    rw [if_pos g]
    go_enter Try.func53, Try.ntmps53
    go_wp2
    go_ret
    exact ⟨⟨_, _, rfl, .inl rfl⟩, hb⟩
  · have g : (zz == 0) = false := by rw [beq_eq_false_iff_ne]; exact hz
    rw [if_neg (by rw [g]; simp)]
    go_enter Try.func53, Try.ntmps53
    go_wp2
    go_ret
    exact ⟨⟨_, _, rfl, by have h := row_one (k := 3) (w.alloc (.cells #[.int .i64 p, .int .i64 q, .int .i64 r] 45)) [p, q, r] 45; rw [World.size_alloc] at h; exact h⟩, hb.alloc (by simp) _⟩

set_option maxRecDepth 100000 in
set_option maxHeartbeats 8000000 in
theorem putStake (a : Option Addr) (c : Nat) (L : List Item) (id sy : Int) (ta : Option Addr) (tc : Nat) (M : List Item) (w : World) (hr : RowsOf 3 w a L) (hk : ItemsOk 3 1000 L) (hs : riseL lt2 L = true) (hcap : L.length ≤ c) (hm : RowsOf 3 w ta M) (hmk : ∀ x ∈ M, x.length = 3) (hml : M.length ≤ 1) :
    Calls Try.prog 52 #[.slice a L.length c, .agg #[.int .i64 id, .int .i64 sy], .func (.func 50) #[] #[], .slice ta M.length tc] w fun e w' => ∃ v, e = .returned v ∧ w'.ownsRow w.heap.size 45 3 v (L.take (posL (c2 id sy) L) ++ (M ++ behindL (c2 id sy) L)).length (flatI (L.take (posL (c2 id sy) L) ++ (M ++ behindL (c2 id sy) L))) ∧ Below w.heap.size w w' := by
  have HS := Lib.hid (fun W (h : Below w.heap.size w W) => placeStake a c L id sy W (hr.below h) hk hs)
  have hpl := posL_le (c2 id sy) L
  have hlt := @foundL_lt (c2 id sy) L
  obtain ⟨BL, hBL⟩ : ∃ x, behindL (c2 id sy) L = x := ⟨_, rfl⟩
  have hBL2 := hBL
  unfold behindL at hBL2
  rw [hBL]
  clear hBL
  generalize foundL (c2 id sy) L = FO at *
  generalize posL (c2 id sy) L = PO at *
  obtain ⟨a1, hs1, hr1⟩ := rows_to hr hpl hcap
  obtain ⟨a2, hs2, hr2, hc2⟩ := rows_from hr hpl hcap
  have hkl := hk.1
  have hpc : PO ≤ c := by omega
  have HKT := Lib.hid (show ∀ x ∈ L.take PO, x.length = 3 from fun x hx => (hk.2 x (List.mem_of_mem_take hx)).1)
  have HKD := Lib.hid (show ∀ n, ∀ x ∈ L.drop n, x.length = 3 from fun n x hx => (hk.2 x (List.mem_of_mem_drop hx)).1)
  have HKM := Lib.hid hmk
  have HMM := Lib.hid hm
  have HR1 := Lib.hid hr1
  have HS1 := Lib.hid hs1
  have HS2 := Lib.hid hs2
  have HLT := Lib.hid (show (L.take PO).length = PO by rw [List.length_take]; omega)
  have HLD := Lib.hid (show ∀ n, (L.drop n).length = L.length - n from fun n => List.length_drop)
  clear hs1 hs2 hr1 hm hmk hs hk
  obtain ⟨W0, hW0⟩ : ∃ W, w.alloc (.cells #[.int .i64 id, .int .i64 sy] 73) = W := ⟨_, rfl⟩
  have HB := Lib.hid (show Below w.heap.size w W0 by rw [← hW0]; exact (Below.refl _ _).alloc (Nat.le_refl _) _)
  have k0 : W0.cell? ⟨w.heap.size, 0, none⟩ = some (.int .i64 id) := by rw [← hW0]; exact cell_of_row _ _ 0 _ 73 (0, 0) (heap_alloc_new w _)
  have k1 : W0.cell? ⟨w.heap.size, 1, none⟩ = some (.int .i64 sy) := by rw [← hW0]; exact cell_of_row _ _ 1 _ 73 (0, 0) (heap_alloc_new w _)
  generalize L.take PO = AL at *
  cases FO with
  | false =>
    have hBL : L.drop PO = BL := by simpa using hBL2
    rw [hBL] at hr2 hc2 HS2
    have HKB := Lib.hid (show ∀ x ∈ BL, x.length = 3 from hBL ▸ HKD.out PO)
    have HCL := Lib.hid (show (catP [⟨a1, c, AL⟩, ⟨ta, tc, M⟩, ⟨a2, c - PO, BL⟩]).length ≤ 1500 by simp only [catP, List.map_cons, List.map_nil, List.flatten_cons, List.flatten_nil, List.append_nil, List.length_append]; rw [← hBL, HLT.out, HLD.out]; omega)
    have HCE := Lib.hid (show catP [⟨a1, c, AL⟩, ⟨ta, tc, M⟩, ⟨a2, c - PO, BL⟩] = AL ++ (M ++ BL) by simp [catP])
    have HCO := Lib.hid (fun W (hb : Below w.heap.size w W) T => concatStake W.heap.size 3 [⟨a1, c, AL⟩, ⟨ta, tc, M⟩, ⟨a2, c - PO, BL⟩] (W.alloc (.cells #[.slice a1 (AL).length c, .slice ta M.length tc, .slice a2 BL.length (c - PO)] T)) (by simp) (three_at _ _ _ _ _ _ _ _ _ _ _) (three_rows (HR1.out _ (hb.alloc hb.size _)) (HMM.out.below (hb.alloc hb.size _)) (hr2.below (hb.alloc hb.size _))) (three_all HKT.out HKM.out HKB.out) HCL.out (by simp))
    have HBL := Lib.hid hBL
    clear hBL hBL2 hlt
    go_enter Try.func52, Try.ntmps52
    go_upto_region 2 with (go_at_call 82; refine (HS.out _ HB.out).mono ?_; rintro e y ⟨rfl, hy⟩; have HY := Lib.hid (HB.out.trans (hy.mono HB.out.size)); clear hy)
    refine wp_region_held_drew (S := fun W => Below w.heap.size w W) (by kernel_rfl) (below_drewN' HY.out 1) (fun hS => ?_)
    refine wpAnyH_take (i := 0) (v := .slice a L.length c) rfl (by kernel_rfl) (by kernel_rfl) (by kernel_rfl) (fun _ _ _ h => h) (Or.inl ⟨by simp [Region.wanted], fun W _ => by go_simp⟩) hS ?_
    simp only [List.getElem_toArray, List.getElem_cons_zero, Act.put, List.setIfInBounds_toArray, List.set_cons_zero, List.set_cons_succ]
    refine wpAnyH_take (i := 1) (v := .int .i64 (PO : Int)) rfl (by kernel_rfl) (by kernel_rfl) (by kernel_rfl) (fun _ _ _ h => h) (Or.inl ⟨by simp [Region.wanted], fun W _ => by go_simp⟩) hS ?_
    simp only [List.getElem_toArray, List.getElem_cons_zero, List.getElem_cons_succ, Act.put, List.setIfInBounds_toArray, List.set_cons_zero, List.set_cons_succ]
    refine wpAnyH_take (i := 2) (v := .slice a1 (AL).length c) rfl (by kernel_rfl) (by kernel_rfl) (by kernel_rfl) (fun _ _ _ h => h) (Or.inl ⟨by simp [Region.wanted], fun W hW => by rw [← HS1.out]; go_simp⟩) hS ?_
    simp only [List.getElem_toArray, List.getElem_cons_zero, List.getElem_cons_succ, Act.put, List.setIfInBounds_toArray, List.set_cons_zero, List.set_cons_succ]
    refine wpAnyH_take (i := 3) (v := .slice a L.length c) rfl (by kernel_rfl) (by kernel_rfl) (by kernel_rfl) (fun _ _ _ h => h) (Or.inl ⟨by simp [Region.wanted], fun W _ => by go_simp⟩) hS ?_
    simp only [List.getElem_toArray, List.getElem_cons_zero, List.getElem_cons_succ, Act.put, List.setIfInBounds_toArray, List.set_cons_zero, List.set_cons_succ]
    refine wpAnyH_take (i := 4) (v := .int .i64 (PO : Int)) rfl (by kernel_rfl) (by kernel_rfl) (by kernel_rfl) (fun _ _ _ h => h) (Or.inl ⟨by simp [Region.wanted], fun W _ => by go_simp⟩) hS ?_
    simp only [List.getElem_toArray, List.getElem_cons_zero, List.getElem_cons_succ, Act.put, List.setIfInBounds_toArray, List.set_cons_zero, List.set_cons_succ]
    refine wpAnyH_take (i := 5) (v := .slice a2 BL.length (c - PO)) rfl (by kernel_rfl) (by kernel_rfl) (by kernel_rfl) (fun _ _ _ h => h) (Or.inl ⟨by simp [Region.wanted], fun W hW => by rw [← HS2.out]; go_simp⟩) hS ?_
    simp only [List.getElem_toArray, List.getElem_cons_zero, List.getElem_cons_succ, Act.put, List.setIfInBounds_toArray, List.set_cons_zero, List.set_cons_succ]
    refine wpAnyH_take (i := 6) (v := .slice a1 (AL).length c) rfl (by kernel_rfl) (by kernel_rfl) (by kernel_rfl) (fun _ _ _ h => h) (Or.inl ⟨by simp [Region.wanted], fun W _ => by go_simp⟩) hS ?_
    simp only [List.getElem_toArray, List.getElem_cons_zero, List.getElem_cons_succ, Act.put, List.setIfInBounds_toArray, List.set_cons_zero, List.set_cons_succ]
    refine wpAnyH_take (i := 7) (v := .slice a2 BL.length (c - PO)) rfl (by kernel_rfl) (by kernel_rfl) (by kernel_rfl) (fun _ _ _ h => h) (Or.inl ⟨by simp [Region.wanted], fun W _ => by go_simp⟩) hS ?_
    simp only [List.getElem_toArray, List.getElem_cons_zero, List.getElem_cons_succ, Act.put, List.setIfInBounds_toArray, List.set_cons_zero, List.set_cons_succ]
    refine wpAnyH_done (by kernel_rfl) ?_ _
    have HYD := Lib.hid hS
    clear hS HY
    go_wp2_with (go_at_call 40; refine (HCO.out _ HYD.out _).mono ?_; rw [HCE.out]; rintro e w3 ⟨v3, rfl, hv3⟩; have H3 := Lib.hid hv3; clear hv3)
    go_ret
    exact ⟨v3, rfl, own_from H3.out.row (by have h0 := HYD.out.size; simp at h0 ⊢; omega), HYD.out.trans ((((Below.refl _ _).alloc (Nat.le_refl _) _).trans (H3.out.lo.mono (by simp))).mono HYD.out.size)⟩
  | true =>
    have hlt := hlt rfl
    have hBL : (L.drop PO).drop 1 = BL := by rw [List.drop_drop]; simpa using hBL2
    obtain ⟨a3, hs3, hr3, hc3⟩ := rows_from (n := 1) hr2 (by rw [HLD.out]; omega) hc2
    rw [hBL] at hs3 hr3 hc3
    have HS3 := Lib.hid hs3
    have HKB := Lib.hid (show ∀ x ∈ BL, x.length = 3 from fun x hx => HKD.out PO x (List.mem_of_mem_drop (by rw [hBL]; exact hx)))
    have HCL := Lib.hid (show (catP [⟨a1, c, AL⟩, ⟨ta, tc, M⟩, ⟨a3, c - PO - 1, BL⟩]).length ≤ 1500 by simp only [catP, List.map_cons, List.map_nil, List.flatten_cons, List.flatten_nil, List.append_nil, List.length_append]; rw [← hBL, HLT.out, List.length_drop, HLD.out]; omega)
    have HCE := Lib.hid (show catP [⟨a1, c, AL⟩, ⟨ta, tc, M⟩, ⟨a3, c - PO - 1, BL⟩] = AL ++ (M ++ BL) by simp [catP])
    have HCO := Lib.hid (fun W (hb : Below w.heap.size w W) T => concatStake W.heap.size 3 [⟨a1, c, AL⟩, ⟨ta, tc, M⟩, ⟨a3, c - PO - 1, BL⟩] (W.alloc (.cells #[.slice a1 (AL).length c, .slice ta M.length tc, .slice a3 BL.length (c - PO - 1)] T)) (by simp) (three_at _ _ _ _ _ _ _ _ _ _ _) (three_rows (HR1.out _ (hb.alloc hb.size _)) (HMM.out.below (hb.alloc hb.size _)) (hr3.below (hb.alloc hb.size _))) (three_all HKT.out HKM.out HKB.out) HCL.out (by simp))
    have HBL := Lib.hid hBL
    clear hBL hBL2 hr2 hr3 hc2 hc3
    have hdl := HLD.out PO
    obtain ⟨DL, hDL⟩ : ∃ x, L.drop PO = x := ⟨_, rfl⟩
    rw [hDL] at hdl HS2 HS3
    clear hDL HBL
    have hq : ¬ ((DL.length : Nat) : Int) < 1 := by omega
    clear hdl
    go_enter Try.func52, Try.ntmps52
    go_upto_region 2 with (go_at_call 82; refine (HS.out _ HB.out).mono ?_; rintro e y ⟨rfl, hy⟩; have HY := Lib.hid (HB.out.trans (hy.mono HB.out.size)); clear hy)
    refine wp_region_held_drew (S := fun W => Below w.heap.size w W) (by kernel_rfl) (below_drewN' HY.out 1) (fun hS => ?_)
    refine wpAnyH_take (i := 0) (v := .slice a L.length c) rfl (by kernel_rfl) (by kernel_rfl) (by kernel_rfl) (fun _ _ _ h => h) (Or.inl ⟨by simp [Region.wanted], fun W _ => by go_simp⟩) hS ?_
    simp only [List.getElem_toArray, List.getElem_cons_zero, Act.put, List.setIfInBounds_toArray, List.set_cons_zero, List.set_cons_succ]
    refine wpAnyH_take (i := 1) (v := .int .i64 (PO : Int)) rfl (by kernel_rfl) (by kernel_rfl) (by kernel_rfl) (fun _ _ _ h => h) (Or.inl ⟨by simp [Region.wanted], fun W _ => by go_simp⟩) hS ?_
    simp only [List.getElem_toArray, List.getElem_cons_zero, List.getElem_cons_succ, Act.put, List.setIfInBounds_toArray, List.set_cons_zero, List.set_cons_succ]
    refine wpAnyH_take (i := 2) (v := .slice a1 (AL).length c) rfl (by kernel_rfl) (by kernel_rfl) (by kernel_rfl) (fun _ _ _ h => h) (Or.inl ⟨by simp [Region.wanted], fun W hW => by rw [← HS1.out]; go_simp⟩) hS ?_
    simp only [List.getElem_toArray, List.getElem_cons_zero, List.getElem_cons_succ, Act.put, List.setIfInBounds_toArray, List.set_cons_zero, List.set_cons_succ]
    refine wpAnyH_take (i := 3) (v := .slice a L.length c) rfl (by kernel_rfl) (by kernel_rfl) (by kernel_rfl) (fun _ _ _ h => h) (Or.inl ⟨by simp [Region.wanted], fun W _ => by go_simp⟩) hS ?_
    simp only [List.getElem_toArray, List.getElem_cons_zero, List.getElem_cons_succ, Act.put, List.setIfInBounds_toArray, List.set_cons_zero, List.set_cons_succ]
    refine wpAnyH_take (i := 4) (v := .int .i64 (PO : Int)) rfl (by kernel_rfl) (by kernel_rfl) (by kernel_rfl) (fun _ _ _ h => h) (Or.inl ⟨by simp [Region.wanted], fun W _ => by go_simp⟩) hS ?_
    simp only [List.getElem_toArray, List.getElem_cons_zero, List.getElem_cons_succ, Act.put, List.setIfInBounds_toArray, List.set_cons_zero, List.set_cons_succ]
    refine wpAnyH_take (i := 5) (v := .slice a2 DL.length (c - PO)) rfl (by kernel_rfl) (by kernel_rfl) (by kernel_rfl) (fun _ _ _ h => h) (Or.inl ⟨by simp [Region.wanted], fun W hW => by rw [← HS2.out]; go_simp⟩) hS ?_
    simp only [List.getElem_toArray, List.getElem_cons_zero, List.getElem_cons_succ, Act.put, List.setIfInBounds_toArray, List.set_cons_zero, List.set_cons_succ]
    refine wpAnyH_take (i := 6) (v := .slice a1 (AL).length c) rfl (by kernel_rfl) (by kernel_rfl) (by kernel_rfl) (fun _ _ _ h => h) (Or.inl ⟨by simp [Region.wanted], fun W _ => by go_simp⟩) hS ?_
    simp only [List.getElem_toArray, List.getElem_cons_zero, List.getElem_cons_succ, Act.put, List.setIfInBounds_toArray, List.set_cons_zero, List.set_cons_succ]
    refine wpAnyH_take (i := 7) (v := .slice a2 DL.length (c - PO)) rfl (by kernel_rfl) (by kernel_rfl) (by kernel_rfl) (fun _ _ _ h => h) (Or.inl ⟨by simp [Region.wanted], fun W _ => by go_simp⟩) hS ?_
    simp only [List.getElem_toArray, List.getElem_cons_zero, List.getElem_cons_succ, Act.put, List.setIfInBounds_toArray, List.set_cons_zero, List.set_cons_succ]
    refine wpAnyH_done (by kernel_rfl) ?_ _
    have HYD := Lib.hid hS
    clear hS HY
    go_wp2_with (first | ((with_reducible refine atSlice (ty := 23) (x := .tmp 27) (lo := some (.const (.int .i64 1))) (hi := none) (mx := none) rfl ?_); refine wpList_op_run rfl (.slice a3 BL.length (c - PO - 1)) (by rw [← HS3.out]; go_simp) ?_) | (go_at_call 40; refine (HCO.out _ HYD.out _).mono ?_; rw [HCE.out]; rintro e w3 ⟨v3, rfl, hv3⟩; have H3 := Lib.hid hv3; clear hv3))
    go_ret
    exact ⟨v3, rfl, own_from H3.out.row (by have h0 := HYD.out.size; simp at h0 ⊢; omega), HYD.out.trans ((((Below.refl _ _).alloc (Nat.le_refl _) _).trans (H3.out.lo.mono (by simp))).mono HYD.out.size)⟩

theorem leftOpen (p q r s t z zz : Int) (w : World) : Calls Try.prog 55 #[.agg #[.int .i64 p, .int .i64 q, .int .i64 r, .int .i64 s, .int .i64 t, .int .i64 z], .int .i64 zz] w fun e w' => (∃ a c, e = .returned (.slice a (if zz == 0 then [] else [[p, q, r, s, t, z]] : List Item).length c) ∧ RowsOf 6 w' a (if zz == 0 then [] else [[p, q, r, s, t, z]])) ∧ Below w.heap.size w w' := by
  have hb : Below w.heap.size w (w.alloc (.cells #[.int .i64 p, .int .i64 q, .int .i64 r, .int .i64 s, .int .i64 t, .int .i64 z] 37)) := (Below.refl _ w).alloc (Nat.le_refl _) _
  by_cases hz : zz = 0
  · have g : (zz == 0) = true := by rw [beq_iff_eq]; exact hz
    rw [if_pos g]
    go_enter Try.func55, Try.ntmps55
    go_wp2
    go_ret
    exact ⟨⟨_, _, rfl, .inl rfl⟩, hb⟩
  · have g : (zz == 0) = false := by rw [beq_eq_false_iff_ne]; exact hz
    rw [if_neg (by rw [g]; simp)]
    go_enter Try.func55, Try.ntmps55
    go_wp2
    go_ret
    exact ⟨⟨_, _, rfl, by have h := row_one (k := 6) (w.alloc (.cells #[.int .i64 p, .int .i64 q, .int .i64 r, .int .i64 s, .int .i64 t, .int .i64 z] 37)) [p, q, r, s, t, z] 37; rw [World.size_alloc] at h; exact h⟩, hb.alloc (by simp) _⟩

set_option maxRecDepth 100000 in
set_option maxHeartbeats 8000000 in
theorem putOpen (a : Option Addr) (c : Nat) (L : List Item) (id : Int) (ta : Option Addr) (tc : Nat) (M : List Item) (w : World) (hr : RowsOf 6 w a L) (hk : ItemsOk 6 1000 L) (hs : riseL lt1 L = true) (hcap : L.length ≤ c) (hm : RowsOf 6 w ta M) (hmk : ∀ x ∈ M, x.length = 6) (hml : M.length ≤ 1) :
    Calls Try.prog 54 #[.slice a L.length c, .int .i64 id, .func (.func 46) #[] #[], .slice ta M.length tc] w fun e w' => ∃ v, e = .returned v ∧ w'.ownsRow w.heap.size 37 6 v (L.take (posL (c1 id) L) ++ (M ++ behindL (c1 id) L)).length (flatI (L.take (posL (c1 id) L) ++ (M ++ behindL (c1 id) L))) ∧ Below w.heap.size w w' := by
  have HS := Lib.hid (fun W (h : Below w.heap.size w W) => placeOpen a c L id W (hr.below h) hk hs)
  have hpl := posL_le (c1 id) L
  have hlt := @foundL_lt (c1 id) L
  obtain ⟨BL, hBL⟩ : ∃ x, behindL (c1 id) L = x := ⟨_, rfl⟩
  have hBL2 := hBL
  unfold behindL at hBL2
  rw [hBL]
  clear hBL
  generalize foundL (c1 id) L = FO at *
  generalize posL (c1 id) L = PO at *
  obtain ⟨a1, hs1, hr1⟩ := rows_to hr hpl hcap
  obtain ⟨a2, hs2, hr2, hc2⟩ := rows_from hr hpl hcap
  have hkl := hk.1
  have hpc : PO ≤ c := by omega
  have HKT := Lib.hid (show ∀ x ∈ L.take PO, x.length = 6 from fun x hx => (hk.2 x (List.mem_of_mem_take hx)).1)
  have HKD := Lib.hid (show ∀ n, ∀ x ∈ L.drop n, x.length = 6 from fun n x hx => (hk.2 x (List.mem_of_mem_drop hx)).1)
  have HKM := Lib.hid hmk
  have HMM := Lib.hid hm
  have HR1 := Lib.hid hr1
  have HS1 := Lib.hid hs1
  have HS2 := Lib.hid hs2
  have HLT := Lib.hid (show (L.take PO).length = PO by rw [List.length_take]; omega)
  have HLD := Lib.hid (show ∀ n, (L.drop n).length = L.length - n from fun n => List.length_drop)
  clear hs1 hs2 hr1 hm hmk hs hk
  have HB := Lib.hid (Below.refl w.heap.size w)
  generalize L.take PO = AL at *
  cases FO with
  | false =>
    have hBL : L.drop PO = BL := by simpa using hBL2
    rw [hBL] at hr2 hc2 HS2
    have HKB := Lib.hid (show ∀ x ∈ BL, x.length = 6 from hBL ▸ HKD.out PO)
    have HCL := Lib.hid (show (catP [⟨a1, c, AL⟩, ⟨ta, tc, M⟩, ⟨a2, c - PO, BL⟩]).length ≤ 1500 by simp only [catP, List.map_cons, List.map_nil, List.flatten_cons, List.flatten_nil, List.append_nil, List.length_append]; rw [← hBL, HLT.out, HLD.out]; omega)
    have HCE := Lib.hid (show catP [⟨a1, c, AL⟩, ⟨ta, tc, M⟩, ⟨a2, c - PO, BL⟩] = AL ++ (M ++ BL) by simp [catP])
    have HCO := Lib.hid (fun W (hb : Below w.heap.size w W) T => concatOpen W.heap.size 3 [⟨a1, c, AL⟩, ⟨ta, tc, M⟩, ⟨a2, c - PO, BL⟩] (W.alloc (.cells #[.slice a1 (AL).length c, .slice ta M.length tc, .slice a2 BL.length (c - PO)] T)) (by simp) (three_at _ _ _ _ _ _ _ _ _ _ _) (three_rows (HR1.out _ (hb.alloc hb.size _)) (HMM.out.below (hb.alloc hb.size _)) (hr2.below (hb.alloc hb.size _))) (three_all HKT.out HKM.out HKB.out) HCL.out (by simp))
    have HBL := Lib.hid hBL
    clear hBL hBL2 hlt
    go_enter Try.func54, Try.ntmps54
    go_upto_region 2 with (go_at_call 80; refine (HS.out _ HB.out).mono ?_; rintro e y ⟨rfl, hy⟩; have HY := Lib.hid (HB.out.trans (hy.mono HB.out.size)); clear hy)
    refine wp_region_held_drew (S := fun W => Below w.heap.size w W) (by kernel_rfl) (below_drewN' HY.out 1) (fun hS => ?_)
    refine wpAnyH_take (i := 0) (v := .slice a L.length c) rfl (by kernel_rfl) (by kernel_rfl) (by kernel_rfl) (fun _ _ _ h => h) (Or.inl ⟨by simp [Region.wanted], fun W _ => by go_simp⟩) hS ?_
    simp only [List.getElem_toArray, List.getElem_cons_zero, Act.put, List.setIfInBounds_toArray, List.set_cons_zero, List.set_cons_succ]
    refine wpAnyH_take (i := 1) (v := .int .i64 (PO : Int)) rfl (by kernel_rfl) (by kernel_rfl) (by kernel_rfl) (fun _ _ _ h => h) (Or.inl ⟨by simp [Region.wanted], fun W _ => by go_simp⟩) hS ?_
    simp only [List.getElem_toArray, List.getElem_cons_zero, List.getElem_cons_succ, Act.put, List.setIfInBounds_toArray, List.set_cons_zero, List.set_cons_succ]
    refine wpAnyH_take (i := 2) (v := .slice a1 (AL).length c) rfl (by kernel_rfl) (by kernel_rfl) (by kernel_rfl) (fun _ _ _ h => h) (Or.inl ⟨by simp [Region.wanted], fun W hW => by rw [← HS1.out]; go_simp⟩) hS ?_
    simp only [List.getElem_toArray, List.getElem_cons_zero, List.getElem_cons_succ, Act.put, List.setIfInBounds_toArray, List.set_cons_zero, List.set_cons_succ]
    refine wpAnyH_take (i := 3) (v := .slice a L.length c) rfl (by kernel_rfl) (by kernel_rfl) (by kernel_rfl) (fun _ _ _ h => h) (Or.inl ⟨by simp [Region.wanted], fun W _ => by go_simp⟩) hS ?_
    simp only [List.getElem_toArray, List.getElem_cons_zero, List.getElem_cons_succ, Act.put, List.setIfInBounds_toArray, List.set_cons_zero, List.set_cons_succ]
    refine wpAnyH_take (i := 4) (v := .int .i64 (PO : Int)) rfl (by kernel_rfl) (by kernel_rfl) (by kernel_rfl) (fun _ _ _ h => h) (Or.inl ⟨by simp [Region.wanted], fun W _ => by go_simp⟩) hS ?_
    simp only [List.getElem_toArray, List.getElem_cons_zero, List.getElem_cons_succ, Act.put, List.setIfInBounds_toArray, List.set_cons_zero, List.set_cons_succ]
    refine wpAnyH_take (i := 5) (v := .slice a2 BL.length (c - PO)) rfl (by kernel_rfl) (by kernel_rfl) (by kernel_rfl) (fun _ _ _ h => h) (Or.inl ⟨by simp [Region.wanted], fun W hW => by rw [← HS2.out]; go_simp⟩) hS ?_
    simp only [List.getElem_toArray, List.getElem_cons_zero, List.getElem_cons_succ, Act.put, List.setIfInBounds_toArray, List.set_cons_zero, List.set_cons_succ]
    refine wpAnyH_take (i := 6) (v := .slice a1 (AL).length c) rfl (by kernel_rfl) (by kernel_rfl) (by kernel_rfl) (fun _ _ _ h => h) (Or.inl ⟨by simp [Region.wanted], fun W _ => by go_simp⟩) hS ?_
    simp only [List.getElem_toArray, List.getElem_cons_zero, List.getElem_cons_succ, Act.put, List.setIfInBounds_toArray, List.set_cons_zero, List.set_cons_succ]
    refine wpAnyH_take (i := 7) (v := .slice a2 BL.length (c - PO)) rfl (by kernel_rfl) (by kernel_rfl) (by kernel_rfl) (fun _ _ _ h => h) (Or.inl ⟨by simp [Region.wanted], fun W _ => by go_simp⟩) hS ?_
    simp only [List.getElem_toArray, List.getElem_cons_zero, List.getElem_cons_succ, Act.put, List.setIfInBounds_toArray, List.set_cons_zero, List.set_cons_succ]
    refine wpAnyH_done (by kernel_rfl) ?_ _
    have HYD := Lib.hid hS
    clear hS HY
    go_wp2_with (go_at_call 41; refine (HCO.out _ HYD.out _).mono ?_; rw [HCE.out]; rintro e w3 ⟨v3, rfl, hv3⟩; have H3 := Lib.hid hv3; clear hv3)
    go_ret
    exact ⟨v3, rfl, own_from H3.out.row (by have h0 := HYD.out.size; simp at h0 ⊢; omega), HYD.out.trans ((((Below.refl _ _).alloc (Nat.le_refl _) _).trans (H3.out.lo.mono (by simp))).mono HYD.out.size)⟩
  | true =>
    have hlt := hlt rfl
    have hBL : (L.drop PO).drop 1 = BL := by rw [List.drop_drop]; simpa using hBL2
    obtain ⟨a3, hs3, hr3, hc3⟩ := rows_from (n := 1) hr2 (by rw [HLD.out]; omega) hc2
    rw [hBL] at hs3 hr3 hc3
    have HS3 := Lib.hid hs3
    have HKB := Lib.hid (show ∀ x ∈ BL, x.length = 6 from fun x hx => HKD.out PO x (List.mem_of_mem_drop (by rw [hBL]; exact hx)))
    have HCL := Lib.hid (show (catP [⟨a1, c, AL⟩, ⟨ta, tc, M⟩, ⟨a3, c - PO - 1, BL⟩]).length ≤ 1500 by simp only [catP, List.map_cons, List.map_nil, List.flatten_cons, List.flatten_nil, List.append_nil, List.length_append]; rw [← hBL, HLT.out, List.length_drop, HLD.out]; omega)
    have HCE := Lib.hid (show catP [⟨a1, c, AL⟩, ⟨ta, tc, M⟩, ⟨a3, c - PO - 1, BL⟩] = AL ++ (M ++ BL) by simp [catP])
    have HCO := Lib.hid (fun W (hb : Below w.heap.size w W) T => concatOpen W.heap.size 3 [⟨a1, c, AL⟩, ⟨ta, tc, M⟩, ⟨a3, c - PO - 1, BL⟩] (W.alloc (.cells #[.slice a1 (AL).length c, .slice ta M.length tc, .slice a3 BL.length (c - PO - 1)] T)) (by simp) (three_at _ _ _ _ _ _ _ _ _ _ _) (three_rows (HR1.out _ (hb.alloc hb.size _)) (HMM.out.below (hb.alloc hb.size _)) (hr3.below (hb.alloc hb.size _))) (three_all HKT.out HKM.out HKB.out) HCL.out (by simp))
    have HBL := Lib.hid hBL
    clear hBL hBL2 hr2 hr3 hc2 hc3
    have hdl := HLD.out PO
    obtain ⟨DL, hDL⟩ : ∃ x, L.drop PO = x := ⟨_, rfl⟩
    rw [hDL] at hdl HS2 HS3
    clear hDL HBL
    have hq : ¬ ((DL.length : Nat) : Int) < 1 := by omega
    clear hdl
    go_enter Try.func54, Try.ntmps54
    go_upto_region 2 with (go_at_call 80; refine (HS.out _ HB.out).mono ?_; rintro e y ⟨rfl, hy⟩; have HY := Lib.hid (HB.out.trans (hy.mono HB.out.size)); clear hy)
    refine wp_region_held_drew (S := fun W => Below w.heap.size w W) (by kernel_rfl) (below_drewN' HY.out 1) (fun hS => ?_)
    refine wpAnyH_take (i := 0) (v := .slice a L.length c) rfl (by kernel_rfl) (by kernel_rfl) (by kernel_rfl) (fun _ _ _ h => h) (Or.inl ⟨by simp [Region.wanted], fun W _ => by go_simp⟩) hS ?_
    simp only [List.getElem_toArray, List.getElem_cons_zero, Act.put, List.setIfInBounds_toArray, List.set_cons_zero, List.set_cons_succ]
    refine wpAnyH_take (i := 1) (v := .int .i64 (PO : Int)) rfl (by kernel_rfl) (by kernel_rfl) (by kernel_rfl) (fun _ _ _ h => h) (Or.inl ⟨by simp [Region.wanted], fun W _ => by go_simp⟩) hS ?_
    simp only [List.getElem_toArray, List.getElem_cons_zero, List.getElem_cons_succ, Act.put, List.setIfInBounds_toArray, List.set_cons_zero, List.set_cons_succ]
    refine wpAnyH_take (i := 2) (v := .slice a1 (AL).length c) rfl (by kernel_rfl) (by kernel_rfl) (by kernel_rfl) (fun _ _ _ h => h) (Or.inl ⟨by simp [Region.wanted], fun W hW => by rw [← HS1.out]; go_simp⟩) hS ?_
    simp only [List.getElem_toArray, List.getElem_cons_zero, List.getElem_cons_succ, Act.put, List.setIfInBounds_toArray, List.set_cons_zero, List.set_cons_succ]
    refine wpAnyH_take (i := 3) (v := .slice a L.length c) rfl (by kernel_rfl) (by kernel_rfl) (by kernel_rfl) (fun _ _ _ h => h) (Or.inl ⟨by simp [Region.wanted], fun W _ => by go_simp⟩) hS ?_
    simp only [List.getElem_toArray, List.getElem_cons_zero, List.getElem_cons_succ, Act.put, List.setIfInBounds_toArray, List.set_cons_zero, List.set_cons_succ]
    refine wpAnyH_take (i := 4) (v := .int .i64 (PO : Int)) rfl (by kernel_rfl) (by kernel_rfl) (by kernel_rfl) (fun _ _ _ h => h) (Or.inl ⟨by simp [Region.wanted], fun W _ => by go_simp⟩) hS ?_
    simp only [List.getElem_toArray, List.getElem_cons_zero, List.getElem_cons_succ, Act.put, List.setIfInBounds_toArray, List.set_cons_zero, List.set_cons_succ]
    refine wpAnyH_take (i := 5) (v := .slice a2 DL.length (c - PO)) rfl (by kernel_rfl) (by kernel_rfl) (by kernel_rfl) (fun _ _ _ h => h) (Or.inl ⟨by simp [Region.wanted], fun W hW => by rw [← HS2.out]; go_simp⟩) hS ?_
    simp only [List.getElem_toArray, List.getElem_cons_zero, List.getElem_cons_succ, Act.put, List.setIfInBounds_toArray, List.set_cons_zero, List.set_cons_succ]
    refine wpAnyH_take (i := 6) (v := .slice a1 (AL).length c) rfl (by kernel_rfl) (by kernel_rfl) (by kernel_rfl) (fun _ _ _ h => h) (Or.inl ⟨by simp [Region.wanted], fun W _ => by go_simp⟩) hS ?_
    simp only [List.getElem_toArray, List.getElem_cons_zero, List.getElem_cons_succ, Act.put, List.setIfInBounds_toArray, List.set_cons_zero, List.set_cons_succ]
    refine wpAnyH_take (i := 7) (v := .slice a2 DL.length (c - PO)) rfl (by kernel_rfl) (by kernel_rfl) (by kernel_rfl) (fun _ _ _ h => h) (Or.inl ⟨by simp [Region.wanted], fun W _ => by go_simp⟩) hS ?_
    simp only [List.getElem_toArray, List.getElem_cons_zero, List.getElem_cons_succ, Act.put, List.setIfInBounds_toArray, List.set_cons_zero, List.set_cons_succ]
    refine wpAnyH_done (by kernel_rfl) ?_ _
    have HYD := Lib.hid hS
    clear hS HY
    go_wp2_with (first | ((with_reducible refine atSlice (ty := 24) (x := .tmp 27) (lo := some (.const (.int .i64 1))) (hi := none) (mx := none) rfl ?_); refine wpList_op_run rfl (.slice a3 BL.length (c - PO - 1)) (by rw [← HS3.out]; go_simp) ?_) | (go_at_call 41; refine (HCO.out _ HYD.out _).mono ?_; rw [HCE.out]; rintro e w3 ⟨v3, rfl, hv3⟩; have H3 := Lib.hid hv3; clear hv3))
    go_ret
    exact ⟨v3, rfl, own_from H3.out.row (by have h0 := HYD.out.size; simp at h0 ⊢; omega), HYD.out.trans ((((Below.refl _ _).alloc (Nat.le_refl _) _).trans (H3.out.lo.mono (by simp))).mono HYD.out.size)⟩

set_option maxRecDepth 100000 in
set_option maxHeartbeats 8000000 in
theorem putRate (a : Option Addr) (c : Nat) (L : List Item) (id : Int) (ta : Option Addr) (tc : Nat) (M : List Item) (w : World) (hr : RowsOf 2 w a L) (hk : ItemsOk 2 1000 L) (hs : riseL lt1 L = true) (hcap : L.length ≤ c) (hm : RowsOf 2 w ta M) (hmk : ∀ x ∈ M, x.length = 2) (hml : M.length ≤ 1) :
    Calls Try.prog 56 #[.slice a L.length c, .int .i64 id, .func (.func 48) #[] #[], .slice ta M.length tc] w fun e w' => ∃ v, e = .returned v ∧ w'.ownsRow w.heap.size 47 2 v (L.take (posL (c1 id) L) ++ (M ++ behindL (c1 id) L)).length (flatI (L.take (posL (c1 id) L) ++ (M ++ behindL (c1 id) L))) ∧ Below w.heap.size w w' := by
  have HS := Lib.hid (fun W (h : Below w.heap.size w W) => placeRate a c L id W (hr.below h) hk hs)
  have hpl := posL_le (c1 id) L
  have hlt := @foundL_lt (c1 id) L
  obtain ⟨BL, hBL⟩ : ∃ x, behindL (c1 id) L = x := ⟨_, rfl⟩
  have hBL2 := hBL
  unfold behindL at hBL2
  rw [hBL]
  clear hBL
  generalize foundL (c1 id) L = FO at *
  generalize posL (c1 id) L = PO at *
  obtain ⟨a1, hs1, hr1⟩ := rows_to hr hpl hcap
  obtain ⟨a2, hs2, hr2, hc2⟩ := rows_from hr hpl hcap
  have hkl := hk.1
  have hpc : PO ≤ c := by omega
  have HKT := Lib.hid (show ∀ x ∈ L.take PO, x.length = 2 from fun x hx => (hk.2 x (List.mem_of_mem_take hx)).1)
  have HKD := Lib.hid (show ∀ n, ∀ x ∈ L.drop n, x.length = 2 from fun n x hx => (hk.2 x (List.mem_of_mem_drop hx)).1)
  have HKM := Lib.hid hmk
  have HMM := Lib.hid hm
  have HR1 := Lib.hid hr1
  have HS1 := Lib.hid hs1
  have HS2 := Lib.hid hs2
  have HLT := Lib.hid (show (L.take PO).length = PO by rw [List.length_take]; omega)
  have HLD := Lib.hid (show ∀ n, (L.drop n).length = L.length - n from fun n => List.length_drop)
  clear hs1 hs2 hr1 hm hmk hs hk
  have HB := Lib.hid (Below.refl w.heap.size w)
  generalize L.take PO = AL at *
  cases FO with
  | false =>
    have hBL : L.drop PO = BL := by simpa using hBL2
    rw [hBL] at hr2 hc2 HS2
    have HKB := Lib.hid (show ∀ x ∈ BL, x.length = 2 from hBL ▸ HKD.out PO)
    have HCL := Lib.hid (show (catP [⟨a1, c, AL⟩, ⟨ta, tc, M⟩, ⟨a2, c - PO, BL⟩]).length ≤ 1500 by simp only [catP, List.map_cons, List.map_nil, List.flatten_cons, List.flatten_nil, List.append_nil, List.length_append]; rw [← hBL, HLT.out, HLD.out]; omega)
    have HCE := Lib.hid (show catP [⟨a1, c, AL⟩, ⟨ta, tc, M⟩, ⟨a2, c - PO, BL⟩] = AL ++ (M ++ BL) by simp [catP])
    have HCO := Lib.hid (fun W (hb : Below w.heap.size w W) T => concatRate W.heap.size 3 [⟨a1, c, AL⟩, ⟨ta, tc, M⟩, ⟨a2, c - PO, BL⟩] (W.alloc (.cells #[.slice a1 (AL).length c, .slice ta M.length tc, .slice a2 BL.length (c - PO)] T)) (by simp) (three_at _ _ _ _ _ _ _ _ _ _ _) (three_rows (HR1.out _ (hb.alloc hb.size _)) (HMM.out.below (hb.alloc hb.size _)) (hr2.below (hb.alloc hb.size _))) (three_all HKT.out HKM.out HKB.out) HCL.out (by simp))
    have HBL := Lib.hid hBL
    clear hBL hBL2 hlt
    go_enter Try.func56, Try.ntmps56
    go_upto_region 2 with (go_at_call 81; refine (HS.out _ HB.out).mono ?_; rintro e y ⟨rfl, hy⟩; have HY := Lib.hid (HB.out.trans (hy.mono HB.out.size)); clear hy)
    refine wp_region_held_drew (S := fun W => Below w.heap.size w W) (by kernel_rfl) (below_drewN' HY.out 1) (fun hS => ?_)
    refine wpAnyH_take (i := 0) (v := .slice a L.length c) rfl (by kernel_rfl) (by kernel_rfl) (by kernel_rfl) (fun _ _ _ h => h) (Or.inl ⟨by simp [Region.wanted], fun W _ => by go_simp⟩) hS ?_
    simp only [List.getElem_toArray, List.getElem_cons_zero, Act.put, List.setIfInBounds_toArray, List.set_cons_zero, List.set_cons_succ]
    refine wpAnyH_take (i := 1) (v := .int .i64 (PO : Int)) rfl (by kernel_rfl) (by kernel_rfl) (by kernel_rfl) (fun _ _ _ h => h) (Or.inl ⟨by simp [Region.wanted], fun W _ => by go_simp⟩) hS ?_
    simp only [List.getElem_toArray, List.getElem_cons_zero, List.getElem_cons_succ, Act.put, List.setIfInBounds_toArray, List.set_cons_zero, List.set_cons_succ]
    refine wpAnyH_take (i := 2) (v := .slice a1 (AL).length c) rfl (by kernel_rfl) (by kernel_rfl) (by kernel_rfl) (fun _ _ _ h => h) (Or.inl ⟨by simp [Region.wanted], fun W hW => by rw [← HS1.out]; go_simp⟩) hS ?_
    simp only [List.getElem_toArray, List.getElem_cons_zero, List.getElem_cons_succ, Act.put, List.setIfInBounds_toArray, List.set_cons_zero, List.set_cons_succ]
    refine wpAnyH_take (i := 3) (v := .slice a L.length c) rfl (by kernel_rfl) (by kernel_rfl) (by kernel_rfl) (fun _ _ _ h => h) (Or.inl ⟨by simp [Region.wanted], fun W _ => by go_simp⟩) hS ?_
    simp only [List.getElem_toArray, List.getElem_cons_zero, List.getElem_cons_succ, Act.put, List.setIfInBounds_toArray, List.set_cons_zero, List.set_cons_succ]
    refine wpAnyH_take (i := 4) (v := .int .i64 (PO : Int)) rfl (by kernel_rfl) (by kernel_rfl) (by kernel_rfl) (fun _ _ _ h => h) (Or.inl ⟨by simp [Region.wanted], fun W _ => by go_simp⟩) hS ?_
    simp only [List.getElem_toArray, List.getElem_cons_zero, List.getElem_cons_succ, Act.put, List.setIfInBounds_toArray, List.set_cons_zero, List.set_cons_succ]
    refine wpAnyH_take (i := 5) (v := .slice a2 BL.length (c - PO)) rfl (by kernel_rfl) (by kernel_rfl) (by kernel_rfl) (fun _ _ _ h => h) (Or.inl ⟨by simp [Region.wanted], fun W hW => by rw [← HS2.out]; go_simp⟩) hS ?_
    simp only [List.getElem_toArray, List.getElem_cons_zero, List.getElem_cons_succ, Act.put, List.setIfInBounds_toArray, List.set_cons_zero, List.set_cons_succ]
    refine wpAnyH_take (i := 6) (v := .slice a1 (AL).length c) rfl (by kernel_rfl) (by kernel_rfl) (by kernel_rfl) (fun _ _ _ h => h) (Or.inl ⟨by simp [Region.wanted], fun W _ => by go_simp⟩) hS ?_
    simp only [List.getElem_toArray, List.getElem_cons_zero, List.getElem_cons_succ, Act.put, List.setIfInBounds_toArray, List.set_cons_zero, List.set_cons_succ]
    refine wpAnyH_take (i := 7) (v := .slice a2 BL.length (c - PO)) rfl (by kernel_rfl) (by kernel_rfl) (by kernel_rfl) (fun _ _ _ h => h) (Or.inl ⟨by simp [Region.wanted], fun W _ => by go_simp⟩) hS ?_
    simp only [List.getElem_toArray, List.getElem_cons_zero, List.getElem_cons_succ, Act.put, List.setIfInBounds_toArray, List.set_cons_zero, List.set_cons_succ]
    refine wpAnyH_done (by kernel_rfl) ?_ _
    have HYD := Lib.hid hS
    clear hS HY
    go_wp2_with (go_at_call 42; refine (HCO.out _ HYD.out _).mono ?_; rw [HCE.out]; rintro e w3 ⟨v3, rfl, hv3⟩; have H3 := Lib.hid hv3; clear hv3)
    go_ret
    exact ⟨v3, rfl, own_from H3.out.row (by have h0 := HYD.out.size; simp at h0 ⊢; omega), HYD.out.trans ((((Below.refl _ _).alloc (Nat.le_refl _) _).trans (H3.out.lo.mono (by simp))).mono HYD.out.size)⟩
  | true =>
    have hlt := hlt rfl
    have hBL : (L.drop PO).drop 1 = BL := by rw [List.drop_drop]; simpa using hBL2
    obtain ⟨a3, hs3, hr3, hc3⟩ := rows_from (n := 1) hr2 (by rw [HLD.out]; omega) hc2
    rw [hBL] at hs3 hr3 hc3
    have HS3 := Lib.hid hs3
    have HKB := Lib.hid (show ∀ x ∈ BL, x.length = 2 from fun x hx => HKD.out PO x (List.mem_of_mem_drop (by rw [hBL]; exact hx)))
    have HCL := Lib.hid (show (catP [⟨a1, c, AL⟩, ⟨ta, tc, M⟩, ⟨a3, c - PO - 1, BL⟩]).length ≤ 1500 by simp only [catP, List.map_cons, List.map_nil, List.flatten_cons, List.flatten_nil, List.append_nil, List.length_append]; rw [← hBL, HLT.out, List.length_drop, HLD.out]; omega)
    have HCE := Lib.hid (show catP [⟨a1, c, AL⟩, ⟨ta, tc, M⟩, ⟨a3, c - PO - 1, BL⟩] = AL ++ (M ++ BL) by simp [catP])
    have HCO := Lib.hid (fun W (hb : Below w.heap.size w W) T => concatRate W.heap.size 3 [⟨a1, c, AL⟩, ⟨ta, tc, M⟩, ⟨a3, c - PO - 1, BL⟩] (W.alloc (.cells #[.slice a1 (AL).length c, .slice ta M.length tc, .slice a3 BL.length (c - PO - 1)] T)) (by simp) (three_at _ _ _ _ _ _ _ _ _ _ _) (three_rows (HR1.out _ (hb.alloc hb.size _)) (HMM.out.below (hb.alloc hb.size _)) (hr3.below (hb.alloc hb.size _))) (three_all HKT.out HKM.out HKB.out) HCL.out (by simp))
    have HBL := Lib.hid hBL
    clear hBL hBL2 hr2 hr3 hc2 hc3
    have hdl := HLD.out PO
    obtain ⟨DL, hDL⟩ : ∃ x, L.drop PO = x := ⟨_, rfl⟩
    rw [hDL] at hdl HS2 HS3
    clear hDL HBL
    have hq : ¬ ((DL.length : Nat) : Int) < 1 := by omega
    clear hdl
    go_enter Try.func56, Try.ntmps56
    go_upto_region 2 with (go_at_call 81; refine (HS.out _ HB.out).mono ?_; rintro e y ⟨rfl, hy⟩; have HY := Lib.hid (HB.out.trans (hy.mono HB.out.size)); clear hy)
    refine wp_region_held_drew (S := fun W => Below w.heap.size w W) (by kernel_rfl) (below_drewN' HY.out 1) (fun hS => ?_)
    refine wpAnyH_take (i := 0) (v := .slice a L.length c) rfl (by kernel_rfl) (by kernel_rfl) (by kernel_rfl) (fun _ _ _ h => h) (Or.inl ⟨by simp [Region.wanted], fun W _ => by go_simp⟩) hS ?_
    simp only [List.getElem_toArray, List.getElem_cons_zero, Act.put, List.setIfInBounds_toArray, List.set_cons_zero, List.set_cons_succ]
    refine wpAnyH_take (i := 1) (v := .int .i64 (PO : Int)) rfl (by kernel_rfl) (by kernel_rfl) (by kernel_rfl) (fun _ _ _ h => h) (Or.inl ⟨by simp [Region.wanted], fun W _ => by go_simp⟩) hS ?_
    simp only [List.getElem_toArray, List.getElem_cons_zero, List.getElem_cons_succ, Act.put, List.setIfInBounds_toArray, List.set_cons_zero, List.set_cons_succ]
    refine wpAnyH_take (i := 2) (v := .slice a1 (AL).length c) rfl (by kernel_rfl) (by kernel_rfl) (by kernel_rfl) (fun _ _ _ h => h) (Or.inl ⟨by simp [Region.wanted], fun W hW => by rw [← HS1.out]; go_simp⟩) hS ?_
    simp only [List.getElem_toArray, List.getElem_cons_zero, List.getElem_cons_succ, Act.put, List.setIfInBounds_toArray, List.set_cons_zero, List.set_cons_succ]
    refine wpAnyH_take (i := 3) (v := .slice a L.length c) rfl (by kernel_rfl) (by kernel_rfl) (by kernel_rfl) (fun _ _ _ h => h) (Or.inl ⟨by simp [Region.wanted], fun W _ => by go_simp⟩) hS ?_
    simp only [List.getElem_toArray, List.getElem_cons_zero, List.getElem_cons_succ, Act.put, List.setIfInBounds_toArray, List.set_cons_zero, List.set_cons_succ]
    refine wpAnyH_take (i := 4) (v := .int .i64 (PO : Int)) rfl (by kernel_rfl) (by kernel_rfl) (by kernel_rfl) (fun _ _ _ h => h) (Or.inl ⟨by simp [Region.wanted], fun W _ => by go_simp⟩) hS ?_
    simp only [List.getElem_toArray, List.getElem_cons_zero, List.getElem_cons_succ, Act.put, List.setIfInBounds_toArray, List.set_cons_zero, List.set_cons_succ]
    refine wpAnyH_take (i := 5) (v := .slice a2 DL.length (c - PO)) rfl (by kernel_rfl) (by kernel_rfl) (by kernel_rfl) (fun _ _ _ h => h) (Or.inl ⟨by simp [Region.wanted], fun W hW => by rw [← HS2.out]; go_simp⟩) hS ?_
    simp only [List.getElem_toArray, List.getElem_cons_zero, List.getElem_cons_succ, Act.put, List.setIfInBounds_toArray, List.set_cons_zero, List.set_cons_succ]
    refine wpAnyH_take (i := 6) (v := .slice a1 (AL).length c) rfl (by kernel_rfl) (by kernel_rfl) (by kernel_rfl) (fun _ _ _ h => h) (Or.inl ⟨by simp [Region.wanted], fun W _ => by go_simp⟩) hS ?_
    simp only [List.getElem_toArray, List.getElem_cons_zero, List.getElem_cons_succ, Act.put, List.setIfInBounds_toArray, List.set_cons_zero, List.set_cons_succ]
    refine wpAnyH_take (i := 7) (v := .slice a2 DL.length (c - PO)) rfl (by kernel_rfl) (by kernel_rfl) (by kernel_rfl) (fun _ _ _ h => h) (Or.inl ⟨by simp [Region.wanted], fun W _ => by go_simp⟩) hS ?_
    simp only [List.getElem_toArray, List.getElem_cons_zero, List.getElem_cons_succ, Act.put, List.setIfInBounds_toArray, List.set_cons_zero, List.set_cons_succ]
    refine wpAnyH_done (by kernel_rfl) ?_ _
    have HYD := Lib.hid hS
    clear hS HY
    go_wp2_with (first | ((with_reducible refine atSlice (ty := 25) (x := .tmp 27) (lo := some (.const (.int .i64 1))) (hi := none) (mx := none) rfl ?_); refine wpList_op_run rfl (.slice a3 BL.length (c - PO - 1)) (by rw [← HS3.out]; go_simp) ?_) | (go_at_call 42; refine (HCO.out _ HYD.out _).mono ?_; rw [HCE.out]; rintro e w3 ⟨v3, rfl, hv3⟩; have H3 := Lib.hid hv3; clear hv3))
    go_ret
    exact ⟨v3, rfl, own_from H3.out.row (by have h0 := HYD.out.size; simp at h0 ⊢; omega), HYD.out.trans ((((Below.refl _ _).alloc (Nat.le_refl _) _).trans (H3.out.lo.mono (by simp))).mono HYD.out.size)⟩
end Go.Proofs.Ytofmkbijhmbbcaa

/- The example of books. The law's alive. -/
import Derived.Test.YtellifcjamedkaaGreatMKr
import Derived.Test.YtellifcjamedkaaGreatMBm
import Derived.Test.YtellifcjamedkaaGreatDpDiff
import Derived.Test.YtellifcjamedkaaGreatDfSame
namespace Go.Proofs.YtellifcjamedkaaGreat
open Go.RowKit Base Base2
def noSlots : Slots := ⟨none, none, none, none, 0, 0, 0, 0⟩
def noBook : BookT := ⟨[], [], [], [], 0⟩
theorem in_none (W : World) : BookIn W noSlots noBook := ⟨.inl rfl, .inl rfl, .inl rfl, .inl rfl⟩
theorem ok_of {k : Nat} {l : List Item} (h1 : l.length ≤ 400) (h2 : l.all (fun x => x.length == k && x.all (fun z => decide (-9223372036854775808 ≤ z) && decide (z ≤ 9223372036854775807))) = true) : ItemsOk k 400 l := by
  refine ⟨h1, fun x hx => ?_⟩
  have h := List.all_eq_true.1 h2 x hx
  rw [Bool.and_eq_true] at h
  refine ⟨by simpa using h.1, fun z hz => ?_⟩
  have := List.all_eq_true.1 h.2 z hz
  simpa [in6] using this
theorem noBook_ok : BookOk 400 noBook := ⟨ok_of (by decide) rfl, ok_of (by decide) rfl, ok_of (by decide) rfl, ok_of (by decide) rfl, ⟨by decide, by decide⟩⟩
end Go.Proofs.YtellifcjamedkaaGreat
namespace Go.Proofs.YtellifcjamedkaaGreat
open Go.RowKit Base Base2
theorem flatK_len : ∀ l : List ChV, (flatK l).length = l.length * 5
  | [] => rfl
  | x :: l => by
    show (x.cells ++ flatK l).length = _
    rw [List.length_append, flatK_len l, List.length_cons, Nat.add_mul]; simp [ChV.cells]; omega
theorem flatK_get : ∀ (l : List ChV) (i : Nat) (x : ChV), l[i]? = some x → ∀ (j : Nat) (u : Value), x.cells[j]? = some u → (flatK l)[i * 5 + j]? = some u
  | [], i, x, h => by simp at h
  | y :: l, 0, x, h => fun j u hu => by
    obtain rfl : y = x := by simpa using h
    have e : flatK (y :: l) = y.cells ++ flatK l := rfl
    have hj := (List.getElem?_eq_some_iff.1 hu).1
    rw [e, Nat.zero_mul, Nat.zero_add, List.getElem?_append_left hj]; exact hu
  | y :: l, i + 1, x, h => fun j u hu => by
    have ih := flatK_get l i x (by simpa using h) j u hu
    have e : flatK (y :: l) = y.cells ++ flatK l := rfl
    have hl : y.cells.length = 5 := rfl
    rw [e, List.getElem?_append_right (by omega), hl, show (i + 1) * 5 + j - 5 = i * 5 + j by omega]
    exact ih
/-- Changes of a row that is owned lie there, in whatever later world. -/
theorem chAt_own {W : World} {B : Nat} {e : TypeId} {o : List ChV} {v : Value} (h : W.ownsRow B e 5 v o.length (flatK o)) : ∃ a c, v = .slice a o.length c ∧ o.length ≤ c ∧ ∀ W', Below W.heap.size W W' → ChAt W' a o := by
  obtain ⟨a, c, hv, hc⟩ : ∃ a c, v = .slice a o.length c ∧ o.length ≤ c := by
    rcases h.2 with ⟨rfl, hn⟩ | ⟨g, cap, cur, rfl, _, _, hc, _⟩
    · exact ⟨none, 0, by rw [hn], by omega⟩
    · exact ⟨_, _, rfl, hc⟩
  refine ⟨a, c, hv, hc, fun W' hb i x hx => ?_⟩
  have h' := own_below' h hb
  subst hv
  rcases h'.2 with ⟨hv, hn⟩ | ⟨g, cap, cur, hv, _⟩
  · rw [List.length_eq_zero_iff.1 hn] at hx; cases hx
  · simp only [Value.slice.injEq] at hv
    obtain ⟨rfl, _, rfl⟩ := hv
    have hc : ∀ m u, (flatK o)[m]? = some u → W'.cell? ⟨g, m, none⟩ = some u := fun m u hu => by
      have hm := (List.getElem?_eq_some_iff.1 hu).1
      rw [flatK_len] at hm
      rw [h'.cellAt m hm]; exact hu
    have hg := flatK_get o i x hx
    refine ⟨g, 0, rfl, ?_, ?_, ?_, ?_, ?_⟩ <;> rw [Nat.zero_add]
    · exact hc _ _ (hg 0 _ rfl)
    · exact hc _ _ (hg 1 _ rfl)
    · exact hc _ _ (hg 2 _ rfl)
    · exact hc _ _ (hg 3 _ rfl)
    · exact hc _ _ (hg 4 _ rfl)
theorem row_oneD (w : World) (x : Item) (T : TypeId) {k : Nat} : RowsOf k (w.alloc (.cells (x.map (Value.int .i64)).toArray T)) (some ⟨w.heap.size, 0, none⟩) [x] := by
  refine .inr ⟨w.heap.size, 0, rfl, by simp, fun i y hi j z hz => ?_⟩
  match i, hi with
  | 0, hi =>
    simp at hi; subst hi
    rw [show 0 + 0 * k + j = j by omega, cell_of_row _ _ j _ T (0, 0) (heap_alloc_new w _)]
    simp [hz]
  | i + 1, hi => simp at hi
/-- The example's books, and how they differ. -/
def exR : BookT := ⟨[], [], [], [[3, 10]], 0⟩
theorem noBook_ok2 : BookOk 2000 noBook := noBook_ok.mono (by omega)
theorem exR_ok : BookOk 2000 exR := (show BookOk 400 exR from ⟨ok_of (by decide) rfl, ok_of (by decide) rfl, ok_of (by decide) rfl, ok_of (by decide) rfl, ⟨by decide, by decide⟩⟩).mono (by omega)
theorem exR_diff : diffT noBook exR = [⟨4, 3, 0, [], [10]⟩] := by
  show mergeD [rwC 0] [rwR [3, 10], rwC 0] = _
  rw [merge_cc, if_neg (by decide), if_pos (by decide), merge_cnt, if_pos rfl]
  rfl
theorem exR_in (W : World) : BookIn (W.alloc (.cells #[.int .i64 3, .int .i64 10] 50)) ⟨none, none, none, some ⟨W.heap.size, 0, none⟩, 0, 0, 0, 1⟩ exR :=
  ⟨.inl rfl, .inl rfl, .inl rfl, row_oneD W [3, 10] 50⟩
theorem chAt_one (W : World) (x : ChV) (t : TypeId) : ChAt (W.alloc (.cells x.cells.toArray t)) (some ⟨W.heap.size, 0, none⟩) [x] := fun i y hi => by
  match i, hi with
  | 0, hi =>
    obtain rfl : x = y := by simpa using hi
    have h := heap_alloc_new W (.cells x.cells.toArray t)
    refine ⟨W.heap.size, 0, rfl, ?_, ?_, ?_, ?_, ?_⟩ <;> (rw [cell_of_row _ _ _ _ t (0, 0) h]; rfl)
  | i + 1, hi => simp at hi
theorem ch2 (w2 : World) : ChAt ((w2.alloc (.cells #[.int .i64 10] 2)).alloc (.cells #[.int .i64 4, .int .i64 3, .int .i64 0, .slice none 0 0, .slice (some ⟨w2.heap.size, 0, none⟩) 1 1] 43)) (some ⟨w2.heap.size + 1, 0, none⟩) [⟨⟨4, 3, 0, [], [10]⟩, none, 0, some ⟨w2.heap.size, 0, none⟩, 1⟩] := by
  have h := chAt_one (w2.alloc (.cells #[.int .i64 10] 2)) ⟨⟨4, 3, 0, [], [10]⟩, none, 0, some ⟨w2.heap.size, 0, none⟩, 1⟩ 43
  rw [World.size_alloc] at h
  exact h
theorem valD2 (w2 : World) : ∀ x ∈ [(⟨⟨4, 3, 0, [], [10]⟩, none, 0, some ⟨w2.heap.size, 0, none⟩, 1⟩ : ChV)], ValAt ((w2.alloc (.cells #[.int .i64 10] 2)).alloc (.cells #[.int .i64 4, .int .i64 3, .int .i64 0, .slice none 0 0, .slice (some ⟨w2.heap.size, 0, none⟩) 1 1] 43)) x.a1 x.c.was ∧ ValAt ((w2.alloc (.cells #[.int .i64 10] 2)).alloc (.cells #[.int .i64 4, .int .i64 3, .int .i64 0, .slice none 0 0, .slice (some ⟨w2.heap.size, 0, none⟩) 1 1] 43)) x.a2 x.c.now := fun x hx => by
  rw [List.mem_singleton.1 hx]
  exact ⟨.inl rfl, (ValAt.new w2 [10]).below ((Below.refl _ _).alloc (Nat.le_refl _) _)⟩
theorem below_drews' {B : Nat} (a : World) (m : Nat) : Below B a (a.drewN m) := ⟨rfl, rfl, rfl, Nat.le_refl _, fun _ _ => rfl⟩
set_option maxRecDepth 100000 in
set_option maxHeartbeats 8000000 in
theorem alive5 (w : World) : Calls Tryz.prog 4 #[] w fun e w' => e = .returned (.bool true) ∧ Below w.heap.size w w' := by
  have HD := Lib.hid (show Calls Tryz.prog 17 #[.agg #[.slice none 0 0, .slice none 0 0, .slice none 0 0, .slice none 0 0, .int .i64 0], .agg #[.slice none 0 0, .slice none 0 0, .slice none 0 0, .slice (some ⟨w.heap.size, 0, none⟩) 1 1, .int .i64 0]] (w.alloc (.cells #[.int .i64 3, .int .i64 10] 50)) (DiffOut (w.alloc (.cells #[.int .i64 3, .int .i64 10] 50)) [⟨4, 3, 0, [], [10]⟩]) by
    have h := diff_yes noSlots ⟨none, none, none, some ⟨w.heap.size, 0, none⟩, 0, 0, 0, 1⟩ noBook exR (w.alloc (.cells #[.int .i64 3, .int .i64 10] 50)) (in_none _) (exR_in w) noBook_ok2 exR_ok (by decide) (by decide)
    rw [exR_diff] at h
    exact h)
  have HW := Lib.hid ((Below.refl _ w).alloc (Nat.le_refl _) (.cells #[.int .i64 3, .int .i64 10] 50))
  go_enter Tryz.func4, Tryz.ntmps4
  go_wp2_with (first
    | (go_at_call 17; refine HD.out.mono ?_; rintro e w1 ⟨vo, o, rfl, hc1, hm1⟩; obtain ⟨oa, oc, hvo, _, hca⟩ := chAt_own hc1.row; subst hvo; have HC1 := Lib.hid hc1; have HM1 := Lib.hid hm1; have HCA := Lib.hid hca; have HB1 := Lib.hid (show Below w.heap.size w w1 from HW.out.trans (hc1.lo.mono HW.out.size)); have hol := congrArg List.length hm1; rw [List.length_map] at hol; have HOL := Lib.hid hol; clear hc1 hm1 hca hol)
    | (go_at_call 9; refine (plain11 oa oc o _ (by rw [HOL.out]; decide) HCA.out HC1.out.val).mono ?_; rintro e w2 ⟨vp, rfl, hc2⟩; obtain ⟨pa, pc, hvp, _, hcp⟩ := chAt_own hc2.row; subst hvp; have HC2 := Lib.hid hc2; have HCP := Lib.hid hcp; clear hc2 hcp)
    | (go_at_call 12; refine (rsameC pa (some ⟨w2.heap.size + 1, 0, none⟩) pc 1 o [⟨⟨4, 3, 0, [], [10]⟩, none, 0, some ⟨w2.heap.size, 0, none⟩, 1⟩] ((w2.alloc (.cells #[.int .i64 10] 2)).alloc (.cells #[.int .i64 4, .int .i64 3, .int .i64 0, .slice none 0 0, .slice (some ⟨w2.heap.size, 0, none⟩) 1 1] 43)) (HCP.out _ (((Below.refl _ _).alloc (Nat.le_refl _) _).alloc (by simp) _)) (ch2 w2) (fun x hx => ⟨((HC2.out.val x hx).1.below (((Below.refl _ _).alloc (Nat.le_refl _) _).alloc (by simp) _)), ((HC2.out.val x hx).2.below (((Below.refl _ _).alloc (Nat.le_refl _) _).alloc (by simp) _))⟩) (valD2 w2) (fun x hx => (by have h : x.c ∈ o.map ChV.c := List.mem_map_of_mem hx; rw [HM1.out] at h; rw [List.mem_singleton.1 h]; decide)) true ⟨fun _ => HM1.out, fun _ => rfl⟩ (by rw [← List.length_map (f := ChV.c), HM1.out]; decide)).mono ?_; rintro e w4 ⟨rfl, m, hw4⟩; subst hw4))
  go_ret
  exact ⟨rfl, (HB1.out.trans (HC2.out.lo.mono HB1.out.size)).trans ((((((Below.refl _ w2).alloc (Nat.le_refl _) _).alloc (by simp) _).trans (below_drews' _ m)).mono (by have := HC2.out.lo.size; have := HB1.out.size; omega)))⟩
end Go.Proofs.YtellifcjamedkaaGreat

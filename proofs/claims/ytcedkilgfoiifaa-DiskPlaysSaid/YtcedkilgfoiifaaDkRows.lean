/- Rows of pending writes: one put behind another. -/
import Derived.Test.YtcedkilgfoiifaaDkCrash
namespace Go.Proofs.Ytcedkilgfoiifaa
open Go.RowKit Base Base2

def flatW (l : List WriteT) : List Value := l.flatMap wcells
theorem flatW_len (l : List WriteT) : (flatW l).length = l.length * 3 := by
  induction l with
  | nil => rfl
  | cons p l ih =>
    show (wcells p ++ flatW l).length = _
    rw [List.length_append, ih, List.length_cons]
    show 3 + l.length * 3 = _
    omega
theorem flatW_snoc (l : List WriteT) (p : WriteT) : flatW (l ++ [p]) = flatW l ++ wcells p := by simp [flatW]
theorem flatW_at (l : List WriteT) : ∀ (i : Nat) (p : WriteT), l[i]? = some p → ∀ (j : Nat) (v : Value), (wcells p)[j]? = some v → (flatW l)[i * 3 + j]? = some v := by
  induction l with
  | nil => intro i p h; simp at h
  | cons x l ih =>
    intro i p h j v hv
    have e : flatW (x :: l) = wcells x ++ flatW l := by simp [flatW]
    have hx : (wcells x).length = 3 := rfl
    rw [e]
    cases i with
    | zero =>
      simp at h; subst h
      have hj : j < 3 := by have := (List.getElem?_eq_some_iff.1 hv).1; simpa [hx] using this
      rw [List.getElem?_append_left (by rw [hx]; omega)]
      simpa using hv
    | succ i =>
      have := ih i p (by simpa using h) j v hv
      rw [List.getElem?_append_right (by rw [hx]; omega), hx]
      rw [show (i + 1) * 3 + j - 3 = i * 3 + j by omega]
      exact this
theorem flatW_cell (l : List WriteT) (k : Nat) (v : Value) (h : (flatW l)[k]? = some v) : ∃ p, l[k / 3]? = some p ∧ (wcells p)[k % 3]? = some v := by
  have hk : k < (flatW l).length := (List.getElem?_eq_some_iff.1 h).1
  rw [flatW_len] at hk
  have hi : k / 3 < l.length := by omega
  refine ⟨l[k / 3], by simp [hi], ?_⟩
  have hw : ∃ u, (wcells l[k / 3])[k % 3]? = some u := ⟨(wcells l[k / 3])[k % 3]'(by show k % 3 < 3; omega), List.getElem?_eq_getElem _⟩
  obtain ⟨u, hu⟩ := hw
  have := flatW_at l (k / 3) l[k / 3] (by simp [hi]) (k % 3) u hu
  rw [show k / 3 * 3 + k % 3 = k by omega, h] at this
  rw [hu, this]
theorem one_w (l : List WriteT) : ∀ u ∈ flatW l, u.oneCell' = true := by
  intro u hu
  obtain ⟨p, _, h⟩ := List.mem_flatMap.1 hu
  simp [wcells] at h
  rcases h with rfl | rfl | rfl <;> rfl
theorem infoWz : (Try.prog.info? 49).map (fun i => (i.zero, i.size, i.bytes)) = some (some (.agg #[.string ⟨#[]⟩, .int .i64 0, .string ⟨#[]⟩]), 3, 40) := by kernel_rfl
theorem sizeW (W : World) : (sizeOf 49).run Try.prog W = .ok 3 W := by kernel_rfl
theorem run_append_noneW (w : World) (ty : TypeId) {base : Nat} {v : Value} {n cp : Nat} {xs : List Value} (hown : w.ownsRow base 49 3 v n xs) : (Builtin.append_ #[31, 31] ty #[v, .slice none 0 cp]).run Try.prog w = .ok v w := by
  have hs : (sizeOf 49).run Try.prog w = .ok 3 w := sizeW w
  rcases hown.2 with ⟨rfl, rfl⟩ | ⟨g, cap, cur, rfl, _, _, h3, _⟩
  · simp [Builtin.append_, run_underlying Try.underlying31, hs, Builtin.lenOf, Builtin.firstCells, Sem.run_bind, Result.andThen]
  · simp [Builtin.append_, run_underlying Try.underlying31, hs, Builtin.lenOf, Builtin.firstCells, Sem.run_bind, Result.andThen, h3, storeCells]
/-- Pending writes, put behind a row of one's own. -/
theorem wp_append_pend {w : World} {o : Oper} {a : Act} {K : Act → World → Prop} {Q' : Exit → Act → World → Prop} (s x : Operand)
    (ho : o.op = .call { callee := .builtin .append, args := #[s, x], argTypes := #[31, 31] }) (base : Nat) {i : TypeInfo} (hi : Try.prog.info? 49 = some i) (hz : i.zero = some (.agg #[.string ⟨#[]⟩, .int .i64 0, .string ⟨#[]⟩])) (hsize : i.size = 3) (hby : i.bytes = 40)
    (v : Value) (hs : a.eval s = v) (hown : w.ownsRow base 49 3 v 0 []) (ap : Option Addr) (Q : List WriteT) (cp : Nat) (hx : a.eval x = .slice ap Q.length cp) (hq : PendAt w ap Q)
    (hn : Q.length ≤ 100000) (hbase : base ≤ w.heap.size)
    (h : ∀ v' w', w'.ownsRow base 49 3 v' Q.length (flatW Q) → w.grownBy w' v.ownBlock → K (a.put o.dst v') w') : o.wp Try.prog a w K Q' := by
  rcases ap with _ | ad
  · have hQ : Q = [] := by
      rcases hq with h | ⟨b, off, h, _⟩
      · exact h
      · cases h
    subst hQ
    have hr := run_append_noneW w o.type (cp := cp) hown
    unfold Oper.wp execOp
    simp only [ho, resolve, invoke, builtin, Sem.run_bind, Sem.run_pure, Result.andThen_ok, List.map_toArray, List.map_cons, List.map_nil, hs, hx, List.length_nil, hr]
    exact h v w (by simpa [flatW] using hown) ⟨rfl, rfl, rfl, Nat.le_refl _, fun _ _ _ => rfl⟩
  · refine wp_append_own _ s x 31 ho base 49 i (.agg #[.string ⟨#[]⟩, .int .i64 0, .string ⟨#[]⟩]) 3 40 Try.underlying31 hi hz hsize hby rfl (by decide) v 0 [] hs hown ad Q.length cp (flatW Q) hx (flatW_len Q) ?_ (one_w Q) (by unfold maxLen; omega) (by omega) hbase (fun v' w' h1 h2 _ => h v' w' (by simpa using h1) h2)
    intro j u hj
    obtain ⟨p, hp, hu⟩ := flatW_cell Q j u hj
    rcases hq with rfl | ⟨b, off, h, _, hc⟩
    · simp at hp
    · cases h
      have := hc (j / 3) p hp (j % 3) u hu
      rw [Addr.add_mid, show off + j = off + j / 3 * 3 + j % 3 by omega]
      exact this
theorem pend_own {W : World} {base : Nat} {v : Value} {l : List WriteT} (h : W.ownsRow base 49 3 v l.length (flatW l)) : ∃ a c, v = .slice a l.length c ∧ l.length ≤ c ∧ PendAt W a l ∧ ∀ b, (∃ off, a = some ⟨b, off, none⟩) → base ≤ b := by
  rcases h.2 with ⟨rfl, h0⟩ | ⟨g, cap, cur, rfl, h1, h2, h3, h4, h5, h6⟩
  · have : l = [] := List.eq_nil_of_length_eq_zero (by omega)
    subst this
    exact ⟨none, 0, rfl, Nat.le_refl _, .inl rfl, by simp⟩
  · refine ⟨some ⟨g, 0, none⟩, cap, rfl, h3, .inr ⟨g, 0, rfl, lt_of_blkD h2, fun i p hi j v hv => ?_⟩, by rintro b ⟨off, hb⟩; simp at hb; omega⟩
    have c1 := h.cells (g := g) rfl (i * 3 + j) v (flatW_at l i p hi j v hv)
    rw [Addr.add_mid, Nat.zero_add] at c1
    rw [Nat.zero_add]
    exact c1
theorem pend_off {W : World} {base g q : Nat} {a : Option Addr} {l : List WriteT} (h : PendAt W a l) (hb : ∀ b, (∃ off, a = some ⟨b, off, none⟩) → base ≤ b) (hg : g < base) (hq : q < base) : PendOff W g q a l := by
  rcases h with h | ⟨b, off, h1, h2, h3⟩
  · exact .inl h
  · have := hb b ⟨off, h1⟩
    exact .inr ⟨b, off, h1, h2, by omega, by omega, h3⟩
theorem new_w (W : World) (p : WriteT) : ∀ (j : Nat) (u : Value), (wcells p)[j]? = some u → (W.alloc (.cells #[.string p.1, .int .i64 (p.2.1 : Int), .string p.2.2] 49)).cell? ((⟨W.heap.size, 0, none⟩ : Addr).add j) = some u := by
  intro j u hj
  rw [Addr.add_mid, Nat.zero_add, cell_of_row _ _ _ _ 49 (0, 0) (heap_alloc_new W _)]
  match j, hj with
  | 0, hj => exact hj
  | 1, hj => exact hj
  | 2, hj => exact hj
theorem own_none (W : World) (base : Nat) (hb : base ≤ W.heap.size) : (W.alloc (.cells #[] 49)).ownsRow base 49 3 (.slice (some ⟨W.heap.size, 0, none⟩) 0 0) 0 [] :=
  ⟨rfl, .inr ⟨W.heap.size, 0, #[], rfl, hb, heap_alloc_new W _, Nat.le_refl _, Nat.zero_le _, rfl, rfl⟩⟩

/-! ### What a write does -/
theorem writesF_arg {d : DkT} {name s : ByteArray} {pl : Int} (h : namedS name = false ∨ s.size = 0) : writesF d name pl s = (d, 1) := if_pos h
theorem writesF_range {d : DkT} {name s : ByteArray} {pl : Int} (h : ¬ (namedS name = false ∨ s.size = 0)) (h2 : pl < 0 ∨ ((readF d.stands name).size : Int) < pl) : writesF d name pl s = (d, 11) := by unfold writesF; rw [if_neg h, if_pos h2]
theorem writesF_many {d : DkT} {name s : ByteArray} {pl : Int} (h : ¬ (namedS name = false ∨ s.size = 0)) (h2 : ¬ (pl < 0 ∨ ((readF d.stands name).size : Int) < pl)) (h3 : (readF d.stands name).size = 0 ∧ d.stands.length = 4096) : writesF d name pl s = (d, 4) := by unfold writesF; rw [if_neg h, if_neg h2, if_pos h3]
theorem writesF_full {d : DkT} {name s : ByteArray} {pl : Int} (h : ¬ (namedS name = false ∨ s.size = 0)) (h2 : ¬ (pl < 0 ∨ ((readF d.stands name).size : Int) < pl)) (h3 : ¬ ((readF d.stands name).size = 0 ∧ d.stands.length = 4096)) (h4 : d.room < (usedF (putF d.stands name pl.toNat s) : Int)) : writesF d name pl s = (d, 6) := by unfold writesF; rw [if_neg h, if_neg h2, if_neg h3, if_pos h4]
theorem writesF_ok {d : DkT} {name s : ByteArray} {pl : Int} (h : ¬ (namedS name = false ∨ s.size = 0)) (h2 : ¬ (pl < 0 ∨ ((readF d.stands name).size : Int) < pl)) (h3 : ¬ ((readF d.stands name).size = 0 ∧ d.stands.length = 4096)) (h4 : ¬ d.room < (usedF (putF d.stands name pl.toNat s) : Int)) : writesF d name pl s = ({ d with stands := putF d.stands name pl.toNat s, pend := d.pend ++ [(name, pl.toNat, s)] }, 0) := by unfold writesF; rw [if_neg h, if_neg h2, if_neg h3, if_neg h4]
theorem usedF_insF (name s : ByteArray) : usedF (insF name s) ≤ s.size := by
  unfold insF; split
  · simp [usedF]
  · simp [usedF]
theorem usedF_cons (f : FileT) (l : List FileT) : usedF (f :: l) = f.2.size + usedF l := by simp [usedF]
theorem usedF_setG (name s : ByteArray) (l : List FileT) : ∀ d, usedF (setG name s d l) ≤ usedF l + (if d = true then 0 else s.size) := by
  have hi := usedF_insF name s
  induction l with
  | nil => intro d; cases d with
    | false => simpa [setG] using Nat.le_trans hi (by omega)
    | true => simp [setG, usedF]
  | cons x l ih =>
    have hx : usedF (if x.1 = name then ([] : List FileT) else [x]) ≤ x.2.size := by split <;> simp [usedF]
    intro d
    rw [usedF_cons]
    have h1 := ih true; have h2 := ih false
    simp only [if_true, if_false, Bool.false_eq_true, Nat.add_zero] at h1 h2
    cases d with
    | true => unfold setG; rw [usedF_app]; simp only [if_true]; omega
    | false =>
      unfold setG
      simp only [if_false, Bool.false_eq_true]
      split
      · rw [usedF_app, usedF_app]; omega
      · rw [usedF_app]; omega
theorem readF_used (l : List FileT) (name : ByteArray) : (readF l name).size ≤ usedF l := by
  induction l with
  | nil => exact Nat.zero_le _
  | cons x l ih =>
    rw [usedF_cons]
    by_cases hx : x.1 = name
    · have : readF (x :: l) name = x.2 := by unfold readF; rw [List.find?_cons]; simp [hx]
      rw [this]; omega
    · have : readF (x :: l) name = readF l name := by unfold readF; rw [List.find?_cons]; simp [hx]
      rw [this]; omega
theorem usedF_put (l : List FileT) (name s : ByteArray) (pl : Nat) (hp : pl ≤ (readF l name).size) : usedF (putF l name pl s) ≤ 2 * usedF l + s.size := by
  have h := usedF_setG name (bytesL (putB (readF l name) pl s)) l false
  simp only [if_false, Bool.false_eq_true] at h
  rw [bytesL_size, putB_len] at h
  have := readF_used l name
  unfold putF setF
  omega
end Go.Proofs.Ytcedkilgfoiifaa

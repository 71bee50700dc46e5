/- A row of bytes that '[]byte(s)' made, appended to byte by byte: a mark may stand behind its capacity. -/
import Derived.Test.YtipaicfmodgcoaaDoorShaHex2
import Derived.ArgAppend
namespace Go.Proofs.YtipaicfmodgcoaaDoor
open Go.RowKit

def World.ownZ (w : World) (base : Nat) (v : Value) (n : Nat) (xs : List Value) : Prop :=
  xs.length = n ∧ ∃ g cap cur fz, v = .slice (some ⟨g, 0, none⟩) n cap ∧ base ≤ g ∧ w.heap[g]? = some (.cells cur 5 fz) ∧ (fz = (0, 0) ∨ cap ≤ fz.1) ∧ n ≤ cap ∧ cap ≤ maxLen ∧ cur.size = cap ∧ cur.toList.take n = xs
abbrev ownZ := World.ownZ
theorem ownZ_own {w : World} {base n : Nat} {v : Value} {xs : List Value} (h : w.ownsRow base 5 1 v n xs) (hn : 0 < n) : ownZ w base v n xs := by
  obtain ⟨h1, h2⟩ := h
  rcases h2 with ⟨_, h0⟩ | ⟨g, cap, cur, rfl, a1, a2, a3, a4, a5, a6⟩
  · omega
  · exact ⟨by omega, g, cap, cur, (0, 0), rfl, a1, a2, .inl rfl, a3, a4, by omega, by rw [← a6, Nat.mul_one]⟩
theorem ownZ_block {w w' : World} {base n : Nat} {v : Value} {xs : List Value} (h : ownZ w base v n xs) (hb : ∀ k, v.ownBlock = some k → w'.heap[k]? = w.heap[k]?) : ownZ w' base v n xs := by
  obtain ⟨h1, g, cap, cur, fz, rfl, a1, a2, a3⟩ := h
  exact ⟨h1, g, cap, cur, fz, rfl, a1, (hb g rfl).trans a2, a3⟩
theorem ownZ_alloc {w : World} {base n : Nat} {v : Value} {xs : List Value} (h : ownZ w base v n xs) (o : Obj) : ownZ (w.alloc o) base v n xs := by
  refine ownZ_block h fun k hk => ?_
  obtain ⟨h1, g, cap, cur, fz, rfl, a1, a2, a3⟩ := h
  simp [Value.ownBlock] at hk; subst hk
  have : g < w.heap.size := by
    rcases Nat.lt_or_ge g w.heap.size with hlt | hge
    · exact hlt
    · rw [Array.getElem?_eq_none hge] at a2; cases a2
  exact Below.heap_alloc _ _ _ this
theorem ownZ_ge {w : World} {base n : Nat} {v : Value} {xs : List Value} (h : ownZ w base v n xs) : ∀ k, v.ownBlock = some k → base ≤ k := by
  obtain ⟨h1, g, cap, cur, fz, rfl, a1, _⟩ := h
  intro k hk; simp [Value.ownBlock] at hk; omega
theorem ownZ_slice {w : World} {base n : Nat} {v : Value} {xs : List Value} (h : ownZ w base v n xs) : ∃ g cap, v = .slice (some ⟨g, 0, none⟩) n cap ∧ base ≤ g ∧ n ≤ cap ∧ g < w.heap.size ∧ ∀ (j : Nat) (u : Value), xs[j]? = some u → w.cell? ⟨g, j, none⟩ = some u := by
  obtain ⟨h1, g, cap, cur, fz, rfl, a1, a2, a3, a4, a5, a6, a7⟩ := h
  refine ⟨g, cap, rfl, a1, a4, ?_, fun j u hj => ?_⟩
  · rcases Nat.lt_or_ge g w.heap.size with hlt | hge
    · exact hlt
    · rw [Array.getElem?_eq_none hge] at a2; cases a2
  · have hjn : j < n := by rw [← h1]; exact (List.getElem?_eq_some_iff.1 hj).1
    rw [cell_of_row w g j cur 5 fz a2, ← Array.getElem?_toList]
    rw [← a7, List.getElem?_take, if_pos hjn] at hj
    exact hj

theorem grown_setcell (W : World) (p i : Nat) (v : Value) : W.grownBy (W.setCell ⟨p, i, none⟩ v) (some p) := grown_set W p i v
/-- One byte more. -/
theorem wpList_append_Z {w : World} {ops : Array Oper} {rest : List Oper} {o : Oper} {a : Act} {Q : Exit → Act → World → Prop} (hgd : o.guard = none) (s x : Operand)
    (ho : o.op = .call { callee := .builtin .append, args := #[s, x], argTypes := #[76, 76] }) (base : Nat) (v : Value) (n : Nat) (xs : List Value) (hs : a.eval s = v) (hown : ownZ w base v n xs)
    (ad : Addr) (u : Value) (hx : a.eval x = .slice (some ad) 1 1) (hnews : w.cell? ad = some u) (hu : u.oneCell' = true) (hlen : n ≤ 1000000) (hbase : base ≤ w.heap.size)
    (h : ∀ v' w', ownZ w' base v' (n + 1) (xs ++ [u]) → w.grownBy w' v.ownBlock → wpList Tryd.prog ops Q rest (a.put o.dst v') w') : wpList Tryd.prog ops Q (o :: rest) a w := by
  obtain ⟨i0, hi, hz0, hz1, hz2⟩ := info_parts info5
  obtain ⟨h1, g, cap, cur, fz, rfl, a1, a2, a3, a4, a5, a6, a7⟩ := hown
  have hcell : ∀ j, j < cap → ∃ c, w.cell? ⟨g, j, none⟩ = some c := fun j hj => ⟨cur[j], by rw [cell_of_row w g j cur 5 fz a2]; simp [show j < cur.size by omega]⟩
  have hfrz : ∀ j, j < cap → w.frozen? ⟨g, j, none⟩ = false := fun j hj => by
    rcases a3 with rfl | hf
    · simp [World.frozen?, a2]
    · simp [World.frozen?, a2]; omega
  have hn1 : ∀ j c, [u][j]? = some c → w.cell? (ad.add j) = some c := by
    intro j c hj
    match j, hj with
    | 0, hj => simp at hj; subst hj; simpa [Addr.add] using hnews
  refine wpList_append_arg w hgd s x 76 ho 5 i0 (.int .u8 0) 1 1 Tryd.underlying76 hi hz0 hz1 hz2 rfl (by decide) g 0 n cap xs hs (by omega) (fun j c hj => ?_) ad 1 1 [u] hx rfl hn1 (by intro c hc; simp at hc; subst hc; exact hu) (fun hr j hj => ?_)
    (by unfold maxLen; omega) (by omega) (fun hr => ?_) (fun hg v' w' hr1 hr2 => ?_)
  · have hjn : j < n := by rw [← h1]; exact (List.getElem?_eq_some_iff.1 hj).1
    rw [cell_of_row w g (0 + j) cur 5 fz a2, Nat.zero_add, ← Array.getElem?_toList]
    rw [← a7, List.getElem?_take, if_pos hjn] at hj
    exact hj
  · have hj0 : j = 0 := by simpa using hj
    subst hj0
    obtain ⟨c, hc⟩ := hcell n (by omega)
    exact ⟨by simp [hc], by simpa using hfrz n (by omega)⟩
  · refine h _ _ ⟨by simp; omega, g, cap, cur.setIfInBounds n u, fz, rfl, a1, ?_, a3, hr, a5, by simp [a6], ?_⟩ ?_
    · simp [World.setCells, World.setCell, Array.getElem?_modify, a2]
    · rw [Array.toList_setIfInBounds, List.take_add_one, List.take_set_of_le (by omega), a7]
      simp [show n < cur.size by omega]
    · simpa [World.setCells, Value.ownBlock] using grown_setcell w g n u
  · refine h v' w' (ownZ_own ⟨hr1.1, ?_⟩ (by omega)) ⟨hr2.os, hr2.tape, hr2.output, hr2.size, fun k hk _ => hr2.block k hk (by simp)⟩
    exact hr1.2.imp id fun ⟨g', cap', cur', e1, e2, e3⟩ => ⟨g', cap', cur', e1, Nat.le_trans hbase e2, e3⟩

/-- '[]byte(s)'. -/
theorem bytes_of (W : World) (s : ByteArray) (hs : s.size ≤ 1000000) : ∃ v w', (convert 9 76 (.string s)).run Tryd.prog W = .ok v w' ∧ ownZ w' W.heap.size v s.size (Lib.byteCells s.data.toList) ∧ Below W.heap.size W w' ∧ w'.heap.size = W.heap.size + 1 := by
  have hr := run_bytes_of_string (P := Tryd.prog) W 9 76 5 s Tryd.underlying9 Tryd.underlying76 Tryd.underlying5
  have hge := grownCap_ge W s.size 0 5
  have hle := grownCap_le_maxLen W s.size 0 5 (by unfold maxLen; omega)
  have hsz : s.data.size = s.size := rfl
  refine ⟨_, _, hr, ⟨by rw [bc_len]; simp, W.heap.size, _, _, _, rfl, Nat.le_refl _, heap_alloc_new W.drew _, .inr ?_, hge, hle, ?_, ?_⟩, ((Below.refl _ W).drew.alloc (Nat.le_refl _) _), by simp⟩
  · simp [bytesRow]; omega
  · simp [bytesRow]; omega
  · simp only [bytesRow, Array.toList_append]
    rw [List.take_append_of_le_length (by simp), List.take_of_length_le (by simp)]
    simp [Lib.byteCells]
end Go.Proofs.YtipaicfmodgcoaaDoor

/- How much files use behind a write, a cut. -/
import Derived.Test.YtcedkilgfoiifaaDkP9
namespace Go.Proofs.Ytcedkilgfoiifaa
open Go.RowKit Base Base2

theorem used_split (name : ByteArray) : ∀ (l : List FileT), RiseF l → usedF l = usedF (l.filter (fun f => decide (f.1 ≠ name))) + (readF l name).size
  | [], _ => rfl
  | x :: l, h => by
    have h2 := List.pairwise_cons.1 h
    have ih := used_split name l h2.2
    by_cases e : x.1 = name
    · have hno : ∀ f ∈ l, f.1 ≠ name := fun f hf e2 => by
        have := h2.1 f hf
        rw [e, ← e2, ltB_irrefl] at this; cases this
      have hf : l.filter (fun f => decide (f.1 ≠ name)) = l := List.filter_eq_self.2 (fun f hf => decide_eq_true (hno f hf))
      have hr : readF (x :: l) name = x.2 := by unfold readF; simp [e]
      rw [List.filter_cons, if_neg (by simp [e]), hf, hr, usedF_cons]
      omega
    · have hr : readF (x :: l) name = readF l name := by unfold readF; simp [e]
      rw [List.filter_cons, if_pos (by simp [e]), hr, usedF_cons, usedF_cons, ih]
      omega
theorem rise_filter {l : List FileT} (h : RiseF l) (p : FileT → Bool) : RiseF (l.filter p) := List.Pairwise.filter p h
theorem used_set {l : List FileT} (h : RiseF l) (name s : ByteArray) : usedF (setF l name s) + (readF l name).size = usedF l + s.size := by
  have h1 := used_split name (setF l name s) (setF_rise h name s)
  have h2 := used_split name l h
  have e : (setF l name s).filter (fun f => decide (f.1 ≠ name)) = l.filter (fun f => decide (f.1 ≠ name)) := by
    refine rise_ext _ _ (rise_filter (setF_rise h name s) _) (rise_filter h _) (fun f => ?_)
    simp only [List.mem_filter, mem_setF, decide_eq_true_eq]
    constructor
    · rintro ⟨h | ⟨_, rfl⟩, h3⟩
      · exact ⟨h.1, h3⟩
      · exact absurd rfl h3
    · rintro ⟨h1, h3⟩
      exact ⟨.inl ⟨h1, h3⟩, h3⟩
  have hr := readF_setF h name s name
  rw [if_pos rfl] at hr
  have hs : (readF (setF l name s) name).size = s.size := by
    rw [hr]; split
    · rename_i h0; rw [h0]; rfl
    · rfl
  rw [e] at h1; omega
theorem used_put {l : List FileT} (h : RiseF l) (name s : ByteArray) (pl : Nat) : usedF (putF l name pl s) + (readF l name).size = usedF l + max (readF l name).size (pl + s.size) := by
  unfold putF
  have := used_set h name (bytesL (putB (readF l name) pl s))
  rw [bytesL_putB_size] at this
  exact this
theorem readF_put {l : List FileT} (h : RiseF l) (name s : ByteArray) (pl : Nat) (hs : 0 < s.size) (x : ByteArray) : readF (putF l name pl s) x = upd (readF l) name (bytesL (putB (readF l name) pl s)) x := by
  rw [readF_putF h name s x pl (by omega)]; rfl
theorem readF_cut {l : List FileT} (h : RiseF l) (name : ByteArray) (n : Nat) (hn : n < (readF l name).size) (x : ByteArray) : readF (setF l name ((readF l name).extract 0 n)) x = cutR (readF l) name n x := by
  unfold cutR
  rw [if_pos hn, readF_setF h]
  unfold upd
  by_cases e : x = name
  · rw [if_pos e, if_pos e]
    split
    · rename_i h0; exact (empty_of_size h0).symm
    · rfl
  · rw [if_neg e, if_neg e]
end Go.Proofs.Ytcedkilgfoiifaa

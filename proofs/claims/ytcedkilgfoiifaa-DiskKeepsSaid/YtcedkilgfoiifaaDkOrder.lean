/- The plain mathematics of files in order: lists whose names rise; what a write, a cut, a crash leave of them. Nothing here speaks of the program. -/
import Derived.Test.YtcedkilgfoiifaaDkRows
import Derived.Test.YtcedkilgfoiifaaDkMay
namespace Go.Proofs.Ytcedkilgfoiifaa
open Go.RowKit

/-! ### The order of texts -/
theorem less_trans : ∀ (a b c : List UInt8), Op.bytesLess a b = true → Op.bytesLess b c = true → Op.bytesLess a c = true
  | _, [], _, h, _ => by cases ‹List UInt8› <;> simp [Op.bytesLess] at h
  | _, _ :: _, [], _, h => by simp [Op.bytesLess] at h
  | [], _ :: _, _ :: _, _, _ => rfl
  | x :: a, y :: b, z :: c, h1, h2 => by
    simp only [Op.bytesLess, Bool.or_eq_true, Bool.and_eq_true, decide_eq_true_eq, beq_iff_eq] at h1 h2 ⊢
    rcases h1 with h1 | ⟨rfl, h1⟩
    · rcases h2 with h2 | ⟨rfl, h2⟩
      · exact .inl (UInt8.lt_trans h1 h2)
      · exact .inl h1
    · rcases h2 with h2 | ⟨rfl, h2⟩
      · exact .inl h2
      · exact .inr ⟨rfl, less_trans a b c h1 h2⟩
theorem less_total : ∀ (a b : List UInt8), a ≠ b → Op.bytesLess a b = true ∨ Op.bytesLess b a = true
  | [], [], h => absurd rfl h
  | [], _ :: _, _ => .inl rfl
  | _ :: _, [], _ => .inr rfl
  | x :: a, y :: b, h => by
    simp only [Op.bytesLess, Bool.or_eq_true, Bool.and_eq_true, decide_eq_true_eq, beq_iff_eq]
    by_cases hxy : x = y
    · subst hxy
      rcases less_total a b (fun e => h (by rw [e])) with k | k
      · exact .inl (.inr ⟨rfl, k⟩)
      · exact .inr (.inr ⟨rfl, k⟩)
    · rcases UInt8.lt_or_lt_of_ne hxy with k | k
      · exact .inl (.inl k)
      · exact .inr (.inl k)
theorem ltB_trans {a b c : ByteArray} (h : ltB a b = true) (k : ltB b c = true) : ltB a c = true := less_trans _ _ _ h k
theorem ltB_total {a b : ByteArray} (h : a ≠ b) : ltB a b = true ∨ ltB b a = true := less_total _ _ (fun e => h (by
  rw [ByteArray.toList_eq, ByteArray.toList_eq] at e
  apply ByteArray.ext; exact Array.toList_inj.1 e))
theorem ltB_ne {a b : ByteArray} (h : ltB a b = true) : a ≠ b := fun e => by rw [e, ltB_irrefl] at h; exact absurd h (by simp)
theorem ltB_asymm {a b : ByteArray} (h : ltB a b = true) : ltB b a = false := by
  cases k : ltB b a with
  | false => rfl
  | true => have := ltB_trans h k; rw [ltB_irrefl] at this; exact absurd this (by simp)
theorem ltB_of_not {a b : ByteArray} (h : ltB a b = false) (hne : a ≠ b) : ltB b a = true := (ltB_total hne).resolve_left (by rw [h]; simp)

/-! ### Lists of files that rise -/
def RiseF (l : List FileT) : Prop := l.Pairwise fun f g => ltB f.1 g.1 = true
def GoodF (l : List FileT) : Prop := ∀ f ∈ l, namedS f.1 = true ∧ f.2.size ≠ 0
theorem rise_adj : ∀ (l : List FileT), (∀ (i : Nat) (f g : FileT), l[i]? = some f → l[i + 1]? = some g → ltB f.1 g.1 = true) → RiseF l
  | [], _ => List.Pairwise.nil
  | [f], _ => by simp [RiseF]
  | f :: g :: l, h => by
    have ih := rise_adj (g :: l) (fun i a b ha hb => h (i + 1) a b (by simpa using ha) (by simpa using hb))
    have hfg : ltB f.1 g.1 = true := h 0 f g rfl rfl
    refine List.Pairwise.cons (fun x hx => ?_) ih
    rcases List.mem_cons.1 hx with rfl | hx
    · exact hfg
    · exact ltB_trans hfg ((List.pairwise_cons.1 ih).1 x hx)
theorem rise_at {l : List FileT} (h : RiseF l) {i j : Nat} {f g : FileT} (hi : l[i]? = some f) (hj : l[j]? = some g) (hij : i < j) : ltB f.1 g.1 = true := by
  obtain ⟨h1, rfl⟩ := List.getElem?_eq_some_iff.1 hi
  obtain ⟨h2, rfl⟩ := List.getElem?_eq_some_iff.1 hj
  exact List.pairwise_iff_getElem.1 h i j h1 h2 hij
theorem mayF_rise (l : List FileT) : mayF l = true ↔ l.length ≤ 4096 ∧ GoodF l ∧ RiseF l := by
  rw [mayF_iff]
  constructor
  · rintro ⟨h1, h2⟩
    have h3 : ∀ (i : Nat) (f : FileT), l[i]? = some f → namedS f.1 = true ∧ f.2.size ≠ 0 ∧ (i = 0 ∨ ltB (nameAt l (i - 1)) f.1 = true) := by
      intro i f hf
      have := h2 i (List.getElem?_eq_some_iff.1 hf).1
      rw [okAt_at hf] at this
      simp only [Bool.and_eq_true, Bool.or_eq_true, decide_eq_true_eq] at this
      exact ⟨this.1.1, this.1.2, this.2⟩
    refine ⟨h1, fun f hf => ?_, rise_adj l fun i f g hf hg => ?_⟩
    · obtain ⟨i, hi⟩ := List.getElem?_of_mem hf
      exact ⟨(h3 i f hi).1, (h3 i f hi).2.1⟩
    · have := (h3 (i + 1) g hg).2.2
      rcases this with h | h
      · omega
      · rw [Nat.add_sub_cancel, nameAt_at hf] at h; exact h
  · rintro ⟨h1, h2, h3⟩
    refine ⟨h1, fun i hi => ?_⟩
    obtain ⟨f, hf⟩ : ∃ f, l[i]? = some f := ⟨l[i], by simp [hi]⟩
    rw [okAt_at hf]
    have hm := h2 f (List.mem_of_getElem? hf)
    simp only [Bool.and_eq_true, Bool.or_eq_true, decide_eq_true_eq]
    refine ⟨⟨hm.1, hm.2⟩, ?_⟩
    by_cases h0 : i = 0
    · exact .inl h0
    · obtain ⟨g, hg⟩ : ∃ g, l[i - 1]? = some g := ⟨l[i - 1]'(by omega), by simp⟩
      rw [nameAt_at hg]
      exact .inr (rise_at h3 hg hf (by omega))

/-- A file of a list that rises. -/
theorem readF_mem {l : List FileT} (h : RiseF l) {f : FileT} (hf : f ∈ l) : readF l f.1 = f.2 := by
  obtain ⟨i, hi⟩ := List.getElem?_of_mem hf
  exact readF_at hi rfl fun j hj g hg => ltB_ne (rise_at h hg hi hj)
theorem readF_out {l : List FileT} {name : ByteArray} (h : ∀ f ∈ l, f.1 ≠ name) : readF l name = ⟨#[]⟩ := readF_none fun _ g hg => h g (List.mem_of_getElem? hg)
theorem readF_some {l : List FileT} {name : ByteArray} (h : (readF l name).size ≠ 0) : ∃ f ∈ l, f.1 = name ∧ readF l name = f.2 := by
  unfold readF at h ⊢
  cases hf : l.find? (fun f => decide (f.1 = name)) with
  | none => rw [hf] at h; exact absurd rfl h
  | some f => exact ⟨f, List.mem_of_find?_eq_some hf, by simpa using List.find?_some hf, rfl⟩

/-! ### A file set -/
theorem mem_insF {name s : ByteArray} {f : FileT} : f ∈ insF name s ↔ s.size ≠ 0 ∧ f = (name, s) := by
  unfold insF; split <;> simp [*]
theorem mem_keep {x f : FileT} {name : ByteArray} : f ∈ (if x.1 = name then ([] : List FileT) else [x]) ↔ x.1 ≠ name ∧ f = x := by split <;> simp [*]
theorem mem_setG (name s : ByteArray) (l : List FileT) : ∀ (d : Bool) (f : FileT), f ∈ setG name s d l ↔ (f ∈ l ∧ f.1 ≠ name) ∨ (d = false ∧ s.size ≠ 0 ∧ f = (name, s)) := by
  induction l with
  | nil => intro d f; cases d <;> simp [setG, mem_insF]
  | cons x l ih =>
    intro d f
    have hk : ∀ P : Prop, (f ∈ (if x.1 = name then ([] : List FileT) else [x]) ∨ P) ↔ ((f = x ∧ f.1 ≠ name) ∨ P) := by
      intro P; rw [mem_keep]
      constructor
      · rintro (⟨h1, rfl⟩ | h)
        · exact .inl ⟨rfl, h1⟩
        · exact .inr h
      · rintro (⟨rfl, h1⟩ | h)
        · exact .inl ⟨h1, rfl⟩
        · exact .inr h
    cases d with
    | true =>
      show f ∈ _ ++ _ ↔ _
      rw [List.mem_append, hk, ih]
      simp only [List.mem_cons, Bool.true_eq_false, false_and, or_false]
      constructor
      · rintro (⟨h1, h2⟩ | ⟨h1, h2⟩)
        · exact ⟨.inl h1, h2⟩
        · exact ⟨.inr h1, h2⟩
      · rintro ⟨h1 | h1, h2⟩
        · exact .inl ⟨h1, h2⟩
        · exact .inr ⟨h1, h2⟩
    | false =>
      unfold setG
      split
      · rw [List.mem_append, mem_insF, List.mem_append, hk, ih]
        simp only [List.mem_cons, Bool.true_eq_false, false_and, or_false, true_and]
        constructor
        · rintro (h | ⟨h1, h2⟩ | ⟨h1, h2⟩)
          · exact .inr h
          · exact .inl ⟨.inl h1, h2⟩
          · exact .inl ⟨.inr h1, h2⟩
        · rintro (⟨h1 | h1, h2⟩ | h)
          · exact .inr (.inl ⟨h1, h2⟩)
          · exact .inr (.inr ⟨h1, h2⟩)
          · exact .inl h
      · rw [List.mem_append, hk, ih]
        simp only [List.mem_cons, true_and]
        constructor
        · rintro (⟨h1, h2⟩ | ⟨h1, h2⟩ | h)
          · exact .inl ⟨.inl h1, h2⟩
          · exact .inl ⟨.inr h1, h2⟩
          · exact .inr h
        · rintro (⟨h1 | h1, h2⟩ | h)
          · exact .inl ⟨h1, h2⟩
          · exact .inr (.inl ⟨h1, h2⟩)
          · exact .inr (.inr h)
theorem mem_setF {name s : ByteArray} {l : List FileT} {f : FileT} : f ∈ setF l name s ↔ (f ∈ l ∧ f.1 ≠ name) ∨ (s.size ≠ 0 ∧ f = (name, s)) := by
  unfold setF; rw [mem_setG]; simp
theorem setG_rise (name s : ByteArray) (l : List FileT) (h : RiseF l) : ∀ d, (d = true → ∀ f ∈ l, f.1 ≠ name → ltB name f.1 = true) → RiseF (setG name s d l) := by
  induction l with
  | nil => intro d _; cases d with
    | true => exact List.Pairwise.nil
    | false => show RiseF (insF name s); unfold insF RiseF; split <;> simp
  | cons x l ih =>
    intro d hd
    obtain ⟨hx, hl⟩ := List.pairwise_cons.1 h
    have hkeep : ∀ (m : List FileT), RiseF m → (∀ f ∈ m, x.1 ≠ name → ltB x.1 f.1 = true) → RiseF ((if x.1 = name then ([] : List FileT) else [x]) ++ m) := by
      intro m hm hb
      by_cases he : x.1 = name
      · rw [if_pos he]; exact hm
      · rw [if_neg he]; exact List.Pairwise.cons (fun f hf => hb f hf he) hm
    have hrest : ∀ (e : Bool), (∀ f ∈ setG name s e l, f = (name, s) ∧ e = false ∨ f ∈ l) := by
      intro e f hf
      rcases (mem_setG name s l e f).1 hf with ⟨h1, _⟩ | ⟨h1, _, h2⟩
      · exact .inr h1
      · exact .inl ⟨h2, h1⟩
    cases d with
    | true =>
      refine hkeep _ (ih hl true fun _ f hf => hd rfl f (List.mem_cons_of_mem _ hf)) fun f hf _ => ?_
      rcases hrest true f hf with ⟨_, h⟩ | h
      · exact absurd h (by simp)
      · exact hx f h
    | false =>
      unfold setG
      by_cases hlt : ltB x.1 name = false
      · rw [if_pos hlt]
        have habove : ∀ f ∈ l, f.1 ≠ name → ltB name f.1 = true := by
          intro f hf _
          by_cases he : x.1 = name
          · rw [← he]; exact hx f hf
          · exact ltB_trans (ltB_of_not hlt he) (hx f hf)
        have ht : RiseF ((if x.1 = name then ([] : List FileT) else [x]) ++ setG name s true l) := by
          refine hkeep _ (ih hl true fun _ => habove) fun f hf _ => ?_
          rcases hrest true f hf with ⟨_, h⟩ | h
          · exact absurd h (by simp)
          · exact hx f h
        unfold insF
        split
        · exact ht
        · refine List.Pairwise.cons (fun f hf => ?_) ht
          have hf2 : f ∈ (if x.1 = name then ([] : List FileT) else [x]) ++ setG name s true l := hf
          rcases List.mem_append.1 hf2 with h | h
          · obtain ⟨h1, rfl⟩ := mem_keep.1 h
            exact ltB_of_not hlt h1
          · rcases (mem_setG name s l true f).1 h with ⟨h1, h2⟩ | ⟨h1, _⟩
            · exact habove f h1 h2
            · exact absurd h1 (by simp)
      · rw [if_neg hlt]
        have hlt2 : ltB x.1 name = true := by simpa using hlt
        refine hkeep _ (ih hl false fun h => absurd h (by simp)) fun f hf _ => ?_
        rcases hrest false f hf with ⟨rfl, _⟩ | h
        · exact hlt2
        · exact hx f h
theorem setF_rise {l : List FileT} (h : RiseF l) (name s : ByteArray) : RiseF (setF l name s) := setG_rise name s l h false fun h => absurd h (by simp)
theorem setF_good {l : List FileT} (h : GoodF l) {name s : ByteArray} (hn : namedS name = true) : GoodF (setF l name s) := by
  intro f hf
  rcases mem_setF.1 hf with ⟨h1, _⟩ | ⟨h1, rfl⟩
  · exact h f h1
  · exact ⟨hn, h1⟩
/-- What stands behind a file set. -/
theorem readF_setF {l : List FileT} (h : RiseF l) (name s x : ByteArray) : readF (setF l name s) x = if x = name then (if s.size = 0 then ⟨#[]⟩ else s) else readF l x := by
  have hr := setF_rise h name s
  by_cases hx : x = name
  · subst hx
    rw [if_pos rfl]
    by_cases hs : s.size = 0
    · rw [if_pos hs]
      refine readF_out fun f hf => ?_
      rcases mem_setF.1 hf with ⟨_, h2⟩ | ⟨h1, _⟩
      · exact h2
      · exact absurd hs h1
    · rw [if_neg hs]
      exact readF_mem hr (f := (x, s)) (mem_setF.2 (.inr ⟨hs, rfl⟩))
  · rw [if_neg hx]
    by_cases hin : ∃ f ∈ l, f.1 = x
    · obtain ⟨f, hf, rfl⟩ := hin
      rw [readF_mem h hf]
      exact readF_mem hr (mem_setF.2 (.inl ⟨hf, hx⟩))
    · have h1 : ∀ f ∈ l, f.1 ≠ x := fun f hf he => hin ⟨f, hf, he⟩
      rw [readF_out h1]
      refine readF_out fun f hf => ?_
      rcases mem_setF.1 hf with ⟨h2, _⟩ | ⟨_, rfl⟩
      · exact h1 f h2
      · exact fun e => hx e.symm
/-- Lists that rise and tell the same of each name are one. -/
theorem rise_ext : ∀ (l m : List FileT), RiseF l → RiseF m → (∀ f, f ∈ l ↔ f ∈ m) → l = m
  | [], [], _, _, _ => rfl
  | [], g :: m, _, _, h => absurd ((h g).2 (List.mem_cons_self ..)) (by simp)
  | f :: l, [], _, _, h => absurd ((h f).1 (List.mem_cons_self ..)) (by simp)
  | f :: l, g :: m, hl, hm, h => by
    obtain ⟨h1, h2⟩ := List.pairwise_cons.1 hl
    obtain ⟨k1, k2⟩ := List.pairwise_cons.1 hm
    have hfg : f = g := by
      rcases List.mem_cons.1 ((h f).1 (List.mem_cons_self ..)) with e | e
      · exact e
      · rcases List.mem_cons.1 ((h g).2 (List.mem_cons_self ..)) with e2 | e2
        · exact e2.symm
        · have := ltB_trans (h1 g e2) (k1 f e); rw [ltB_irrefl] at this; exact absurd this (by simp)
    subst hfg
    have : l = m := rise_ext l m h2 k2 fun x => by
      constructor
      · intro hx
        rcases List.mem_cons.1 ((h x).1 (List.mem_cons_of_mem _ hx)) with rfl | e
        · have := h1 x hx; rw [ltB_irrefl] at this; exact absurd this (by simp)
        · exact e
      · intro hx
        rcases List.mem_cons.1 ((h x).2 (List.mem_cons_of_mem _ hx)) with rfl | e
        · have := k1 x hx; rw [ltB_irrefl] at this; exact absurd this (by simp)
        · exact e
    rw [this]
end Go.Proofs.Ytcedkilgfoiifaa

/- The plain mathematics of what is done with a disk: how much there may be of it. Nothing here speaks of the program. -/
import Derived.Test.YtcedkilgfoiifaaDkKeep
namespace Go.Proofs.Ytcedkilgfoiifaa
open Go.RowKit

def MaxF (l : List FileT) : Prop := ∀ f ∈ l, f.2.size ≤ 1048576
/-- Behind i deeds, a disk that had at most m files. -/
structure PlayOk (m : Nat) (d : DkT) : Prop where
  rm0 : 0 ≤ d.room
  rm1 : d.room ≤ 1048576
  ls : d.stands.length ≤ m
  lk : d.kept.length + d.pend.length ≤ m
  ms : MaxF d.stands
  mkp : MaxF d.kept
  mp : ∀ p ∈ d.pend, p.2.1 + p.2.2.size ≤ 1048576
  rs : RiseF d.stands
  rk : RiseF d.kept
  gs : GoodF d.stands
  gk : GoodF d.kept
  gp : ∀ p ∈ d.pend, namedS p.1 = true ∧ p.2.2.size ≠ 0
theorem maxF_read {l : List FileT} (h : MaxF l) (name : ByteArray) : (readF l name).size ≤ 1048576 := by
  unfold readF
  cases hf : l.find? (fun f => decide (f.1 = name)) with
  | none => show (0 : Nat) ≤ 1048576; omega
  | some f => exact h f (List.mem_of_find?_eq_some hf)
theorem maxF_used (l : List FileT) (h : MaxF l) : usedF l ≤ 1048576 * l.length := by
  induction l with
  | nil => simp [usedF]
  | cons x l ih =>
    rw [usedF_cons, List.length_cons]
    have h1 := h x (List.mem_cons_self ..)
    have h2 := ih (fun f hf => h f (List.mem_cons_of_mem _ hf))
    omega
theorem maxF_set {l : List FileT} (h : MaxF l) {name s : ByteArray} (hs : s.size ≤ 1048576) : MaxF (setF l name s) := by
  intro f hf
  rcases mem_setF.1 hf with ⟨h1, _⟩ | ⟨_, rfl⟩
  · exact h f h1
  · exact hs
theorem maxF_put {l : List FileT} (h : MaxF l) {name s : ByteArray} {pl : Nat} (hs : pl + s.size ≤ 1048576) : MaxF (putF l name pl s) := by
  refine maxF_set h ?_
  rw [bytesL_putB_size]
  have := maxF_read h name
  omega
theorem used_mem {l : List FileT} {f : FileT} (h : f ∈ l) : f.2.size ≤ usedF l := by
  induction l with
  | nil => exact absurd h (by simp)
  | cons x l ih =>
    rw [usedF_cons]
    rcases List.mem_cons.1 h with rfl | h
    · omega
    · have := ih h; omega
theorem crashG_max (keep : List Int) : ∀ (pe : List WriteT) (k : Nat) (kp : List FileT), MaxF kp → (∀ p ∈ pe, p.2.1 + p.2.2.size ≤ 1048576) → MaxF (crashG keep k pe kp)
  | [], _, _, h, _ => h
  | p :: pe, k, kp, h, hp => by
    unfold crashG
    refine crashG_max keep pe (k + 1) _ ?_ (fun q hq => hp q (List.mem_cons_of_mem _ hq))
    split
    · refine maxF_put h ?_
      have h1 := hp p (List.mem_cons_self ..)
      have h2 := ext_size_le p.2.2 (keepN keep k p.2.2.size).toNat
      omega
    · exact h
theorem play_start {files : List FileT} {room : Int} {m : Nat} (h : mayF files = true) (hu : (usedF files : Int) ≤ room) (h1 : room ≤ 1048576) (hm : files.length ≤ m) : PlayOk m ⟨files, files, [], room⟩ := by
  obtain ⟨_, h2, h3⟩ := (mayF_rise files).1 h
  have hx : MaxF files := fun f hf => by have := used_mem hf; omega
  exact ⟨by show 0 ≤ room; omega, h1, hm, by show files.length + 0 ≤ m; omega, hx, hx, fun p hp => absurd hp (by simp), h3, h3, h2, h2, fun p hp => absurd hp (by simp)⟩
theorem PlayOk.le {m n : Nat} {d : DkT} (h : PlayOk m d) (hmn : m ≤ n) : PlayOk n d :=
  ⟨h.rm0, h.rm1, Nat.le_trans h.ls hmn, Nat.le_trans h.lk hmn, h.ms, h.mkp, h.mp, h.rs, h.rk, h.gs, h.gk, h.gp⟩
theorem play_sync {m : Nat} {d : DkT} (h : PlayOk m d) : PlayOk (m + 1) (syncF d) :=
  ⟨h.rm0, h.rm1, Nat.le_succ_of_le h.ls, by show d.stands.length + 0 ≤ m + 1; have := h.ls; omega, h.ms, h.ms, fun p hp => absurd hp (by simp [syncF]), h.rs, h.rs, h.gs, h.gs, fun p hp => absurd hp (by simp [syncF])⟩
theorem play_write {m : Nat} {d : DkT} (h : PlayOk m d) (name s : ByteArray) (pl : Int) : PlayOk (m + 1) (writesF d name pl s).1 := by
  have hle := h.le (Nat.le_succ m)
  by_cases h1 : namedS name = false ∨ s.size = 0
  · rw [writesF_arg h1]; exact hle
  by_cases h2 : pl < 0 ∨ ((readF d.stands name).size : Int) < pl
  · rw [writesF_range h1 h2]; exact hle
  by_cases h3 : (readF d.stands name).size = 0 ∧ d.stands.length = 4096
  · rw [writesF_many h1 h2 h3]; exact hle
  by_cases h4 : d.room < (usedF (putF d.stands name pl.toNat s) : Int)
  · rw [writesF_full h1 h2 h3 h4]; exact hle
  rw [writesF_ok h1 h2 h3 h4]
  rw [not_or] at h1 h2
  have hn : namedS name = true := by simpa using h1.1
  have hin : (name, bytesL (putB (readF d.stands name) pl.toNat s)) ∈ putF d.stands name pl.toNat s := mem_setF.2 (.inr ⟨by rw [bytesL_putB_size]; have := h1.2; omega, rfl⟩)
  have hsz := used_mem hin
  rw [show ((name, bytesL (putB (readF d.stands name) pl.toNat s)) : FileT).2 = bytesL (putB (readF d.stands name) pl.toNat s) from rfl, bytesL_putB_size] at hsz
  have hr1 := h.rm1
  have hps : pl.toNat + s.size ≤ 1048576 := by omega
  refine ⟨h.rm0, h.rm1, ?_, ?_, maxF_put h.ms hps, h.mkp, fun p hp => ?_, putF_rise h.rs _ _ _, h.rk, putF_good h.gs hn _ _, h.gk, fun p hp => ?_⟩
  · show (putF d.stands name pl.toNat s).length ≤ m + 1
    have := putF_len d.stands name s pl.toNat; have := h.ls; omega
  · show d.kept.length + (d.pend ++ [(name, pl.toNat, s)]).length ≤ m + 1
    rw [List.length_append, List.length_singleton]; have := h.lk; omega
  · rcases List.mem_append.1 hp with hp | hp
    · exact h.mp p hp
    · simp at hp; subst hp; exact hps
  · rcases List.mem_append.1 hp with hp | hp
    · exact h.gp p hp
    · simp at hp; subst hp; exact ⟨hn, h1.2⟩
theorem play_cut {m : Nat} {d : DkT} (h : PlayOk m d) (name : ByteArray) (n : Int) : PlayOk (m + 1) (cutF d name n).1 := by
  have hle := h.le (Nat.le_succ m)
  by_cases h1 : d.pend.length ≠ 0
  · rw [cutF_state h1]; exact hle
  by_cases h2 : n < 0
  · rw [cutF_arg h1 h2]; exact hle
  by_cases h3 : n < ((readF d.stands name).size : Int)
  · rw [cutF_less h1 h2 h3]
    have hne : (readF d.stands name).size ≠ 0 := by omega
    obtain ⟨f, hf, hfn, _⟩ := readF_some hne
    have hn : namedS name = true := by have := (h.gs f hf).1; rwa [hfn] at this
    have hx : MaxF (setF d.stands name ((readF d.stands name).extract 0 n.toNat)) := by
      refine maxF_set h.ms ?_
      have := ext_size_le (readF d.stands name) n.toNat; have := maxF_read h.ms name; omega
    have hl : (setF d.stands name ((readF d.stands name).extract 0 n.toNat)).length ≤ m + 1 := by have := setF_len d.stands name ((readF d.stands name).extract 0 n.toNat); have := h.ls; omega
    have hp0 : d.pend.length = 0 := by omega
    exact ⟨h.rm0, h.rm1, hl, by show (setF d.stands name _).length + d.pend.length ≤ m + 1; omega, hx, hx, h.mp, setF_rise h.rs _ _, setF_rise h.rs _ _, setF_good h.gs hn, setF_good h.gs hn, h.gp⟩
  · rw [cutF_same h1 h2 h3]; exact hle
theorem play_crash {m : Nat} {d : DkT} (h : PlayOk m d) (keep : List Int) : PlayOk (m + 1) (crashF d keep) := by
  obtain ⟨_, b, c, e⟩ := crashG_keeps [] keep d.pend 0 d.kept (fun p hp => ⟨(h.gp p hp).1, (h.gp p hp).2, fun f hf => absurd hf (by simp)⟩) (fun f hf => absurd hf (by simp)) h.rk h.gk
  have hx := crashG_max keep d.pend 0 d.kept h.mkp h.mp
  have hl : (crashG keep 0 d.pend d.kept).length ≤ m + 1 := by have := h.lk; omega
  exact ⟨h.rm0, h.rm1, hl, hl, hx, hx, fun p hp => absurd hp (by simp [crashF]), b, b, c, c, fun p hp => absurd hp (by simp [crashF])⟩
theorem PlayOk.small {m : Nat} {d : DkT} (h : PlayOk m d) : SmallF d.kept := fun f hf => by have := h.mkp f hf; omega
end Go.Proofs.Ytcedkilgfoiifaa

/- The plain mathematics of a crash: what was synced stays, where pending writes lie behind it. Nothing here speaks of the program. -/
import Derived.Test.YtcedkilgfoiifaaDkOrder
namespace Go.Proofs.Ytcedkilgfoiifaa
open Go.RowKit

theorem putB_pre (old s : ByteArray) (pl m : Nat) (h1 : m ≤ pl) (h2 : m ≤ old.size) : (bytesL (putB old pl s)).extract 0 m = old.extract 0 m := by
  apply ByteArray.ext; apply Array.toList_inj.1
  rw [Lib.extract_data, Lib.extract_data, List.drop_zero, List.drop_zero, Nat.sub_zero]
  show (putB old pl s).take m = old.data.toList.take m
  have hlen := Lib.size_eq old
  apply List.ext_getElem?
  intro i
  by_cases hi : i < m
  · rw [List.getElem?_take_of_lt hi, List.getElem?_take_of_lt hi]
    have hil : i < (putB old pl s).length := by rw [putB_len]; omega
    rw [List.getElem?_eq_getElem hil, List.getElem?_eq_getElem (by omega)]
    simp only [putB, List.getElem_map, List.getElem_range]
    rw [if_neg (by omega), List.getD_eq_getElem?_getD, List.getElem?_eq_getElem (by omega)]
    rfl
  · rw [List.getElem?_eq_none (by rw [List.length_take]; omega), List.getElem?_eq_none (by rw [List.length_take]; omega)]
theorem bytesL_putB_size (old s : ByteArray) (pl : Nat) : (bytesL (putB old pl s)).size = max old.size (pl + s.size) := by rw [bytesL_size, putB_len]
theorem readF_putF {l : List FileT} (h : RiseF l) (name s x : ByteArray) (pl : Nat) (hs : s.size ≠ 0) : readF (putF l name pl s) x = if x = name then bytesL (putB (readF l name) pl s) else readF l x := by
  unfold putF
  rw [readF_setF h]
  have : (bytesL (putB (readF l name) pl s)).size ≠ 0 := by rw [bytesL_putB_size]; omega
  rw [if_neg this]
theorem putF_rise {l : List FileT} (h : RiseF l) (name s : ByteArray) (pl : Nat) : RiseF (putF l name pl s) := setF_rise h _ _
theorem putF_good {l : List FileT} (h : GoodF l) {name : ByteArray} (hn : namedS name = true) (s : ByteArray) (pl : Nat) : GoodF (putF l name pl s) := setF_good h hn

/-- Each file of files begins what stands under its name. -/
def PreF (files l : List FileT) : Prop := ∀ f ∈ files, f.2.size ≤ (readF l f.1).size ∧ (readF l f.1).extract 0 f.2.size = f.2
def PendOk (files : List FileT) (pe : List WriteT) : Prop := ∀ p ∈ pe, namedS p.1 = true ∧ p.2.2.size ≠ 0 ∧ ∀ f ∈ files, f.1 = p.1 → f.2.size ≤ p.2.1
theorem preF_refl {files : List FileT} (h : RiseF files) : PreF files files := fun f hf => by
  rw [readF_mem h hf]
  exact ⟨Nat.le_refl _, ByteArray.extract_zero_size⟩
theorem preF_put {files l : List FileT} (hp : PreF files l) (hl : RiseF l) {name s : ByteArray} {pl : Nat} (hs : s.size ≠ 0) (hpl : ∀ f ∈ files, f.1 = name → f.2.size ≤ pl) : PreF files (putF l name pl s) := by
  intro f hf
  obtain ⟨h1, h2⟩ := hp f hf
  rw [readF_putF hl _ _ _ _ hs]
  by_cases hx : f.1 = name
  · rw [if_pos hx]
    rw [hx] at h1 h2
    have := hpl f hf hx
    rw [putB_pre _ _ _ _ this h1, bytesL_putB_size]
    exact ⟨by omega, h2⟩
  · rw [if_neg hx]; exact ⟨h1, h2⟩
theorem crashG_keeps (files : List FileT) (keep : List Int) : ∀ (pe : List WriteT) (k : Nat) (kp : List FileT), PendOk files pe → PreF files kp → RiseF kp → GoodF kp →
    PreF files (crashG keep k pe kp) ∧ RiseF (crashG keep k pe kp) ∧ GoodF (crashG keep k pe kp) ∧ (crashG keep k pe kp).length ≤ kp.length + pe.length
  | [], k, kp, _, h1, h2, h3 => ⟨h1, h2, h3, Nat.le_refl _⟩
  | p :: pe, k, kp, h0, h1, h2, h3 => by
    have hp := h0 p (List.mem_cons_self ..)
    have h0' : PendOk files pe := fun q hq => h0 q (List.mem_cons_of_mem _ hq)
    unfold crashG
    by_cases hk : 0 < keepN keep k p.2.2.size
    · rw [if_pos hk]
      have hke : keepN keep k p.2.2.size ≤ (p.2.2.size : Int) := by
        unfold keepN; split
        · split <;> omega
        · exact Int.le_refl _
      have hsz : (p.2.2.extract 0 (keepN keep k p.2.2.size).toNat).size ≠ 0 := by rw [ByteArray.size_extract]; omega
      have hlen := putF_len kp p.1 (p.2.2.extract 0 (keepN keep k p.2.2.size).toNat) p.2.1
      obtain ⟨a, b, c, d⟩ := crashG_keeps files keep pe (k + 1) _ h0' (preF_put h1 h2 hsz hp.2.2) (putF_rise h2 p.1 _ p.2.1) (putF_good h3 hp.1 _ p.2.1)
      exact ⟨a, b, c, by rw [List.length_cons]; omega⟩
    · rw [if_neg hk]
      obtain ⟨a, b, c, d⟩ := crashG_keeps files keep pe (k + 1) kp h0' h1 h2 h3
      exact ⟨a, b, c, by rw [List.length_cons]; omega⟩

/-- What holds of a disk whose files are synced, and which is written on behind their ends. -/
structure EndsD (files : List FileT) (d : DkT) : Prop where
  kept : d.kept = files
  rise : RiseF d.stands
  good : GoodF d.stands
  ge : ∀ f ∈ files, f.2.size ≤ (readF d.stands f.1).size
  pend : PendOk files d.pend
theorem writesF_ends {files : List FileT} {d : DkT} (h : EndsD files d) (name s : ByteArray) : EndsD files (writesF d name ((readF d.stands name).size : Int) s).1 ∧ (writesF d name ((readF d.stands name).size : Int) s).1.stands.length ≤ d.stands.length + 1 ∧ (writesF d name ((readF d.stands name).size : Int) s).1.pend.length ≤ d.pend.length + 1 := by
  by_cases h1 : namedS name = false ∨ s.size = 0
  · rw [writesF_arg h1]; exact ⟨h, Nat.le_succ _, Nat.le_succ _⟩
  have h2 : ¬ (((readF d.stands name).size : Int) < 0 ∨ ((readF d.stands name).size : Int) < ((readF d.stands name).size : Int)) := by omega
  by_cases h3 : (readF d.stands name).size = 0 ∧ d.stands.length = 4096
  · rw [writesF_many h1 h2 h3]; exact ⟨h, Nat.le_succ _, Nat.le_succ _⟩
  by_cases h4 : d.room < (usedF (putF d.stands name ((readF d.stands name).size : Int).toNat s) : Int)
  · rw [writesF_full h1 h2 h3 h4]; exact ⟨h, Nat.le_succ _, Nat.le_succ _⟩
  rw [writesF_ok h1 h2 h3 h4, Int.toNat_natCast]
  rw [not_or] at h1
  have hn : namedS name = true := by simpa using h1.1
  refine ⟨⟨h.kept, putF_rise h.rise _ _ _, putF_good h.good hn _ _, fun f hf => ?_, fun p hp => ?_⟩, putF_len .., by simp⟩
  · show f.2.size ≤ (readF (putF d.stands name (readF d.stands name).size s) f.1).size
    rw [readF_putF h.rise _ _ _ _ h1.2]
    have := h.ge f hf
    split
    · rename_i he
      rw [bytesL_putB_size, ← he]; omega
    · exact this
  · rcases List.mem_append.1 hp with hp | hp
    · exact h.pend p hp
    · simp at hp; subst hp
      exact ⟨hn, h1.2, fun f hf he => by have := h.ge f hf; rw [he] at this; exact this⟩
theorem ends_start {files : List FileT} (h : mayF files = true) (room : Int) : EndsD files ⟨files, files, [], room⟩ := by
  obtain ⟨_, h2, h3⟩ := (mayF_rise files).1 h
  exact ⟨rfl, h3, h2, fun f hf => by rw [readF_mem h3 hf]; exact Nat.le_refl _, fun p hp => absurd hp (by simp)⟩
/-- Behind any crash the files begin as they were, and may be. -/
theorem crash_ends {files : List FileT} {d : DkT} (h : EndsD files d) (keep : List Int) (hl : files.length + d.pend.length ≤ 4096) (hf : mayF files = true) : mayF (crashF d keep).stands = true ∧ PreF files (crashF d keep).stands := by
  obtain ⟨_, h2, h3⟩ := (mayF_rise files).1 hf
  have hk := h.kept
  obtain ⟨a, b, c, e⟩ := crashG_keeps files keep d.pend 0 d.kept h.pend (by rw [hk]; exact preF_refl h3) (by rw [hk]; exact h3) (by rw [hk]; exact h2)
  refine ⟨(mayF_rise _).2 ⟨?_, c, b⟩, a⟩
  show (crashG keep 0 d.pend d.kept).length ≤ 4096
  rw [hk] at e ⊢
  omega
end Go.Proofs.Ytcedkilgfoiifaa

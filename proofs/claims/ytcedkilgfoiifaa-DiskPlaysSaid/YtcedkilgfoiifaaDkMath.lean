/- The plain mathematics of a disk: files, writes, what is kept. Nothing here speaks of the program. -/
import Derived.Test.YtcedkilgfoiifaaBase2
namespace Go.Proofs.Ytcedkilgfoiifaa
open Go.RowKit

/-- A file: its name, its bytes. -/
abbrev FileT := ByteArray × ByteArray
def charOk (c : UInt8) : Bool := (decide (48 ≤ c.toNat) && decide (c.toNat ≤ 57)) || (decide (97 ≤ c.toNat) && decide (c.toNat ≤ 122))
/-- Is it a file's name? -/
def namedS (s : ByteArray) : Bool := s.data.toList.all charOk && decide (1 ≤ s.size) && decide (s.size ≤ 16)
/-- Does one text stand ahead of another? -/
def ltB (a b : ByteArray) : Bool := Op.bytesLess a.toList b.toList
def nameAt (l : List FileT) (i : Nat) : ByteArray := (l.getD i (⟨#[]⟩, ⟨#[]⟩)).1
/-- May the i-th file stand where it does? -/
def okAt (l : List FileT) (i : Nat) : Bool :=
  namedS (nameAt l i) && decide ((l.getD i (⟨#[]⟩, ⟨#[]⟩)).2.size ≠ 0) && (decide (i = 0) || ltB (nameAt l (i - 1)) (nameAt l i))
def mayF (l : List FileT) : Bool := decide (l.length ≤ 4096) && (List.range l.length).all (okAt l)
theorem mayF_no {l : List FileT} {i : Nat} (hi : i < l.length) (h : okAt l i = false) : mayF l = false := by
  unfold mayF
  rw [Bool.and_eq_false_iff]
  right
  rw [List.all_eq_false]
  exact ⟨i, List.mem_range.2 hi, by simp [h]⟩
theorem mayF_yes {l : List FileT} (h1 : l.length ≤ 4096) (h : ∀ i, i < l.length → okAt l i = true) : mayF l = true := by
  unfold mayF
  rw [decide_eq_true h1, Bool.true_and, List.all_eq_true]
  exact fun i hi => h i (List.mem_range.1 hi)
theorem mayF_iff (l : List FileT) : mayF l = true ↔ l.length ≤ 4096 ∧ ∀ i, i < l.length → okAt l i = true := by
  refine ⟨fun h => ?_, fun h => mayF_yes h.1 h.2⟩
  unfold mayF at h
  rw [Bool.and_eq_true, decide_eq_true_eq, List.all_eq_true] at h
  exact ⟨h.1, fun i hi => h.2 i (List.mem_range.2 hi)⟩

def usedF (l : List FileT) : Nat := (l.map fun f => f.2.size).sum
theorem usedF_take (l : List FileT) (i : Nat) (f : FileT) (h : l[i]? = some f) : usedF (l.take (i + 1)) = usedF (l.take i) + f.2.size := by
  rw [List.take_add_one, h]; simp [usedF]
theorem usedF_take_le (l : List FileT) (i : Nat) : usedF (l.take i) ≤ usedF l := by
  induction l generalizing i with
  | nil => simp [usedF]
  | cons f l ih =>
    cases i with
    | zero => simp [usedF]
    | succ i =>
      have := ih i
      simp only [List.take_succ_cons]
      show usedF (f :: l.take i) ≤ usedF (f :: l)
      have e : ∀ l : List FileT, usedF (f :: l) = f.2.size + usedF l := fun l => by simp [usedF]
      rw [e, e]; omega
theorem usedF_app (a b : List FileT) : usedF (a ++ b) = usedF a + usedF b := by simp [usedF]

/-- A file's bytes; none, if it isn't there. -/
def readF (l : List FileT) (name : ByteArray) : ByteArray := match l.find? (fun f => decide (f.1 = name)) with
  | some f => f.2
  | none => ⟨#[]⟩
theorem readF_at {l : List FileT} {name : ByteArray} {i : Nat} {f : FileT} (h : l[i]? = some f) (hn : f.1 = name) (hb : ∀ j, j < i → ∀ g : FileT, l[j]? = some g → g.1 ≠ name) : readF l name = f.2 := by
  unfold readF
  have : l.find? (fun f => decide (f.1 = name)) = some f := by
    rw [List.find?_eq_some_iff_getElem]
    obtain ⟨hi, hf⟩ := List.getElem?_eq_some_iff.1 h
    refine ⟨decide_eq_true hn, i, hi, hf, fun j hj => ?_⟩
    simpa using hb j hj _ (List.getElem?_eq_getElem (by omega))
  rw [this]
theorem readF_none {l : List FileT} {name : ByteArray} (hb : ∀ (j : Nat) (g : FileT), l[j]? = some g → g.1 ≠ name) : readF l name = ⟨#[]⟩ := by
  unfold readF
  have : l.find? (fun f => decide (f.1 = name)) = none := by
    rw [List.find?_eq_none]
    intro g hg
    obtain ⟨j, hj⟩ := List.getElem?_of_mem hg
    simpa using hb j g hj
  rw [this]

/-- A file's bytes set: what goes out at the place i of the list. -/
def insF (name s : ByteArray) : List FileT := if s.size = 0 then [] else [(name, s)]
def setG (name s : ByteArray) : Bool → List FileT → List FileT
  | false, [] => insF name s
  | true, [] => []
  | false, f :: l => if ltB f.1 name = false then insF name s ++ ((if f.1 = name then [] else [f]) ++ setG name s true l) else ((if f.1 = name then [] else [f]) ++ setG name s false l)
  | true, f :: l => (if f.1 = name then [] else [f]) ++ setG name s true l
def setF (l : List FileT) (name s : ByteArray) : List FileT := setG name s false l
theorem setG_len (name s : ByteArray) (l : List FileT) : ∀ d, (setG name s d l).length ≤ l.length + 1 ∧ (d = true → (setG name s d l).length ≤ l.length) := by
  have h1 : (insF name s).length ≤ 1 := by unfold insF; split <;> simp
  induction l with
  | nil => intro d; cases d <;> simp [setG]; omega
  | cons f l ih =>
    intro d
    have hk : (if f.1 = name then ([] : List FileT) else [f]).length ≤ 1 := by split <;> simp
    cases d with
    | true =>
      have := (ih true).2 rfl
      simp only [setG, List.length_append, List.length_cons, forall_const]
      omega
    | false =>
      have h2 := (ih true).2 rfl
      have h3 := (ih false).1
      unfold setG
      split <;> simp only [List.length_append, List.length_cons] <;> refine ⟨by omega, by simp⟩
theorem setF_len (l : List FileT) (name s : ByteArray) : (setF l name s).length ≤ l.length + 1 := (setG_len name s l false).1

/-- Bytes put at a place. -/
def putB (old : ByteArray) (pl : Nat) (s : ByteArray) : List UInt8 :=
  (List.range (max old.size (pl + s.size))).map fun i => if pl ≤ i ∧ i < pl + s.size then s.data.toList.getD (i - pl) 0 else old.data.toList.getD i 0
theorem putB_len (old : ByteArray) (pl : Nat) (s : ByteArray) : (putB old pl s).length = max old.size (pl + s.size) := by simp [putB]
def bytesL (l : List UInt8) : ByteArray := ⟨l.toArray⟩
theorem bytesL_size (l : List UInt8) : (bytesL l).size = l.length := by simp [bytesL, ByteArray.size]
def putF (l : List FileT) (name : ByteArray) (pl : Nat) (s : ByteArray) : List FileT := setF l name (bytesL (putB (readF l name) pl s))

/-- A disk: the files that stand, those that are kept, what is pending, the room. -/
structure DkT where
  stands : List FileT
  kept : List FileT
  pend : List (ByteArray × Nat × ByteArray)
  room : Int
def writesF (d : DkT) (name : ByteArray) (pl : Int) (s : ByteArray) : DkT × Int :=
  if namedS name = false ∨ s.size = 0 then (d, 1)
  else if pl < 0 ∨ ((readF d.stands name).size : Int) < pl then (d, 11)
  else if (readF d.stands name).size = 0 ∧ d.stands.length = 4096 then (d, 4)
  else if d.room < (usedF (putF d.stands name pl.toNat s) : Int) then (d, 6)
  else ({ d with stands := putF d.stands name pl.toNat s, pend := d.pend ++ [(name, pl.toNat, s)] }, 0)
def syncF (d : DkT) : DkT := { d with kept := d.stands, pend := [] }
def cutF (d : DkT) (name : ByteArray) (n : Int) : DkT × Int :=
  if d.pend.length ≠ 0 then (d, 8)
  else if n < 0 then (d, 1)
  else if n < ((readF d.stands name).size : Int) then ({ d with stands := setF d.stands name ((readF d.stands name).extract 0 n.toNat), kept := setF d.stands name ((readF d.stands name).extract 0 n.toNat) }, 0)
  else (d, 0)
/-- How many bytes of a write are kept. -/
def keepN (keep : List Int) (i : Nat) (len : Nat) : Int := match keep[i]? with
  | some k => if k < (len : Int) then k else (len : Int)
  | none => (len : Int)
def crashG (keep : List Int) : Nat → List (ByteArray × Nat × ByteArray) → List FileT → List FileT
  | _, [], kept => kept
  | i, p :: l, kept => crashG keep (i + 1) l (if 0 < keepN keep i p.2.2.size then putF kept p.1 p.2.1 (p.2.2.extract 0 (keepN keep i p.2.2.size).toNat) else kept)
def crashF (d : DkT) (keep : List Int) : DkT := { d with stands := crashG keep 0 d.pend d.kept, kept := crashG keep 0 d.pend d.kept, pend := [] }
end Go.Proofs.Ytcedkilgfoiifaa

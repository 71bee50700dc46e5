/- The memory of the document's disk; the contract of its Cut. -/
import Derived.Test.YtcedkilgfoiifaaDkSync
import Derived.Test.YtcedkilgfoiifaaDkPut
namespace Go.Proofs.Ytcedkilgfoiifaa
open Go.RowKit Base Base2

/-- A row of files that lies in neither of two blocks. -/
def FilesOff (W : World) (g q : Nat) (a : Option Addr) (l : List FileT) : Prop := l = [] ∨ ∃ b off, a = some ⟨b, off, none⟩ ∧ b < W.heap.size ∧ b ≠ g ∧ b ≠ q ∧ ∀ (i : Nat) (f : FileT), l[i]? = some f → W.cell? ⟨b, off + i * 2, none⟩ = some (.string f.1) ∧ W.cell? ⟨b, off + i * 2 + 1, none⟩ = some (.string f.2)
theorem FilesOff.at {W : World} {g q : Nat} {a : Option Addr} {l : List FileT} (h : FilesOff W g q a l) : FilesAt W a l := by
  rcases h with h | ⟨b, off, h1, h2, _, _, h3⟩
  · exact .inl h
  · exact .inr ⟨b, off, h1, h2, h3⟩
theorem FilesAt.off {W : World} {g q : Nat} {a : Option Addr} {l : List FileT} (h : FilesAt W a l) (hg : W.heap.size ≤ g) (hq : W.heap.size ≤ q) : FilesOff W g q a l := by
  rcases h with h | ⟨b, off, h1, h2, h3⟩
  · exact .inl h
  · exact .inr ⟨b, off, h1, h2, by omega, by omega, h3⟩
theorem cell_heap {W W' : World} {b i : Nat} (h : W'.heap[b]? = W.heap[b]?) : W'.cell? ⟨b, i, none⟩ = W.cell? ⟨b, i, none⟩ := by
  simp only [World.cell?]; rw [h]
theorem FilesOff.mono {W W' : World} {g q : Nat} {a : Option Addr} {l : List FileT} (h : FilesOff W g q a l) (hs : W.heap.size ≤ W'.heap.size) (hb : ∀ b, b < W.heap.size → b ≠ g → b ≠ q → W'.heap[b]? = W.heap[b]?) : FilesOff W' g q a l := by
  rcases h with h | ⟨b, off, h1, h2, h4, h5, h3⟩
  · exact .inl h
  · refine .inr ⟨b, off, h1, by omega, h4, h5, fun i f hi => ?_⟩
    obtain ⟨k1, k2⟩ := h3 i f hi
    have e := hb b h2 h4 h5
    exact ⟨(cell_heap e).trans k1, (cell_heap e).trans k2⟩
theorem FilesOff.below {W W' : World} {g q : Nat} {a : Option Addr} {l : List FileT} (h : FilesOff W g q a l) (hb : Below W.heap.size W W') : FilesOff W' g q a l := h.mono hb.size (fun b hlt _ _ => hb.block b hlt)
theorem FilesOff.set {W : World} {g q : Nat} {a : Option Addr} {l : List FileT} (h : FilesOff W g q a l) (i : Nat) (v : Value) : FilesOff (W.setCell ⟨g, i, none⟩ v) g q a l := h.mono (by simp [World.setCell]) (fun b _ hg _ => heap_setCell_ne v hg)
theorem FilesOff.row {W : World} {g q : Nat} {a : Option Addr} {l : List FileT} (h : FilesOff W g q a l) (ks : Array Value) : FilesOff (W.setRow q ks) g q a l := h.mono (by simp) (fun b _ _ hq => setRow_ne ks hq)

/-- Writes that are pending, from an address on. -/
abbrev WriteT := ByteArray × Nat × ByteArray
def wcells (p : WriteT) : List Value := [.string p.1, .int .i64 (p.2.1 : Int), .string p.2.2]
def PendAt (W : World) (a : Option Addr) (l : List WriteT) : Prop := l = [] ∨ ∃ b off, a = some ⟨b, off, none⟩ ∧ b < W.heap.size ∧ ∀ (i : Nat) (p : WriteT), l[i]? = some p → W.rangeAt b (off + i * 3) (wcells p)
def PendOff (W : World) (g q : Nat) (a : Option Addr) (l : List WriteT) : Prop := l = [] ∨ ∃ b off, a = some ⟨b, off, none⟩ ∧ b < W.heap.size ∧ b ≠ g ∧ b ≠ q ∧ ∀ (i : Nat) (p : WriteT), l[i]? = some p → W.rangeAt b (off + i * 3) (wcells p)
theorem PendOff.at {W : World} {g q : Nat} {a : Option Addr} {l : List WriteT} (h : PendOff W g q a l) : PendAt W a l := by
  rcases h with h | ⟨b, off, h1, h2, _, _, h3⟩
  · exact .inl h
  · exact .inr ⟨b, off, h1, h2, h3⟩
theorem PendAt.off {W : World} {g q : Nat} {a : Option Addr} {l : List WriteT} (h : PendAt W a l) (hg : W.heap.size ≤ g) (hq : W.heap.size ≤ q) : PendOff W g q a l := by
  rcases h with h | ⟨b, off, h1, h2, h3⟩
  · exact .inl h
  · exact .inr ⟨b, off, h1, h2, by omega, by omega, h3⟩
theorem PendOff.mono {W W' : World} {g q : Nat} {a : Option Addr} {l : List WriteT} (h : PendOff W g q a l) (hs : W.heap.size ≤ W'.heap.size) (hb : ∀ b, b < W.heap.size → b ≠ g → b ≠ q → W'.heap[b]? = W.heap[b]?) : PendOff W' g q a l := by
  rcases h with h | ⟨b, off, h1, h2, h4, h5, h3⟩
  · exact .inl h
  · exact .inr ⟨b, off, h1, by omega, h4, h5, fun i p hi j v hv => (cell_heap (hb b h2 h4 h5)).trans (h3 i p hi j v hv)⟩
theorem PendOff.below {W W' : World} {g q : Nat} {a : Option Addr} {l : List WriteT} (h : PendOff W g q a l) (hb : Below W.heap.size W W') : PendOff W' g q a l := h.mono hb.size (fun b hlt _ _ => hb.block b hlt)
theorem PendOff.set {W : World} {g q : Nat} {a : Option Addr} {l : List WriteT} (h : PendOff W g q a l) (i : Nat) (v : Value) : PendOff (W.setCell ⟨g, i, none⟩ v) g q a l := h.mono (by simp [World.setCell]) (fun b _ hg _ => heap_setCell_ne v hg)
theorem PendOff.row {W : World} {g q : Nat} {a : Option Addr} {l : List WriteT} (h : PendOff W g q a l) (ks : Array Value) : PendOff (W.setRow q ks) g q a l := h.mono (by simp) (fun b _ _ hq => setRow_ne ks hq)
theorem PendAt.below {W W' : World} {a : Option Addr} {l : List WriteT} (h : PendAt W a l) (hb : Below W.heap.size W W') : PendAt W' a l := by
  rcases h with h | ⟨b, off, h1, h2, h3⟩
  · exact .inl h
  · exact .inr ⟨b, off, h1, Nat.lt_of_lt_of_le h2 hb.size, fun i p hi j v hv => (hb.cell (p := ⟨b, off + i * 3 + j, none⟩) h2).trans (h3 i p hi j v hv)⟩

/-- A disk of the document's, as it lies in memory. -/
def dkC (a1 a2 a3 : Option Addr) (c1 c2 c3 : Nat) (d : DkT) : Array Value := #[.slice a1 d.stands.length c1, .slice a2 d.kept.length c2, .slice a3 d.pend.length c3, .int .i64 d.room]
/-- An address lies in blocks of a kind. -/
def AdrP (P : Nat → Prop) (a : Option Addr) : Prop := ∀ b, (∃ off, a = some ⟨b, off, none⟩) → P b
theorem AdrP.none (P : Nat → Prop) : AdrP P Option.none := fun _ ⟨_, h⟩ => absurd h (by simp)
def DkAt (P : Nat → Prop) (W : World) (cs : Array Value) (d : DkT) : Prop := ∃ a1 a2 a3 c1 c2 c3, cs = dkC a1 a2 a3 c1 c2 c3 d ∧ FilesAt W a1 d.stands ∧ FilesAt W a2 d.kept ∧ PendAt W a3 d.pend ∧ (d.stands.length ≤ c1 ∧ d.kept.length ≤ c2 ∧ d.pend.length ≤ c3) ∧ ((d.stands = [] ∨ AdrP P a1) ∧ (d.kept = [] ∨ AdrP P a2) ∧ (d.pend = [] ∨ AdrP P a3))
theorem DkAt.below {P : Nat → Prop} {W W' : World} {cs : Array Value} {d : DkT} (h : DkAt P W cs d) (hb : Below W.heap.size W W') : DkAt P W' cs d := by
  obtain ⟨a1, a2, a3, c1, c2, c3, h0, h1, h2, h3, h4, h5⟩ := h
  exact ⟨a1, a2, a3, c1, c2, c3, h0, h1.below hb, h2.below hb, h3.below hb, h4, h5⟩
theorem dkC_one (a1 a2 a3 : Option Addr) (c1 c2 c3 : Nat) (d : DkT) : (dkC a1 a2 a3 c1 c2 c3 d).all (·.oneCell') = true := by simp [dkC, Value.oneCell']
theorem flatF_at (l : List FileT) : ∀ (i : Nat) (f : FileT), l[i]? = some f → (flatF l)[i * 2]? = some (.string f.1) ∧ (flatF l)[i * 2 + 1]? = some (.string f.2) := by
  induction l with
  | nil => intro i f h; simp at h
  | cons x l ih =>
    intro i f h
    have e : flatF (x :: l) = Value.string x.1 :: Value.string x.2 :: flatF l := by simp [flatF]
    rw [e]
    cases i with
    | zero => simp at h; subst h; simp
    | succ i =>
      have := ih i f (by simpa using h)
      rw [show (i + 1) * 2 = i * 2 + 1 + 1 by omega]
      simpa using this
/-- Files that a slice owns, as a row at an address. -/
theorem files_own {W : World} {base : Nat} {v : Value} {l : List FileT} (h : W.ownsRow base 58 2 v l.length (flatF l)) : ∃ a c, v = .slice a l.length c ∧ l.length ≤ c ∧ FilesAt W a l ∧ ∀ b, (∃ off, a = some ⟨b, off, none⟩) → base ≤ b := by
  rcases h.2 with ⟨rfl, h0⟩ | ⟨g, cap, cur, rfl, h1, h2, h3, h4, h5, h6⟩
  · have : l = [] := List.eq_nil_of_length_eq_zero (by omega)
    subst this
    exact ⟨none, 0, rfl, Nat.le_refl _, .inl rfl, by simp⟩
  · refine ⟨some ⟨g, 0, none⟩, cap, rfl, h3, .inr ⟨g, 0, rfl, lt_of_blkD h2, fun i f hi => ?_⟩, by rintro b ⟨off, hb⟩; simp at hb; omega⟩
    obtain ⟨k1, k2⟩ := flatF_at l i f hi
    have c1 := h.cells (g := g) rfl (i * 2) _ k1
    have c2 := h.cells (g := g) rfl (i * 2 + 1) _ k2
    rw [Addr.add_mid] at c1 c2
    rw [Nat.zero_add]
    exact ⟨by simpa using c1, by simpa using c2⟩
theorem files_off {W : World} {base g q : Nat} {a : Option Addr} {l : List FileT} (h : FilesAt W a l) (hb : ∀ b, (∃ off, a = some ⟨b, off, none⟩) → base ≤ b) (hg : g < base) (hq : q < base) : FilesOff W g q a l := by
  rcases h with h | ⟨b, off, h1, h2, h3⟩
  · exact .inl h
  · have := hb b ⟨off, h1⟩
    exact .inr ⟨b, off, h1, h2, by omega, by omega, h3⟩

theorem cutF_state {d : DkT} {name : ByteArray} {n : Int} (h : d.pend.length ≠ 0) : cutF d name n = (d, 8) := if_pos h
theorem cutF_arg {d : DkT} {name : ByteArray} {n : Int} (h : ¬ d.pend.length ≠ 0) (hn : n < 0) : cutF d name n = (d, 1) := by unfold cutF; rw [if_neg h, if_pos hn]
theorem cutF_less {d : DkT} {name : ByteArray} {n : Int} (h : ¬ d.pend.length ≠ 0) (hn : ¬ n < 0) (hl : n < ((readF d.stands name).size : Int)) : cutF d name n = ({ d with stands := setF d.stands name ((readF d.stands name).extract 0 n.toNat), kept := setF d.stands name ((readF d.stands name).extract 0 n.toNat) }, 0) := by unfold cutF; rw [if_neg h, if_neg hn, if_pos hl]
theorem cutF_same {d : DkT} {name : ByteArray} {n : Int} (h : ¬ d.pend.length ≠ 0) (hn : ¬ n < 0) (hl : ¬ n < ((readF d.stands name).size : Int)) : cutF d name n = (d, 0) := by unfold cutF; rw [if_neg h, if_neg hn, if_neg hl]
def dkZ : Array Value := #[.slice none 0 0, .slice none 0 0, .slice none 0 0, .int .i64 0]
/-- A disk's box and the result's, and where its files lie. -/
structure DkIn (w : World) (g q : Nat) (a1 a2 a3 : Option Addr) (c1 c2 c3 : Nat) (d : DkT) (W : World) : Prop where
  S : DkS w g q (dkC a1 a2 a3 c1 c2 c3 d) dkZ W
  f1 : FilesOff W g q a1 d.stands
  f2 : FilesOff W g q a2 d.kept
  f3 : PendOff W g q a3 d.pend
theorem DkIn.below {w W W' : World} {g q : Nat} {a1 a2 a3 : Option Addr} {c1 c2 c3 : Nat} {d : DkT} (h : DkIn w g q a1 a2 a3 c1 c2 c3 d W) (hb : Below W.heap.size W W') : DkIn w g q a1 a2 a3 c1 c2 c3 d W' :=
  ⟨h.S.below hb, h.f1.below hb, h.f2.below hb, h.f3.below hb⟩
/-- The result is stored: the disk lies in it. -/
theorem DkIn.done {P : Nat → Prop} {w W : World} {g q : Nat} {a1 a2 a3 : Option Addr} {c1 c2 c3 : Nat} {d : DkT} (h : DkIn w g q a1 a2 a3 c1 c2 c3 d W) (hc : d.stands.length ≤ c1 ∧ d.kept.length ≤ c2 ∧ d.pend.length ≤ c3) (hP : (d.stands = [] ∨ AdrP P a1) ∧ (d.kept = [] ∨ AdrP P a2) ∧ (d.pend = [] ∨ AdrP P a3)) : DkAt P (W.setRow q (dkC a1 a2 a3 c1 c2 c3 d)) (dkC a1 a2 a3 c1 c2 c3 d) d :=
  ⟨a1, a2, a3, c1, c2, c3, rfl, (h.f1.row _).at, (h.f2.row _).at, (h.f3.row _).at, hc, hP⟩
theorem DkIn.start (w : World) {a1 a2 a3 : Option Addr} {c1 c2 c3 : Nat} {d : DkT} (f1 : FilesAt w a1 d.stands) (f2 : FilesAt w a2 d.kept) (f3 : PendAt w a3 d.pend) : DkIn w w.heap.size (w.heap.size + 1) a1 a2 a3 c1 c2 c3 d ((w.alloc (.cells (dkC a1 a2 a3 c1 c2 c3 d) 33)).alloc (.cells dkZ 33)) :=
  have S := DkS.start w (dkC a1 a2 a3 c1 c2 c3 d) dkZ
  ⟨S, (f1.off (Nat.le_refl _) (by omega)).below S.lo, (f2.off (Nat.le_refl _) (by omega)).below S.lo, (f3.off (Nat.le_refl _) (by omega)).below S.lo⟩
theorem dkC_info (a1 a2 a3 : Option Addr) (c1 c2 c3 : Nat) (d : DkT) : (Try.prog.info? 33).map (·.size) = some (dkC a1 a2 a3 c1 c2 c3 d).size := infoDk

set_option maxRecDepth 100000 in
set_option maxHeartbeats 4000000 in
theorem rcut15 (P : Nat → Prop) (cs : Array Value) (d : DkT) (name : ByteArray) (n : Int) (w : World) (h : DkAt P w cs d) (hPg : ∀ k, w.heap.size ≤ k → P k) (hl : d.stands.length ≤ 10000) :
    Calls Try.prog 15 #[.agg cs, .string name, .int .i64 n] w fun e w' => ∃ cs', e = .returned (.tuple #[.agg cs', .int .i64 (cutF d name n).2]) ∧ DkAt P w' cs' (cutF d name n).1 ∧ Below w.heap.size w w' := by
  obtain ⟨a1, a2, a3, c1, c2, c3, rfl, f1, f2, f3, hk, hap⟩ := h
  have HAP := Lib.hid hap
  have HPG := Lib.hid hPg
  clear hap hPg
  have HO := Lib.hid (dkC_one a1 a2 a3 c1 c2 c3 d)
  have HI := Lib.hid (dkC_info a1 a2 a3 c1 c2 c3 d)
  have HZ := Lib.hid (show dkZ.size = (dkC a1 a2 a3 c1 c2 c3 d).size from rfl)
  have HST := Lib.hid (DkIn.start w (c1 := c1) (c2 := c2) (c3 := c3) f1 f2 f3)
  have HK := Lib.hid hk
  clear f1 f2 f3 hk
  by_cases hp : d.pend.length ≠ 0
  · have hp2 : 0 < d.pend.length := by omega
    rw [cutF_state hp]
    go_enter Try.func15, Try.ntmps15
    go_upto_region 1 with (fail)
    refine at_world (Φ := DkIn w w.heap.size (w.heap.size + 1) a1 a2 a3 c1 c2 c3 d) HST.out ?_
    rintro W hW
    have H := Lib.hid hW
    have e0 := hW.S.cell 0 (.slice a1 d.stands.length c1) rfl
    have e2 := hW.S.cell 2 (.slice a3 d.pend.length c3) rfl
    clear hW HST
    have HD := Lib.hid (H.out.S.done (dkC a1 a2 a3 c1 c2 c3 d))
    have HDN := Lib.hid (H.out.done HK.out HAP.out)
    have HB := Lib.hid H.out.S.box; have HR := Lib.hid H.out.S.res
    clear hp
    obtain ⟨CS, hCS⟩ : ∃ C, dkC a1 a2 a3 c1 c2 c3 d = C := ⟨_, rfl⟩
    rw [hCS] at HD HDN HB HO HI HZ
    rw [hCS]
    clear hCS H
    go_wp2_with (first
      | ((with_reducible refine atLoad (ty := 33) (x := .tmp 3) rfl ?_); refine wpList_load_row rfl 33 (.tmp 3) rfl w.heap.size rfl 33 CS (0, 0) _ HB.out Try.underlying33 rfl HI.out ?_)
      | ((with_reducible refine atStore (ty := 33) (x := .tmp 6) (y := .tmp 13) rfl ?_); refine wpList_store_row rfl 33 (.tmp 6) (.tmp 13) rfl (w.heap.size + 1) CS rfl rfl 33 _ HR.out HI.out HZ.out HO.out ?_))
    refine ret_cell_tmp rfl rfl rfl rfl HD.out.1 Try.underlying33 rfl HI.out ?_
    exact ⟨CS, rfl, HDN.out, HD.out.2⟩
  by_cases hn : n < 0
  · have hp2 : d.pend.length = 0 := by omega
    rw [cutF_arg hp hn]
    go_enter Try.func15, Try.ntmps15
    go_upto_region 1 with (fail)
    refine at_world (Φ := DkIn w w.heap.size (w.heap.size + 1) a1 a2 a3 c1 c2 c3 d) HST.out ?_
    rintro W hW
    have H := Lib.hid hW
    have e0 := hW.S.cell 0 (.slice a1 d.stands.length c1) rfl
    have e2 := hW.S.cell 2 (.slice a3 d.pend.length c3) rfl
    clear hW HST
    have HD := Lib.hid (H.out.S.done (dkC a1 a2 a3 c1 c2 c3 d))
    have HDN := Lib.hid (H.out.done HK.out HAP.out)
    have HB := Lib.hid H.out.S.box; have HR := Lib.hid H.out.S.res
    clear hp
    obtain ⟨CS, hCS⟩ : ∃ C, dkC a1 a2 a3 c1 c2 c3 d = C := ⟨_, rfl⟩
    rw [hCS] at HD HDN HB HO HI HZ
    rw [hCS]
    clear hCS H
    go_wp2_with (first
      | ((with_reducible refine atLoad (ty := 33) (x := .tmp 3) rfl ?_); refine wpList_load_row rfl 33 (.tmp 3) rfl w.heap.size rfl 33 CS (0, 0) _ HB.out Try.underlying33 rfl HI.out ?_)
      | ((with_reducible refine atStore (ty := 33) (x := .tmp 6) (y := .tmp 16) rfl ?_); refine wpList_store_row rfl 33 (.tmp 6) (.tmp 16) rfl (w.heap.size + 1) CS rfl rfl 33 _ HR.out HI.out HZ.out HO.out ?_))
    refine ret_cell_tmp rfl rfl rfl rfl HD.out.1 Try.underlying33 rfl HI.out ?_
    exact ⟨CS, rfl, HDN.out, HD.out.2⟩
  by_cases hs : n < ((readF d.stands name).size : Int)
  · have hp2 : d.pend.length = 0 := by omega
    rw [cutF_less hp hn hs]
    obtain ⟨nn, rfl⟩ := Int.eq_ofNat_of_zero_le (show 0 ≤ n by omega)
    rw [Int.toNat_natCast]
    obtain ⟨st, kp, pe, rm⟩ := d
    dsimp only at *
    have hpe : pe = [] := List.eq_nil_of_length_eq_zero hp2
    subst hpe
    have HRD0 := Lib.hid (fun W hf => rread23 a1 st c1 name W hf (by unfold maxLen; omega))
    have HSET0 := Lib.hid (fun W hf => rset37 a1 st c1 name ((readF st name).extract 0 nn) W hf hl)
    have hrl : nn ≤ (readF st name).size := by omega
    generalize setF st name ((readF st name).extract 0 nn) = S2 at *
    generalize readF st name = RN at *
    clear hp
    go_enter Try.func15, Try.ntmps15
    go_upto_region 1 with (fail)
    refine at_world (Φ := DkIn w w.heap.size (w.heap.size + 1) a1 a2 a3 c1 c2 c3 ⟨st, kp, [], rm⟩) HST.out ?_
    rintro W hW
    have H := Lib.hid hW
    have e0 := hW.S.cell 0 (.slice a1 st.length c1) rfl
    have e2 := hW.S.cell 2 (.slice a3 0 c3) rfl
    clear hW HST HO HI HZ
    have HRD := Lib.hid (HRD0.out W H.out.f1.at)
    have HSET := Lib.hid (HSET0.out W.drew (H.out.f1.at.below (Below.refl _ W).drew))
    clear HRD0 HSET0
    go_wp2_with (first
      | (go_at_call 23; refine HRD.out.mono ?_; rintro e w1 ⟨rfl, rfl⟩))
    refine wp_region_held_drew (S := fun W2 => Below w.heap.size w W2) (by kernel_rfl) (H.out.S.lo.drew) (fun hS => ?_)
    refine wpAnyH_take (i := 0) (v := .pointer (some ⟨w.heap.size, 0, none⟩)) rfl (by kernel_rfl) (by kernel_rfl) (by kernel_rfl) (fun _ _ _ h => h) (Or.inl ⟨by simp [Region.wanted], fun W _ => by go_simp⟩) hS ?_
    simp only [List.getElem_toArray, List.getElem_cons_zero, Act.put, List.setIfInBounds_toArray, List.set_cons_zero, List.set_cons_succ]
    refine wpAnyH_take (i := 2) (v := .string name) rfl (by kernel_rfl) (by kernel_rfl) (by kernel_rfl) (fun _ _ _ h => h) (Or.inl ⟨by simp [Region.wanted], fun W _ => by go_simp⟩) hS ?_
    simp only [List.getElem_toArray, List.getElem_cons_zero, List.getElem_cons_succ, Act.put, List.setIfInBounds_toArray, List.set_cons_zero, List.set_cons_succ]
    refine wpAnyH_take (i := 3) (v := .string RN) rfl (by kernel_rfl) (by kernel_rfl) (by kernel_rfl) (fun _ _ _ h => h) (Or.inl ⟨by simp [Region.wanted], fun W _ => by go_simp⟩) hS ?_
    simp only [List.getElem_toArray, List.getElem_cons_zero, List.getElem_cons_succ, Act.put, List.setIfInBounds_toArray, List.set_cons_zero, List.set_cons_succ]
    refine wpAnyH_take (i := 4) (v := .int .i64 (nn : Int)) rfl (by kernel_rfl) (by kernel_rfl) (by kernel_rfl) (fun _ _ _ h => h) (Or.inl ⟨by simp [Region.wanted], fun W _ => by go_simp⟩) hS ?_
    simp only [List.getElem_toArray, List.getElem_cons_zero, List.getElem_cons_succ, Act.put, List.setIfInBounds_toArray, List.set_cons_zero, List.set_cons_succ]
    refine wpAnyH_take (i := 5) (v := .string (RN.extract 0 nn)) rfl (by kernel_rfl) (by kernel_rfl) (by kernel_rfl) (fun _ _ _ h => h) (Or.inl ⟨by simp [Region.wanted], fun W _ => by go_simp⟩) hS ?_
    simp only [List.getElem_toArray, List.getElem_cons_zero, List.getElem_cons_succ, Act.put, List.setIfInBounds_toArray, List.set_cons_zero, List.set_cons_succ]
    refine wpAnyH_ready (rs := [1]) (by kernel_rfl) (by simp) ?_
    refine AllReadyH.cons rfl (fun K1 hK1 => ?_) AllReadyH.nil
    refine wanted_go rfl ?_
    simp only [List.getElem_toArray, List.getElem_cons_zero, List.getElem_cons_succ]
    go_wp2
    refine hK1.out _ _ hS (fun _ => ?_)
    refine wpAnyH_ready (rs := [6]) (by kernel_rfl) (by simp) ?_
    refine AllReadyH.cons rfl (fun K2 hK2 => ?_) AllReadyH.nil
    refine wanted_go rfl ?_
    simp only [List.getElem_toArray, List.getElem_cons_zero, List.getElem_cons_succ]
    go_wp2_with (go_at_call 38; refine HSET.out.mono ?_; rintro e w2 ⟨⟨v, rfl, ho⟩, hb⟩; obtain ⟨a4, c4, rfl, hc4, hf4, hb4⟩ := files_own ho; have HBW := Lib.hid hb; have HF4 := Lib.hid (files_off hf4 hb4 (lt_of_blkD H.out.S.box) (lt_of_blkD H.out.S.res)); have HA4 := Lib.hid (show AdrP P a4 from fun b hb => HPG.out b (Nat.le_trans H.out.S.lo.size (hb4 b hb))); clear ho hb hf4 hb4)
    refine hK2.out _ _ (hS.trans (HBW.out.mono hS.size)) (fun hS2 => ?_)
    refine wpAnyH_take (i := 7) (v := .pointer (some ⟨w.heap.size, 0, none⟩)) rfl (by kernel_rfl) (by kernel_rfl) (by kernel_rfl) (fun _ _ _ h => h) (Or.inl ⟨by simp [Region.wanted], fun W _ => by go_simp⟩) hS2 ?_
    simp only [List.getElem_toArray, List.getElem_cons_zero, List.getElem_cons_succ, Act.put, List.setIfInBounds_toArray, List.set_cons_zero, List.set_cons_succ]
    refine wpAnyH_ready (rs := [8]) (by kernel_rfl) (by simp) ?_
    refine AllReadyH.cons rfl (fun K3 hK3 => ?_) AllReadyH.nil
    refine wanted_go rfl ?_
    simp only [List.getElem_toArray, List.getElem_cons_zero, List.getElem_cons_succ]
    have HQ := Lib.hid (H.out.below ((Below.refl _ W).drew.trans HBW.out))
    have g0 := HQ.out.S.cell 0 (.slice a1 st.length c1) rfl
    have g1 := HQ.out.S.free 0
    have H6 := Lib.hid (HQ.out.S.set 0 (.slice a4 S2.length c4))
    have k0 := H6.out.cell 0 (.slice a4 S2.length c4) rfl
    have k1 := H6.out.cell 1 (.slice a2 kp.length c2) rfl
    have k2 := H6.out.free 1
    have H7 := Lib.hid (show DkIn w w.heap.size (w.heap.size + 1) a4 a4 a3 c4 c4 c3 ⟨S2, S2, [], rm⟩ _ from ⟨H6.out.set 1 (.slice a4 S2.length c4), (HF4.out.set 0 _).set 1 _, (HF4.out.set 0 _).set 1 _, .inl rfl⟩)
    go_wp2
    refine hK3.out _ _ (H6.out.lo) (fun hS3 => ?_)
    refine wpAnyH_done (by kernel_rfl) ?_ _
    clear e0 e2 g0 g1
    have HD := Lib.hid (H7.out.S.done (dkC a4 a4 a3 c4 c4 c3 ⟨S2, S2, [], rm⟩))
    have HDN := Lib.hid (H7.out.done ⟨hc4, hc4, by have := HK.out.2.2; simp⟩ ⟨.inr HA4.out, .inr HA4.out, .inl rfl⟩)
    have HB := Lib.hid H7.out.S.box; have HR := Lib.hid H7.out.S.res
    have HO := Lib.hid (dkC_one a4 a4 a3 c4 c4 c3 ⟨S2, S2, [], rm⟩)
    have HI := Lib.hid (dkC_info a4 a4 a3 c4 c4 c3 ⟨S2, S2, [], rm⟩)
    have HZ := Lib.hid (show dkZ.size = (dkC a4 a4 a3 c4 c4 c3 ⟨S2, S2, [], rm⟩).size from rfl)
    obtain ⟨CS, hCS⟩ : ∃ C, dkC a4 a4 a3 c4 c4 c3 ⟨S2, S2, [], rm⟩ = C := ⟨_, rfl⟩
    rw [hCS] at HD HDN HB HO HI HZ
    clear hCS H7 H6 HQ
    go_wp2_with (first
      | ((with_reducible refine atLoad (ty := 33) (x := .tmp 3) rfl ?_); refine wpList_load_row rfl 33 (.tmp 3) rfl w.heap.size rfl 33 CS (0, 0) _ HB.out Try.underlying33 rfl HI.out ?_)
      | ((with_reducible refine atStore (ty := 33) (x := .tmp 6) (y := .tmp 36) rfl ?_); refine wpList_store_row rfl 33 (.tmp 6) (.tmp 36) rfl (w.heap.size + 1) CS rfl rfl 33 _ HR.out HI.out HZ.out HO.out ?_))
    refine ret_cell_tmp rfl rfl rfl rfl HD.out.1 Try.underlying33 rfl HI.out ?_
    exact ⟨CS, rfl, HDN.out, HD.out.2⟩
  · have hp2 : d.pend.length = 0 := by omega
    rw [cutF_same hp hn hs]
    go_enter Try.func15, Try.ntmps15
    go_upto_region 1 with (fail)
    refine at_world (Φ := DkIn w w.heap.size (w.heap.size + 1) a1 a2 a3 c1 c2 c3 d) HST.out ?_
    rintro W hW
    have H := Lib.hid hW
    have e0 := hW.S.cell 0 (.slice a1 d.stands.length c1) rfl
    have e2 := hW.S.cell 2 (.slice a3 d.pend.length c3) rfl
    clear hW HST
    have HD := Lib.hid (H.out.S.done (dkC a1 a2 a3 c1 c2 c3 d))
    have HDN := Lib.hid (H.out.done HK.out HAP.out)
    have HB := Lib.hid H.out.S.box; have HR := Lib.hid H.out.S.res
    have HRD := Lib.hid (rread23 a1 d.stands c1 name W H.out.f1.at (by unfold maxLen; omega))
    generalize readF d.stands name = RN at *
    clear hp
    obtain ⟨CS, hCS⟩ : ∃ C, dkC a1 a2 a3 c1 c2 c3 d = C := ⟨_, rfl⟩
    rw [hCS] at HD HDN HB HO HI HZ
    rw [hCS]
    clear hCS H
    go_wp2_with (first
      | (go_at_call 23; refine HRD.out.mono ?_; rintro e w1 ⟨rfl, rfl⟩)
      | ((with_reducible refine atLoad (ty := 33) (x := .tmp 3) rfl ?_); refine wpList_load_row rfl 33 (.tmp 3) rfl w.heap.size rfl 33 CS (0, 0) _ HB.out Try.underlying33 rfl HI.out ?_)
      | ((with_reducible refine atStore (ty := 33) (x := .tmp 6) (y := .tmp 36) rfl ?_); refine wpList_store_row rfl 33 (.tmp 6) (.tmp 36) rfl (w.heap.size + 1) CS rfl rfl 33 _ HR.out HI.out HZ.out HO.out ?_))
    refine ret_cell_tmp rfl rfl rfl rfl HD.out.1 Try.underlying33 rfl HI.out ?_
    exact ⟨CS, rfl, HDN.out, HD.out.2⟩
end Go.Proofs.Ytcedkilgfoiifaa

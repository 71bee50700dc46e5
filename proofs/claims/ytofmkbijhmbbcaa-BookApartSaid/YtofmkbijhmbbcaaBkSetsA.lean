/- What the walks of BookSets and BookApart lean on. -/
import Derived.Test.YtofmkbijhmbbcaaBkFinds
import Derived.Test.YtofmkbijhmbbcaaRegInv
namespace Go.Proofs.Ytofmkbijhmbbcaa
open Go.RowKit Base Base2

theorem load_rowA {P : Program} {W : World} {g : Nat} {ty t : TypeId} {cs : Array Value} {d : TypeDesc} (hg : W.heap[g]? = some (.cells cs t (0, 0))) (hu : P.underlying ty = some d) (hd : d.isRow = true) (hi : (P.info? ty).map (·.size) = some cs.size) :
    (Instr.loadAt ty (.pointer (some ⟨g, 0, none⟩))).run P W = .ok (.agg cs) W := by
  have h := load_at (P := P) W g 0 ty cs.toList d (fun j u hu => by rw [Nat.zero_add, cell_of_row W g j cs t (0, 0) hg]; simpa using hu) hu hd (by simpa using hi)
  simpa using h
theorem yieldsIf_row {P : Program} {ops : Array Oper} {S : World → Prop} {op : Oper} {a : Act} {cs : Array Value} (hw : Region.wanted op (yielded ops a.tmps) = true) (ty : TypeId) (x : Operand) (ho : op.op = .load ty x) (g : Nat) (hx : a.eval x = .pointer (some ⟨g, 0, none⟩)) (t : TypeId) {d : TypeDesc}
    (hS : ∀ w, S w → w.heap[g]? = some (.cells cs t (0, 0))) (hu : P.underlying ty = some d) (hd : d.isRow = true) (hi : (P.info? ty).map (·.size) = some cs.size) : YieldsIf P ops S op (.agg cs) a :=
  .inl ⟨hw, fun w hw' => by
    unfold execOp
    simp only [ho, hx, Sem.run_bind, Sem.run_pure, load_rowA (hS w hw') hu hd hi, Result.andThen_ok]⟩
theorem wanted_none {ops : Array Oper} {o : Oper} {a : Act} (hgd : o.guard = none) : Region.wanted o (yielded ops a.tmps) = true := by simp [Region.wanted, hgd]
/-- A row, while blocks are turned that are boxes of empty books. -/
theorem rows_off {k : Nat} {W W' : World} {a : Option Addr} {l : List Item} (h : RowsOf k W a l) (hk2 : 2 ≤ k) (hl : ∀ x ∈ l, x.length = k) (hsz : W.heap.size ≤ W'.heap.size)
    (hs : ∀ i : Nat, W'.heap[i]? = W.heap[i]? ∨ W.heap[i]? = some (Obj.cells #[.slice none 0 0, .slice none 0 0, .slice none 0 0, .slice none 0 0, .int .i64 0] 27 (0, 0))) : RowsOf k W' a l := by
  rcases h with h | ⟨b, off, rfl, hb, hc⟩
  · exact .inl h
  · cases l with
    | nil => exact .inl rfl
    | cons x l =>
      have hx := hl x (List.mem_cons_self ..)
      obtain ⟨z0, h0⟩ : ∃ z, x[0]? = some z := ⟨x[0]'(by omega), by simp⟩
      obtain ⟨z1, h1⟩ : ∃ z, x[1]? = some z := ⟨x[1]'(by omega), by simp⟩
      have c0 := hc 0 x rfl 0 z0 h0
      have c1 := hc 0 x rfl 1 z1 h1
      rw [Nat.zero_mul, Nat.add_zero] at c0 c1
      rcases hs b with hs | hs
      · exact .inr ⟨b, off, rfl, Nat.lt_of_lt_of_le hb hsz, fun i y hi j z hz => (World.cell?_of_block (a := ⟨b, off + i * k + j, none⟩) hs).trans (hc i y hi j z hz)⟩
      · exfalso
        rw [cell_of_row W b _ _ 27 (0, 0) hs] at c0 c1
        match off, c0, c1 with
        | 0, c0, _ => simp at c0
        | 1, c0, _ => simp at c0
        | 2, c0, _ => simp at c0
        | 3, c0, _ => simp at c0
        | 4, _, c1 => simp at c1
        | o + 5, c0, _ => simp at c0
theorem book_off {m : Nat} {W W' : World} {v : Slots} {b : BookT} (h : BookIn W v b) (hk : BookOk m b) (hsz : W.heap.size ≤ W'.heap.size)
    (hs : ∀ i : Nat, W'.heap[i]? = W.heap[i]? ∨ W.heap[i]? = some (Obj.cells #[.slice none 0 0, .slice none 0 0, .slice none 0 0, .slice none 0 0, .int .i64 0] 27 (0, 0))) : BookIn W' v b :=
  ⟨rows_off h.hs (by decide) (fun x hx => (hk.hs.2 x hx).1) hsz hs, rows_off h.ss (by decide) (fun x hx => (hk.ss.2 x hx).1) hsz hs, rows_off h.os (by decide) (fun x hx => (hk.os.2 x hx).1) hsz hs, rows_off h.rs (by decide) (fun x hx => (hk.rs.2 x hx).1) hsz hs⟩
theorem five_alloc {w : World} {A B C D E : Obj} : (((((w.alloc A).alloc B).alloc C).alloc D).alloc E).heap[w.heap.size]? = some A ∧ (((((w.alloc A).alloc B).alloc C).alloc D).alloc E).heap[w.heap.size + 1]? = some B ∧ (((((w.alloc A).alloc B).alloc C).alloc D).alloc E).heap[w.heap.size + 1 + 1]? = some C ∧
    (((((w.alloc A).alloc B).alloc C).alloc D).alloc E).heap[w.heap.size + 1 + 1 + 1]? = some D ∧ (((((w.alloc A).alloc B).alloc C).alloc D).alloc E).heap[w.heap.size + 1 + 1 + 1 + 1]? = some E ∧ Below w.heap.size w (((((w.alloc A).alloc B).alloc C).alloc D).alloc E) := by
  obtain ⟨h1, h2, h3, h4, h5⟩ := four_alloc (w := w) (A := A) (B := B) (C := C) (D := D)
  have e : ((((w.alloc A).alloc B).alloc C).alloc D).heap.size = w.heap.size + 4 := by simp
  refine ⟨?_, ?_, ?_, ?_, ?_, h5.alloc (by omega) _⟩
  · rw [Below.heap_alloc _ _ _ (by omega)]; exact h1
  · rw [Below.heap_alloc _ _ _ (by omega)]; exact h2
  · rw [Below.heap_alloc _ _ _ (by omega)]; exact h3
  · rw [Below.heap_alloc _ _ _ (by omega)]; exact h4
  · have h := heap_alloc_new ((((w.alloc A).alloc B).alloc C).alloc D) E
    rwa [e] at h
/-- What a set keeps. -/
theorem set_ok1 {m k : Nat} {ge eq : Item → Bool} {x : Item} {d : Bool} {l : List Item} (h : ItemsOk k m l) (hx : x.length = k) (hz : ∀ z ∈ x, in6 z) : ItemsOk k (m + 1) (setL ge eq x d l) := setL_ok h ⟨hx, hz⟩
theorem setHolder_ok {m : Nat} {b : BookT} {p q r s : Int} (h : BookOk m b) (i1 : in6 p) (i2 : in6 q) (i3 : in6 r) (i4 : in6 s) : BookOk (m + 1) (setHolderT b [p, q, r, s]) :=
  ⟨set_ok1 h.hs rfl (by intro z hz; simp at hz; rcases hz with rfl | rfl | rfl | rfl <;> assumption), h.ss.mono (by omega), h.os.mono (by omega), h.rs.mono (by omega), h.co⟩
theorem setRate_ok {m : Nat} {b : BookT} {p q : Int} (h : BookOk m b) (i1 : in6 p) (i2 : in6 q) : BookOk (m + 1) (setRateT b [p, q]) :=
  ⟨h.hs.mono (by omega), h.ss.mono (by omega), h.os.mono (by omega), set_ok1 h.rs rfl (by intro z hz; simp at hz; rcases hz with rfl | rfl <;> assumption), h.co⟩
theorem setStake_ok {m : Nat} {b : BookT} {p q r : Int} (h : BookOk m b) (i1 : in6 p) (i2 : in6 q) (i3 : in6 r) : BookOk (m + 1) (setStakeT b [p, q, r]) :=
  ⟨h.hs.mono (by omega), set_ok1 h.ss rfl (by intro z hz; simp at hz; rcases hz with rfl | rfl | rfl <;> assumption), h.os.mono (by omega), h.rs.mono (by omega), h.co⟩
theorem setOpen_ok {m : Nat} {b : BookT} {p q r s t z : Int} (h : BookOk m b) (i1 : in6 p) (i2 : in6 q) (i3 : in6 r) (i4 : in6 s) (i5 : in6 t) (i6 : in6 z) : BookOk (m + 1) (setOpenT b [p, q, r, s, t, z]) :=
  ⟨h.hs.mono (by omega), h.ss.mono (by omega), set_ok1 h.os rfl (by intro z hz; simp at hz; rcases hz with rfl | rfl | rfl | rfl | rfl | rfl <;> assumption), h.rs.mono (by omega), h.co⟩
theorem rise4 {b : BookT} (h : riseT b = true) : riseL lt1 b.hs = true ∧ riseL lt1 b.os = true ∧ riseL lt1 b.rs = true ∧ riseL lt2 b.ss = true := by
  unfold riseT at h
  simp only [Bool.and_eq_true] at h
  exact ⟨h.1.1.1, h.1.1.2, h.1.2, h.2⟩
theorem setHolder_rise {b : BookT} (x : Item) (h : riseT b = true) : riseT (setHolderT b x) = true := by
  obtain ⟨h1, h2, h3, h4⟩ := rise4 h
  have e := setL_rise ord1 x false b.hs h1
  unfold riseT setHolderT
  dsimp only
  rw [e, h2, h3, h4]; rfl
theorem setRate_rise {b : BookT} (x : Item) (h : riseT b = true) : riseT (setRateT b x) = true := by
  obtain ⟨h1, h2, h3, h4⟩ := rise4 h
  have e := setL_rise ord1 x false b.rs h3
  unfold riseT setRateT
  dsimp only
  rw [e, h2, h1, h4]; rfl
theorem setOpen_rise {b : BookT} (x : Item) (h : riseT b = true) : riseT (setOpenT b x) = true := by
  obtain ⟨h1, h2, h3, h4⟩ := rise4 h
  have e := setL_rise ord1 x (key 4 x == 0) b.os h2
  unfold riseT setOpenT
  dsimp only
  rw [e, h1, h3, h4]; rfl
theorem setStake_rise {b : BookT} (x : Item) (h : riseT b = true) : riseT (setStakeT b x) = true := by
  obtain ⟨h1, h2, h3, h4⟩ := rise4 h
  have e := setL_rise ord2 x (key 2 x == 0) b.ss h4
  unfold riseT setStakeT
  dsimp only
  rw [e, h1, h2, h3]; rfl
end Go.Proofs.Ytofmkbijhmbbcaa

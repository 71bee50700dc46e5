/- The contract of the document's Writes on a disk. -/
import Derived.Test.YtcedkilgfoiifaaDkRows
import Derived.BigQuiet
namespace Go.Proofs.Ytcedkilgfoiifaa
open Go.RowKit Base Base2

theorem cells_w {W : World} {g : Nat} {name s : ByteArray} {n : Nat} {pl : Int} (hpl : (n : Int) = pl) (h : W.heap[g]? = some (.cells #[.string name, .int .i64 pl, .string s] 49 (0, 0))) : ∀ (j : Nat) (u : Value), (wcells (name, n, s))[j]? = some u → W.cell? ((⟨g, 0, none⟩ : Addr).add j) = some u := by
  subst hpl
  intro j u hj
  rw [Addr.add_mid, Nat.zero_add, cell_of_row _ _ _ _ 49 (0, 0) h]
  match j, hj with
  | 0, hj => exact hj
  | 1, hj => exact hj
  | 2, hj => exact hj
/-- A disk's box, the result's, and that of a write. -/
structure DkX (w : World) (ws : Array Value) (a1 a2 a3 : Option Addr) (c1 c2 c3 : Nat) (d : DkT) (W : World) : Prop where
  I : DkIn w w.heap.size (w.heap.size + 2) a1 a2 a3 c1 c2 c3 d W
  wb : W.heap[w.heap.size + 1]? = some (.cells ws 49 (0, 0))
theorem DkX.below {w W W' : World} {ws : Array Value} {a1 a2 a3 : Option Addr} {c1 c2 c3 : Nat} {d : DkT} (h : DkX w ws a1 a2 a3 c1 c2 c3 d W) (hb : Below W.heap.size W W') : DkX w ws a1 a2 a3 c1 c2 c3 d W' :=
  ⟨h.I.below hb, (hb.block _ (lt_of_blkD h.wb)).trans h.wb⟩
theorem DkX.start (w : World) (ws : Array Value) {a1 a2 a3 : Option Addr} {c1 c2 c3 : Nat} {d : DkT} (f1 : FilesAt w a1 d.stands) (f2 : FilesAt w a2 d.kept) (f3 : PendAt w a3 d.pend) : DkX w ws a1 a2 a3 c1 c2 c3 d (((w.alloc (.cells (dkC a1 a2 a3 c1 c2 c3 d) 33)).alloc (.cells ws 49)).alloc (.cells dkZ 33)) := by
  obtain ⟨h1, h2, h3, lo⟩ := three_alloc (w := w) (A := .cells (dkC a1 a2 a3 c1 c2 c3 d) 33) (B := .cells ws 49) (C := .cells dkZ 33)
  have S : DkS w w.heap.size (w.heap.size + 2) (dkC a1 a2 a3 c1 c2 c3 d) dkZ _ := ⟨h1, h3, lo, Nat.le_refl _, by omega, by omega⟩
  exact ⟨⟨S, (f1.off (Nat.le_refl _) (by omega)).below lo, (f2.off (Nat.le_refl _) (by omega)).below lo, (f3.off (Nat.le_refl _) (by omega)).below lo⟩, h2⟩
/-- What stays while the pending writes are put together. -/
def WrS (w : World) (ws : Array Value) (W : World) : Prop := Below w.heap.size w W ∧ W.heap[w.heap.size + 1]? = some (.cells ws 49 (0, 0))
theorem DkX.wr {w W W' : World} {ws : Array Value} {a1 a2 a3 : Option Addr} {c1 c2 c3 : Nat} {d : DkT} (h : DkX w ws a1 a2 a3 c1 c2 c3 d W) (hb : Below W.heap.size W W') : WrS w ws W' := ⟨(h.below hb).I.S.lo, (h.below hb).wb⟩
theorem oneW1 (p : WriteT) : ∀ u ∈ wcells p, u.oneCell' = true := by
  intro u hu
  simp [wcells] at hu
  rcases hu with rfl | rfl | rfl <;> rfl
theorem room_own (base g : Nat) (hb : base ≤ g) : ∀ k, (Value.slice (some ⟨g, 0, none⟩) 0 0).ownBlock = some k → base ≤ k := by
  intro k hk; simp [Value.ownBlock] at hk; omega

set_option maxRecDepth 100000 in
set_option maxHeartbeats 8000000 in
theorem rwrites_no (P : Nat → Prop) (d : DkT) (a1 a2 a3 : Option Addr) (c1 c2 c3 : Nat) (name s : ByteArray) (pl : Int) (w : World) (f1 : FilesAt w a1 d.stands) (f2 : FilesAt w a2 d.kept) (f3 : PendAt w a3 d.pend) (hk : d.stands.length ≤ c1 ∧ d.kept.length ≤ c2 ∧ d.pend.length ≤ c3) (hap : (d.stands = [] ∨ AdrP P a1) ∧ (d.kept = [] ∨ AdrP P a2) ∧ (d.pend = [] ∨ AdrP P a3)) (hl : d.stands.length ≤ 9000) (hn : name.size ≤ 1000000)
    (hno : (namedS name = false ∨ s.size = 0) ∨ (pl < 0 ∨ ((readF d.stands name).size : Int) < pl) ∨ ((readF d.stands name).size = 0 ∧ d.stands.length = 4096)) :
    Calls Try.prog 20 #[.agg (dkC a1 a2 a3 c1 c2 c3 d), .agg #[.string name, .int .i64 pl, .string s]] w fun e w' => ∃ cs', e = .returned (.tuple #[.agg cs', .int .i64 (writesF d name pl s).2]) ∧ DkAt P w' cs' (writesF d name pl s).1 ∧ Below w.heap.size w w' := by
  have HST := Lib.hid (DkX.start w #[.string name, .int .i64 pl, .string s] (c1 := c1) (c2 := c2) (c3 := c3) f1 f2 f3)
  have HK := Lib.hid hk
  have HAP := Lib.hid hap
  have HNM0 := Lib.hid (fun W => rnamed34 name W (by unfold maxLen; omega))
  have HRD0 := Lib.hid (fun W hf => rread23 a1 d.stands c1 name W hf (by unfold maxLen; omega))
  clear f1 f2 f3 hk hn hap
  by_cases h1 : namedS name = false
  · clear hno
    rw [writesF_arg (.inl h1)]
    rw [h1] at HNM0
    clear h1
    go_enter Try.func20, Try.ntmps20
    go_upto_region 1 with (fail)
    refine at_world (Φ := DkX w #[.string name, .int .i64 pl, .string s] a1 a2 a3 c1 c2 c3 d) HST.out ?_
    rintro W hW
    have H := Lib.hid hW
    have q0 := cellD hW.wb 0 (.string name) rfl
    have q1 := cellD hW.wb 1 (.int .i64 pl) rfl
    have q2 := cellD hW.wb 2 (.string s) rfl
    have e0 := hW.I.S.cell 0 (.slice a1 d.stands.length c1) rfl
    clear hW HST
    have HNM := Lib.hid (HNM0.out W)
    have HRD := Lib.hid (HRD0.out W H.out.I.f1.at)
    clear HNM0 HRD0
    have HD := Lib.hid (H.out.I.S.done (dkC a1 a2 a3 c1 c2 c3 d))
    have HDN := Lib.hid (H.out.I.done HK.out HAP.out)
    have HB := Lib.hid H.out.I.S.box; have HR := Lib.hid H.out.I.S.res
    have HO := Lib.hid (dkC_one a1 a2 a3 c1 c2 c3 d)
    have HI := Lib.hid (dkC_info a1 a2 a3 c1 c2 c3 d)
    have HZ := Lib.hid (show dkZ.size = (dkC a1 a2 a3 c1 c2 c3 d).size from rfl)
    obtain ⟨CS, hCS⟩ : ∃ C, dkC a1 a2 a3 c1 c2 c3 d = C := ⟨_, rfl⟩
    rw [hCS] at HD HDN HB HO HI HZ
    rw [hCS]
    clear hCS
    go_wp2_with (first
      | (go_at_call 36; refine HNM.out.mono ?_; rintro e w1 ⟨rfl, rfl⟩)
      | ((with_reducible refine atLoad (ty := 33) (x := .tmp 2) rfl ?_); refine wpList_load_row rfl 33 (.tmp 2) rfl w.heap.size rfl 33 CS (0, 0) _ HB.out Try.underlying33 rfl HI.out ?_)
      | ((with_reducible refine atStore (ty := 33) (x := .tmp 4) (y := .tmp 17) rfl ?_); refine wpList_store_row rfl 33 (.tmp 4) (.tmp 17) rfl (w.heap.size + 2) CS rfl rfl 33 _ HR.out HI.out HZ.out HO.out ?_))
    refine ret_cell_tmp rfl rfl rfl rfl HD.out.1 Try.underlying33 rfl HI.out ?_
    exact ⟨CS, rfl, HDN.out, HD.out.2⟩
  by_cases h2 : s.size = 0
  · clear hno
    rw [writesF_arg (.inr h2)]
    have h1t : namedS name = true := by simpa using h1
    rw [h1t] at HNM0
    obtain rfl : s = ⟨#[]⟩ := empty_ofD h2
    clear h1 h1t h2
    go_enter Try.func20, Try.ntmps20
    go_upto_region 1 with (fail)
    refine at_world (Φ := DkX w #[.string name, .int .i64 pl, .string ⟨#[]⟩] a1 a2 a3 c1 c2 c3 d) HST.out ?_
    rintro W hW
    have H := Lib.hid hW
    have q0 := cellD hW.wb 0 (.string name) rfl
    have q1 := cellD hW.wb 1 (.int .i64 pl) rfl
    have q2 := cellD hW.wb 2 (.string ⟨#[]⟩) rfl
    have e0 := hW.I.S.cell 0 (.slice a1 d.stands.length c1) rfl
    clear hW HST
    have HNM := Lib.hid (HNM0.out W)
    have HRD := Lib.hid (HRD0.out W H.out.I.f1.at)
    clear HNM0 HRD0
    have HD := Lib.hid (H.out.I.S.done (dkC a1 a2 a3 c1 c2 c3 d))
    have HDN := Lib.hid (H.out.I.done HK.out HAP.out)
    have HB := Lib.hid H.out.I.S.box; have HR := Lib.hid H.out.I.S.res
    have HO := Lib.hid (dkC_one a1 a2 a3 c1 c2 c3 d)
    have HI := Lib.hid (dkC_info a1 a2 a3 c1 c2 c3 d)
    have HZ := Lib.hid (show dkZ.size = (dkC a1 a2 a3 c1 c2 c3 d).size from rfl)
    obtain ⟨CS, hCS⟩ : ∃ C, dkC a1 a2 a3 c1 c2 c3 d = C := ⟨_, rfl⟩
    rw [hCS] at HD HDN HB HO HI HZ
    rw [hCS]
    clear hCS
    go_wp2_with (first
      | (go_at_call 36; refine HNM.out.mono ?_; rintro e w1 ⟨rfl, rfl⟩)
      | ((with_reducible refine atLoad (ty := 33) (x := .tmp 2) rfl ?_); refine wpList_load_row rfl 33 (.tmp 2) rfl w.heap.size rfl 33 CS (0, 0) _ HB.out Try.underlying33 rfl HI.out ?_)
      | ((with_reducible refine atStore (ty := 33) (x := .tmp 4) (y := .tmp 17) rfl ?_); refine wpList_store_row rfl 33 (.tmp 4) (.tmp 17) rfl (w.heap.size + 2) CS rfl rfl 33 _ HR.out HI.out HZ.out HO.out ?_))
    refine ret_cell_tmp rfl rfl rfl rfl HD.out.1 Try.underlying33 rfl HI.out ?_
    exact ⟨CS, rfl, HDN.out, HD.out.2⟩
  have h12 : ¬ (namedS name = false ∨ s.size = 0) := fun h => h.elim h1 h2
  have h1t : namedS name = true := by simpa using h1
  rw [h1t] at HNM0
  have g1 := (not_emptyD h2).1
  have g2 := (not_emptyD h2).2
  by_cases h3 : pl < 0
  · clear hno
    rw [writesF_range h12 (.inl h3)]
    generalize readF d.stands name = RN at *
    clear h12 h1 h1t h2
    go_enter Try.func20, Try.ntmps20
    go_upto_region 1 with (fail)
    refine at_world (Φ := DkX w #[.string name, .int .i64 pl, .string s] a1 a2 a3 c1 c2 c3 d) HST.out ?_
    rintro W hW
    have H := Lib.hid hW
    have q0 := cellD hW.wb 0 (.string name) rfl
    have q1 := cellD hW.wb 1 (.int .i64 pl) rfl
    have q2 := cellD hW.wb 2 (.string s) rfl
    have e0 := hW.I.S.cell 0 (.slice a1 d.stands.length c1) rfl
    clear hW HST
    have HNM := Lib.hid (HNM0.out W)
    have HRD := Lib.hid (HRD0.out W H.out.I.f1.at)
    clear HNM0 HRD0
    have HD := Lib.hid (H.out.I.S.done (dkC a1 a2 a3 c1 c2 c3 d))
    have HDN := Lib.hid (H.out.I.done HK.out HAP.out)
    have HB := Lib.hid H.out.I.S.box; have HR := Lib.hid H.out.I.S.res
    have HO := Lib.hid (dkC_one a1 a2 a3 c1 c2 c3 d)
    have HI := Lib.hid (dkC_info a1 a2 a3 c1 c2 c3 d)
    have HZ := Lib.hid (show dkZ.size = (dkC a1 a2 a3 c1 c2 c3 d).size from rfl)
    obtain ⟨CS, hCS⟩ : ∃ C, dkC a1 a2 a3 c1 c2 c3 d = C := ⟨_, rfl⟩
    rw [hCS] at HD HDN HB HO HI HZ
    rw [hCS]
    clear hCS
    go_wp2_with (first
      | (go_at_call 36; refine HNM.out.mono ?_; rintro e w1 ⟨rfl, rfl⟩)
      | (go_at_call 23; refine HRD.out.mono ?_; rintro e w1 ⟨rfl, rfl⟩)
      | ((with_reducible refine atLoad (ty := 33) (x := .tmp 2) rfl ?_); refine wpList_load_row rfl 33 (.tmp 2) rfl w.heap.size rfl 33 CS (0, 0) _ HB.out Try.underlying33 rfl HI.out ?_)
      | ((with_reducible refine atStore (ty := 33) (x := .tmp 4) (y := .tmp 33) rfl ?_); refine wpList_store_row rfl 33 (.tmp 4) (.tmp 33) rfl (w.heap.size + 2) CS rfl rfl 33 _ HR.out HI.out HZ.out HO.out ?_))
    refine ret_cell_tmp rfl rfl rfl rfl HD.out.1 Try.underlying33 rfl HI.out ?_
    exact ⟨CS, rfl, HDN.out, HD.out.2⟩
  by_cases h4 : ((readF d.stands name).size : Int) < pl
  · clear hno
    rw [writesF_range h12 (.inr h4)]
    generalize readF d.stands name = RN at *
    clear h12 h1 h1t h2
    go_enter Try.func20, Try.ntmps20
    go_upto_region 1 with (fail)
    refine at_world (Φ := DkX w #[.string name, .int .i64 pl, .string s] a1 a2 a3 c1 c2 c3 d) HST.out ?_
    rintro W hW
    have H := Lib.hid hW
    have q0 := cellD hW.wb 0 (.string name) rfl
    have q1 := cellD hW.wb 1 (.int .i64 pl) rfl
    have q2 := cellD hW.wb 2 (.string s) rfl
    have e0 := hW.I.S.cell 0 (.slice a1 d.stands.length c1) rfl
    clear hW HST
    have HNM := Lib.hid (HNM0.out W)
    have HRD := Lib.hid (HRD0.out W H.out.I.f1.at)
    clear HNM0 HRD0
    have HD := Lib.hid (H.out.I.S.done (dkC a1 a2 a3 c1 c2 c3 d))
    have HDN := Lib.hid (H.out.I.done HK.out HAP.out)
    have HB := Lib.hid H.out.I.S.box; have HR := Lib.hid H.out.I.S.res
    have HO := Lib.hid (dkC_one a1 a2 a3 c1 c2 c3 d)
    have HI := Lib.hid (dkC_info a1 a2 a3 c1 c2 c3 d)
    have HZ := Lib.hid (show dkZ.size = (dkC a1 a2 a3 c1 c2 c3 d).size from rfl)
    obtain ⟨CS, hCS⟩ : ∃ C, dkC a1 a2 a3 c1 c2 c3 d = C := ⟨_, rfl⟩
    rw [hCS] at HD HDN HB HO HI HZ
    rw [hCS]
    clear hCS
    go_wp2_with (first
      | (go_at_call 36; refine HNM.out.mono ?_; rintro e w1 ⟨rfl, rfl⟩)
      | (go_at_call 23; refine HRD.out.mono ?_; rintro e w1 ⟨rfl, rfl⟩)
      | ((with_reducible refine atLoad (ty := 33) (x := .tmp 2) rfl ?_); refine wpList_load_row rfl 33 (.tmp 2) rfl w.heap.size rfl 33 CS (0, 0) _ HB.out Try.underlying33 rfl HI.out ?_)
      | ((with_reducible refine atStore (ty := 33) (x := .tmp 4) (y := .tmp 33) rfl ?_); refine wpList_store_row rfl 33 (.tmp 4) (.tmp 33) rfl (w.heap.size + 2) CS rfl rfl 33 _ HR.out HI.out HZ.out HO.out ?_))
    refine ret_cell_tmp rfl rfl rfl rfl HD.out.1 Try.underlying33 rfl HI.out ?_
    exact ⟨CS, rfl, HDN.out, HD.out.2⟩
  have h34 : ¬ (pl < 0 ∨ ((readF d.stands name).size : Int) < pl) := fun h => h.elim h3 h4
  have h5 := (hno.resolve_left h12).resolve_left h34
  · skip
    rw [writesF_many h12 h34 h5]
    obtain ⟨h5a, h5b⟩ := h5
    obtain ⟨RN, hRN⟩ : ∃ R, readF d.stands name = R := ⟨_, rfl⟩
    rw [hRN] at HRD0 h5a h4
    obtain rfl : RN = ⟨#[]⟩ := empty_ofD h5a
    have h5c : ((d.stands.length : Int) == 4096) = true := by rw [h5b]; rfl
    have h6 : ¬ (0 : Int) < pl := h4
    clear h12 h34 h1 h1t h2 hno hRN h5a h4 h5b hl
    go_enter Try.func20, Try.ntmps20
    go_upto_region 1 with (fail)
    refine at_world (Φ := DkX w #[.string name, .int .i64 pl, .string s] a1 a2 a3 c1 c2 c3 d) HST.out ?_
    rintro W hW
    have H := Lib.hid hW
    have q0 := cellD hW.wb 0 (.string name) rfl
    have q1 := cellD hW.wb 1 (.int .i64 pl) rfl
    have q2 := cellD hW.wb 2 (.string s) rfl
    have e0 := hW.I.S.cell 0 (.slice a1 d.stands.length c1) rfl
    clear hW HST
    have HNM := Lib.hid (HNM0.out W)
    have HRD := Lib.hid (HRD0.out W H.out.I.f1.at)
    clear HNM0 HRD0
    have HD := Lib.hid (H.out.I.S.done (dkC a1 a2 a3 c1 c2 c3 d))
    have HDN := Lib.hid (H.out.I.done HK.out HAP.out)
    have HB := Lib.hid H.out.I.S.box; have HR := Lib.hid H.out.I.S.res
    have HO := Lib.hid (dkC_one a1 a2 a3 c1 c2 c3 d)
    have HI := Lib.hid (dkC_info a1 a2 a3 c1 c2 c3 d)
    have HZ := Lib.hid (show dkZ.size = (dkC a1 a2 a3 c1 c2 c3 d).size from rfl)
    obtain ⟨CS, hCS⟩ : ∃ C, dkC a1 a2 a3 c1 c2 c3 d = C := ⟨_, rfl⟩
    rw [hCS] at HD HDN HB HO HI HZ
    rw [hCS]
    clear hCS
    go_wp2_with (first
      | (go_at_call 36; refine HNM.out.mono ?_; rintro e w1 ⟨rfl, rfl⟩)
      | (go_at_call 23; refine HRD.out.mono ?_; rintro e w1 ⟨rfl, rfl⟩)
      | ((with_reducible refine atLoad (ty := 33) (x := .tmp 2) rfl ?_); refine wpList_load_row rfl 33 (.tmp 2) rfl w.heap.size rfl 33 CS (0, 0) _ HB.out Try.underlying33 rfl HI.out ?_)
      | ((with_reducible refine atStore (ty := 33) (x := .tmp 4) (y := .tmp 42) rfl ?_); refine wpList_store_row rfl 33 (.tmp 4) (.tmp 42) rfl (w.heap.size + 2) CS rfl rfl 33 _ HR.out HI.out HZ.out HO.out ?_))
    refine ret_cell_tmp rfl rfl rfl rfl HD.out.1 Try.underlying33 rfl HI.out ?_
    exact ⟨CS, rfl, HDN.out, HD.out.2⟩

theorem load_wb {W : World} {g : Nat} {name s : ByteArray} {n : Nat} {pl : Int} (hpl : (n : Int) = pl) (h : W.heap[g]? = some (.cells #[.string name, .int .i64 pl, .string s] 49 (0, 0))) : (Instr.loadAt 49 (.pointer (some ⟨g, 0, none⟩))).run Try.prog W = .ok (.agg #[.string name, .int .i64 pl, .string s]) W := by
  subst hpl
  have hr := World.rangeAt_of_block h 0 3
  have e : ((#[.string name, .int .i64 (n : Int), .string s] : Array Value).extract 0 (0 + 3)).toList = wcells (name, n, s) := rfl
  rw [e] at hr
  have := load_at (P := Try.prog) W g 0 49 (wcells (name, n, s)) _ hr Try.underlying49 rfl (by rw [infoW]; rfl)
  simpa [wcells] using this
set_option maxRecDepth 100000 in
set_option maxHeartbeats 16000000 in
theorem rwrites_yes (P : Nat → Prop) (d : DkT) (a1 a2 a3 : Option Addr) (c1 c2 c3 : Nat) (name s : ByteArray) (n : Nat) (w : World) (f1 : FilesAt w a1 d.stands) (f2 : FilesAt w a2 d.kept) (f3 : PendAt w a3 d.pend) (hk : d.stands.length ≤ c1 ∧ d.kept.length ≤ c2 ∧ d.pend.length ≤ c3) (hap : (d.stands = [] ∨ AdrP P a1) ∧ (d.kept = [] ∨ AdrP P a2) ∧ (d.pend = [] ∨ AdrP P a3)) (hPg : ∀ k, w.heap.size ≤ k → P k) (hl : d.stands.length ≤ 9000) (hlp : d.pend.length ≤ 9000) (hn : name.size ≤ 1000000) (hss : s.size ≤ 1000000) (hu : usedF d.stands ≤ 400000000000) (hrd : (readF d.stands name).size ≤ 1100000)
    (h1 : namedS name = true) (h2 : s.size ≠ 0) (h3 : n ≤ (readF d.stands name).size) (h4 : ¬ ((readF d.stands name).size = 0 ∧ d.stands.length = 4096)) :
    Calls Try.prog 20 #[.agg (dkC a1 a2 a3 c1 c2 c3 d), .agg #[.string name, .int .i64 (n : Int), .string s]] w fun e w' => ∃ cs', e = .returned (.tuple #[.agg cs', .int .i64 (writesF d name (n : Int) s).2]) ∧ DkAt P w' cs' (writesF d name (n : Int) s).1 ∧ Below w.heap.size w w' := by
  obtain ⟨i0, hi, hz0, hz1, hz2⟩ := info_parts infoWz
  have HST := Lib.hid (DkX.start w #[.string name, .int .i64 (n : Int), .string s] (c1 := c1) (c2 := c2) (c3 := c3) f1 f2 f3)
  have HK := Lib.hid hk
  have HAP := Lib.hid hap
  have HPG := Lib.hid hPg
  have HNM0 := Lib.hid (fun W => rnamed34 name W (by unfold maxLen; omega))
  have HRD0 := Lib.hid (fun W hf => rread23 a1 d.stands c1 name W hf (by unfold maxLen; omega))
  have HPT0 := Lib.hid (fun W hf => rput40 a1 d.stands c1 name s n W hf (by omega) (by omega) (by omega) (by omega))
  have hup := usedF_put d.stands name s n h3
  have hln := putF_len d.stands name s n
  rw [h1] at HNM0
  clear f1 f2 f3 hk hn hap hPg
  have h12 : ¬ (namedS name = false ∨ s.size = 0) := fun h => h.elim (fun k => by rw [h1] at k; exact absurd k (by simp)) h2
  have h34 : ¬ ((n : Int) < 0 ∨ ((readF d.stands name).size : Int) < (n : Int)) := by omega
  have g1 := (not_emptyD h2).1
  have g2 := (not_emptyD h2).2
  have hfull := writesF_full (d := d) (pl := (n : Int)) h12 h34 h4
  have hok := writesF_ok (d := d) (pl := (n : Int)) h12 h34 h4
  rw [Int.toNat_natCast] at hfull hok
  generalize writesF d name (n : Int) s = RES at *
  obtain ⟨st, kp, pe, rm⟩ := d
  dsimp only at *
  generalize putF st name n s = K at *
  have HPL : Hid ((pe ++ [(name, n, s)]).length = pe.length + 1) := Lib.hid (by simp)
  have HPF : Hid (flatW (pe ++ [(name, n, s)]) = flatW pe ++ wcells (name, n, s)) := Lib.hid (flatW_snoc _ _)
  generalize pe ++ [(name, n, s)] = PE at *
  obtain ⟨pl, hpl⟩ : ∃ p : Int, (n : Int) = p := ⟨_, rfl⟩
  have HPN := Lib.hid hpl
  have hq1 : ¬ pl < 0 := by omega
  have hq3 : ¬ ((readF st name).size : Int) < pl := by omega
  rw [hpl] at HPT0 HST ⊢
  clear h12 h34 h1 h2 hpl
  by_cases hr0 : (readF st name).size = 0
  · have h4c : ((st.length : Int) == 4096) = false := beq_eq_false_iff_ne.2 (by omega)
    obtain ⟨RN, hRN⟩ : ∃ R, readF st name = R := ⟨_, rfl⟩
    rw [hRN] at HRD0 hr0 hq3
    obtain rfl : RN = ⟨#[]⟩ := empty_ofD hr0
    have hq4 : ¬ (0 : Int) < pl := hq3
    clear hr0 h3 h4 hRN hrd hq3
    by_cases h5 : rm < (usedF K : Int)
    · rw [hfull h5]
      clear hfull hok
      go_enter Try.func20, Try.ntmps20
      go_upto_region 1 with (fail)
      refine at_world (Φ := DkX w #[.string name, .int .i64 pl, .string s] a1 a2 a3 c1 c2 c3 ⟨st, kp, pe, rm⟩) HST.out ?_
      rintro W hW
      have H := Lib.hid hW
      have q0 := cellD hW.wb 0 (.string name) rfl
      have q1 := cellD hW.wb 1 (.int .i64 pl) rfl
      have q2 := cellD hW.wb 2 (.string s) rfl
      have e0 := hW.I.S.cell 0 (.slice a1 st.length c1) rfl
      clear hW HST
      have HNM := Lib.hid (HNM0.out W)
      have HRD := Lib.hid (HRD0.out W H.out.I.f1.at)
      have HPT := Lib.hid (HPT0.out W H.out.I.f1.at)
      clear HNM0 HRD0 HPT0
      go_upto_region 9 with (first
        | (go_at_call 36; refine HNM.out.mono ?_; rintro e w1 ⟨rfl, rfl⟩)
        | (go_at_call 23; refine HRD.out.mono ?_; rintro e w1 ⟨rfl, rfl⟩)
        | (go_at_call 41; refine HPT.out.mono ?_; rintro e w2 ⟨⟨v, rfl, ho⟩, hb⟩; obtain ⟨a4, c4, rfl, hc4, hf4, hb4⟩ := files_own ho; have HX2 := Lib.hid (H.out.below hb); have HF4 := Lib.hid (files_off hf4 hb4 (lt_of_blkD H.out.I.S.box) (lt_of_blkD H.out.I.S.res)); have HA4 := Lib.hid (show AdrP P a4 from fun b hb => HPG.out b (Nat.le_trans H.out.I.S.lo.size (hb4 b hb))); clear ho hb hf4 hb4))
      have e3 := HX2.out.I.S.cell 3 (.int .i64 rm) rfl
      have HUS : Hid (∀ W, FilesAt W a4 K → Calls Try.prog 11 #[.slice a4 K.length c4] W fun e w' => e = .returned (.int .i64 (usedF K : Int)) ∧ w' = W) := Lib.hid (fun W hf => (rused11 a4 K c4 W hf (by unfold maxLen; omega) (by omega)).mono fun _ _ h => ⟨h.1, h.2.symm⟩)
      have HFA := Lib.hid HF4.out.at
      go_quiet (first | (go_at_call 11; exact Calls.quiet_of_same (HUS.out _ (HFA.out.below (below_drews _)))))
      have HXD := Lib.hid (HX2.out.below (below_drews nq))
      have HFD := Lib.hid (HF4.out.below (below_drews nq))
      clear HX2 HF4 HFA HUS HPT HRD HNM e3 e0 q0 q1 q2 H
      have HD := Lib.hid (HXD.out.I.S.done (dkC a1 a2 a3 c1 c2 c3 ⟨st, kp, pe, rm⟩))
      have HDN := Lib.hid (HXD.out.I.done HK.out HAP.out)
      have HB := Lib.hid HXD.out.I.S.box; have HR := Lib.hid HXD.out.I.S.res
      have HO := Lib.hid (dkC_one a1 a2 a3 c1 c2 c3 ⟨st, kp, pe, rm⟩)
      have HI := Lib.hid (dkC_info a1 a2 a3 c1 c2 c3 ⟨st, kp, pe, rm⟩)
      have HZ := Lib.hid (show dkZ.size = (dkC a1 a2 a3 c1 c2 c3 ⟨st, kp, pe, rm⟩).size from rfl)
      obtain ⟨CS, hCS⟩ : ∃ C, dkC a1 a2 a3 c1 c2 c3 ⟨st, kp, pe, rm⟩ = C := ⟨_, rfl⟩
      rw [hCS] at HD HDN HB HO HI HZ
      clear hCS
      go_wp2_with (first
        | ((with_reducible refine atLoad (ty := 33) (x := .tmp 2) rfl ?_); refine wpList_load_row rfl 33 (.tmp 2) rfl w.heap.size rfl 33 CS (0, 0) _ HB.out Try.underlying33 rfl HI.out ?_)
        | ((with_reducible refine atStore (ty := 33) (x := .tmp 4) (y := .tmp 57) rfl ?_); refine wpList_store_row rfl 33 (.tmp 4) (.tmp 57) rfl (w.heap.size + 2) CS rfl rfl 33 _ HR.out HI.out HZ.out HO.out ?_))
      refine ret_cell_tmp rfl rfl rfl rfl HD.out.1 Try.underlying33 rfl HI.out ?_
      exact ⟨CS, rfl, HDN.out, HD.out.2⟩
    · rw [hok h5]
      clear hfull hok
      go_enter Try.func20, Try.ntmps20
      go_upto_region 1 with (fail)
      refine at_world (Φ := DkX w #[.string name, .int .i64 pl, .string s] a1 a2 a3 c1 c2 c3 ⟨st, kp, pe, rm⟩) HST.out ?_
      rintro W hW
      have H := Lib.hid hW
      have q0 := cellD hW.wb 0 (.string name) rfl
      have q1 := cellD hW.wb 1 (.int .i64 pl) rfl
      have q2 := cellD hW.wb 2 (.string s) rfl
      have e0 := hW.I.S.cell 0 (.slice a1 st.length c1) rfl
      clear hW HST
      have HNM := Lib.hid (HNM0.out W)
      have HRD := Lib.hid (HRD0.out W H.out.I.f1.at)
      have HPT := Lib.hid (HPT0.out W H.out.I.f1.at)
      clear HNM0 HRD0 HPT0
      go_upto_region 9 with (first
        | (go_at_call 36; refine HNM.out.mono ?_; rintro e w1 ⟨rfl, rfl⟩)
        | (go_at_call 23; refine HRD.out.mono ?_; rintro e w1 ⟨rfl, rfl⟩)
        | (go_at_call 41; refine HPT.out.mono ?_; rintro e w2 ⟨⟨v, rfl, ho⟩, hb⟩; obtain ⟨a4, c4, rfl, hc4, hf4, hb4⟩ := files_own ho; have HX2 := Lib.hid (H.out.below hb); have HF4 := Lib.hid (files_off hf4 hb4 (lt_of_blkD H.out.I.S.box) (lt_of_blkD H.out.I.S.res)); have HA4 := Lib.hid (show AdrP P a4 from fun b hb => HPG.out b (Nat.le_trans H.out.I.S.lo.size (hb4 b hb))); clear ho hb hf4 hb4))
      have e3 := HX2.out.I.S.cell 3 (.int .i64 rm) rfl
      have HUS : Hid (∀ W, FilesAt W a4 K → Calls Try.prog 11 #[.slice a4 K.length c4] W fun e w' => e = .returned (.int .i64 (usedF K : Int)) ∧ w' = W) := Lib.hid (fun W hf => (rused11 a4 K c4 W hf (by unfold maxLen; omega) (by omega)).mono fun _ _ h => ⟨h.1, h.2.symm⟩)
      have HFA := Lib.hid HF4.out.at
      go_quiet (first | (go_at_call 11; exact Calls.quiet_of_same (HUS.out _ (HFA.out.below (below_drews _)))))
      have HXD := Lib.hid (HX2.out.below (below_drews nq))
      have HFD := Lib.hid (HF4.out.below (below_drews nq))
      clear HX2 HF4 HFA HUS HPT HRD HNM e3 e0 q0 q1 q2 H
      have y0 := HXD.out.I.S.cell 0 (.slice a1 st.length c1) rfl
      have y1 := HXD.out.I.S.free 0
      have HX6 := Lib.hid (show DkX w #[.string name, .int .i64 pl, .string s] a4 a2 a3 c4 c2 c3 ⟨K, kp, pe, rm⟩ _ from ⟨⟨HXD.out.I.S.set 0 (.slice a4 K.length c4), HFD.out.set 0 _, HXD.out.I.f2.set 0 _, HXD.out.I.f3.set 0 _⟩, (heap_setCell_ne _ (by omega)).trans HXD.out.wb⟩)
      go_upto_region 12 with (fail)
      obtain ⟨W6, hW6⟩ : ∃ W6, (w2.drewN nq).setCell ⟨w.heap.size, 0, none⟩ (.slice a4 K.length c4) = W6 := ⟨_, rfl⟩
      rw [hW6] at HX6 ⊢
      clear hW6 HXD HFD y0 y1
      have HB := Lib.hid ((Below.refl W6.heap.size W6).drew)
      refine wp_region_held_drew (S := WrS w #[.string name, .int .i64 pl, .string s]) (by kernel_rfl) (HX6.out.wr HB.out) (fun hS => ?_)
      refine wpAnyH_take (i := 1) (v := .pointer (some ⟨w.heap.size, 2, none⟩)) rfl (by kernel_rfl) (by kernel_rfl) (by kernel_rfl) (fun _ _ _ h => h) (Or.inl ⟨by simp [Region.wanted], fun W _ => by go_simp⟩) hS ?_
      simp only [List.getElem_toArray, List.getElem_cons_zero, List.getElem_cons_succ, Act.put, List.setIfInBounds_toArray, List.set_cons_zero, List.set_cons_succ]
      refine wpAnyH_take (i := 4) (v := .agg #[.string name, .int .i64 pl, .string s]) rfl (by kernel_rfl) (by kernel_rfl) (by kernel_rfl) (fun _ _ _ h => h) (yieldsIf_load rfl 49 (.tmp 3) rfl _ _ rfl (fun W hW => load_wb HPN.out hW.2)) hS ?_
      simp only [List.getElem_toArray, List.getElem_cons_zero, List.getElem_cons_succ, Act.put, List.setIfInBounds_toArray, List.set_cons_zero, List.set_cons_succ]
      refine wpAnyH_ready (rs := [0, 2, 5]) (by kernel_rfl) (by simp) ?_
      refine AllReadyH.cons rfl (fun K1 hK1 => ?_) (AllReadyH.cons rfl (fun K1 hK1 => ?_) (AllReadyH.cons rfl (fun K1 hK1 => ?_) (AllReadyH.nil)))
      · skip
        refine wanted_go rfl ?_
        simp only [List.getElem_toArray, List.getElem_cons_zero]
        have HO1 := Lib.hid (show (W6.drew.alloc (.cells #[] 49)).ownsRow W6.heap.size 49 3 (.slice (some ⟨W6.heap.size, 0, none⟩) 0 0) 0 [] from own_none W6.drew W6.heap.size HB.out.size)
        have HB0 := Lib.hid (HB.out.alloc HB.out.size (.cells #[] 49))
        clear HB; have HB := Lib.hid HB0.out; clear HB0
        have HO := Lib.hid HO1.out; clear HO1
        go_wp2
        refine hK1.out _ _ (HX6.out.wr HB.out) (fun hS1 => ?_)
        refine wpAnyH_ready (rs := [2, 5]) (by kernel_rfl) (by simp) ?_
        refine AllReadyH.cons rfl (fun K2 hK2 => ?_) (AllReadyH.cons rfl (fun K2 hK2 => ?_) (AllReadyH.nil))
        · skip
          refine wanted_go rfl ?_
          simp only [List.getElem_toArray, List.getElem_cons_zero, List.getElem_cons_succ]
          have cl := HX6.out.I.S.cell 2 (.slice a3 pe.length c3) rfl
          have cg := lt_of_blkD HX6.out.I.S.box
          go_wp2
          clear cl cg
          refine hK2.out _ _ (HX6.out.wr HB.out) (fun hS2 => ?_)
          refine wpAnyH_ready (rs := [3, 5]) (by kernel_rfl) (by simp) ?_
          refine AllReadyH.cons rfl (fun K3 hK3 => ?_) (AllReadyH.cons rfl (fun K3 hK3 => ?_) (AllReadyH.nil))
          · skip
            refine wanted_go rfl ?_
            simp only [List.getElem_toArray, List.getElem_cons_zero, List.getElem_cons_succ]
            refine wp_append_pend _ _ rfl W6.heap.size hi hz0 hz1 hz2 (.slice (some ⟨W6.heap.size, 0, none⟩) 0 0) rfl HO.out a3 pe c3 rfl (HX6.out.below HB.out).I.f3.at (by omega) HB.out.size ?_
            intro v3 w3 ho3 hg3
            have HB0 := Lib.hid (HB.out.grown hg3 HB.out.size (own_block_ge HO.out))
            clear HB; have HB := Lib.hid HB0.out; clear HB0
            clear HO; have HO := Lib.hid ho3; clear ho3 hg3
            refine hK3.out _ _ (HX6.out.wr HB.out) (fun hS3 => ?_)
            refine wpAnyH_ready (rs := [5]) (by kernel_rfl) (by simp) ?_
            refine AllReadyH.cons rfl (fun K4 hK4 => ?_) (AllReadyH.nil)
            refine wanted_go rfl ?_
            simp only [List.getElem_toArray, List.getElem_cons_zero, List.getElem_cons_succ]
            have HN0 := Lib.hid (show (w3.alloc (.cells #[.string name, .int .i64 pl, .string s] 49)).heap[w3.heap.size]? = some (.cells #[.string name, .int .i64 pl, .string s] 49 (0, 0)) from heap_alloc_new w3 _)
            have HB0 := Lib.hid (HB.out.alloc HB.out.size (.cells #[.string name, .int .i64 pl, .string s] 49))
            have HO0 := Lib.hid (HO.out.alloc (.cells #[.string name, .int .i64 pl, .string s] 49))
            clear HO; have HO := Lib.hid HO0.out; clear HO0
            clear HB; have HB := Lib.hid HB0.out; clear HB0
            have HN := Lib.hid HN0.out; clear HN0
            go_wp2
            refine hK4.out _ _ (HX6.out.wr HB.out) (fun hS4 => ?_)
            refine wpAnyH_ready (rs := [6]) (by kernel_rfl) (by simp) ?_
            refine AllReadyH.cons rfl (fun K5 hK5 => ?_) (AllReadyH.nil)
            refine wanted_go rfl ?_
            simp only [List.getElem_toArray, List.getElem_cons_zero, List.getElem_cons_succ]
            refine wp_append_own _ _ _ 31 rfl W6.heap.size 49 i0 (.agg #[.string ⟨#[]⟩, .int .i64 0, .string ⟨#[]⟩]) 3 40 Try.underlying31 hi hz0 hz1 hz2 rfl (by decide) _ _ _ rfl HO.out ⟨w3.heap.size, 0, none⟩ 1 1 (wcells (name, n, s)) rfl rfl (cells_w HPN.out HN.out) (oneW1 _) (by unfold maxLen; omega) (by omega) HB.out.size ?_
            intro v6 w6 ho6 hg6 _
            have HB0 := Lib.hid (HB.out.grown hg6 HB.out.size (own_block_ge HO.out))
            obtain ⟨a6, c6, rfl, hc6, hp6, hb6⟩ := pend_own (l := PE) (by rw [HPL.out, HPF.out]; exact ho6)
            have HP6 := Lib.hid (pend_off hp6 hb6 (lt_of_blkD HX6.out.I.S.box) (lt_of_blkD HX6.out.I.S.res))
            have HA6 := Lib.hid (show AdrP P a6 from fun b hb => HPG.out b (Nat.le_trans HX6.out.I.S.lo.size (hb6 b hb)))
            clear HB; have HB := Lib.hid HB0.out; clear HB0 hp6 hb6 ho6 hg6 HN HO
            refine hK5.out _ _ (HX6.out.wr HB.out) (fun hS5 => ?_)
            refine wpAnyH_take (i := 7) (v := .pointer (some ⟨w.heap.size, 2, none⟩)) rfl (by kernel_rfl) (by kernel_rfl) (by kernel_rfl) (fun _ _ _ h => h) (Or.inl ⟨by simp [Region.wanted], fun W _ => by go_simp⟩) hS5 ?_
            simp only [List.getElem_toArray, List.getElem_cons_zero, List.getElem_cons_succ, Act.put, List.setIfInBounds_toArray, List.set_cons_zero, List.set_cons_succ]
            refine wpAnyH_ready (rs := [8]) (by kernel_rfl) (by simp) ?_
            refine AllReadyH.cons rfl (fun K6 hK6 => ?_) (AllReadyH.nil)
            refine wanted_go rfl ?_
            simp only [List.getElem_toArray, List.getElem_cons_zero, List.getElem_cons_succ]
            have HX7 := Lib.hid (HX6.out.below HB.out)
            have cl := HX7.out.I.S.cell 2 (.slice a3 pe.length c3) rfl
            have cf := HX7.out.I.S.free 2
            have HX8 := Lib.hid (show DkX w #[.string name, .int .i64 pl, .string s] a4 a2 a6 c4 c2 c6 ⟨K, kp, PE, rm⟩ _ from ⟨⟨HX7.out.I.S.set 2 (.slice a6 PE.length c6), HX7.out.I.f1.set 2 _, HX7.out.I.f2.set 2 _, HP6.out.set 2 _⟩, (heap_setCell_ne _ (by omega)).trans HX7.out.wb⟩)
            go_wp2
            refine hK6.out _ _ ⟨HX8.out.I.S.lo, HX8.out.wb⟩ (fun hS6 => ?_)
            refine wpAnyH_done (by kernel_rfl) ?_ _
            have HD := Lib.hid (HX8.out.I.S.done (dkC a4 a2 a6 c4 c2 c6 ⟨K, kp, PE, rm⟩))
            have HDN := Lib.hid (HX8.out.I.done ⟨hc4, HK.out.2.1, hc6⟩ ⟨.inr HA4.out, HAP.out.2.1, .inr HA6.out⟩)
            have HB := Lib.hid HX8.out.I.S.box; have HR := Lib.hid HX8.out.I.S.res
            have HO := Lib.hid (dkC_one a4 a2 a6 c4 c2 c6 ⟨K, kp, PE, rm⟩)
            have HI := Lib.hid (dkC_info a4 a2 a6 c4 c2 c6 ⟨K, kp, PE, rm⟩)
            have HZ := Lib.hid (show dkZ.size = (dkC a4 a2 a6 c4 c2 c6 ⟨K, kp, PE, rm⟩).size from rfl)
            obtain ⟨CS, hCS⟩ : ∃ C, dkC a4 a2 a6 c4 c2 c6 ⟨K, kp, PE, rm⟩ = C := ⟨_, rfl⟩
            rw [hCS] at HD HDN HB HO HI HZ
            clear hCS
            go_wp2_with (first
              | ((with_reducible refine atLoad (ty := 33) (x := .tmp 2) rfl ?_); refine wpList_load_row rfl 33 (.tmp 2) rfl w.heap.size rfl 33 CS (0, 0) _ HB.out Try.underlying33 rfl HI.out ?_)
              | ((with_reducible refine atStore (ty := 33) (x := .tmp 4) (y := .tmp 68) rfl ?_); refine wpList_store_row rfl 33 (.tmp 4) (.tmp 68) rfl (w.heap.size + 2) CS rfl rfl 33 _ HR.out HI.out HZ.out HO.out ?_))
            refine ret_cell_tmp rfl rfl rfl rfl HD.out.1 Try.underlying33 rfl HI.out ?_
            exact ⟨CS, rfl, HDN.out, HD.out.2⟩
          · skip
            refine wanted_go rfl ?_
            simp only [List.getElem_toArray, List.getElem_cons_zero, List.getElem_cons_succ]
            have HN0 := Lib.hid (show ((W6.drew.alloc (.cells #[] 49)).alloc (.cells #[.string name, .int .i64 pl, .string s] 49)).heap[W6.heap.size + 1]? = some (.cells #[.string name, .int .i64 pl, .string s] 49 (0, 0)) by have h := heap_alloc_new (W6.drew.alloc (.cells #[] 49)) (.cells #[.string name, .int .i64 pl, .string s] 49); rw [World.size_alloc] at h; exact h)
            have HB0 := Lib.hid (HB.out.alloc HB.out.size (.cells #[.string name, .int .i64 pl, .string s] 49))
            have HO0 := Lib.hid (HO.out.alloc (.cells #[.string name, .int .i64 pl, .string s] 49))
            clear HO; have HO := Lib.hid HO0.out; clear HO0
            clear HB; have HB := Lib.hid HB0.out; clear HB0
            have HN := Lib.hid HN0.out; clear HN0
            go_wp2
            refine hK3.out _ _ (HX6.out.wr HB.out) (fun hS3 => ?_)
            refine wpAnyH_ready (rs := [3]) (by kernel_rfl) (by simp) ?_
            refine AllReadyH.cons rfl (fun K4 hK4 => ?_) (AllReadyH.nil)
            refine wanted_go rfl ?_
            simp only [List.getElem_toArray, List.getElem_cons_zero, List.getElem_cons_succ]
            refine wp_append_pend _ _ rfl W6.heap.size hi hz0 hz1 hz2 (.slice (some ⟨W6.heap.size, 0, none⟩) 0 0) rfl HO.out a3 pe c3 rfl (HX6.out.below HB.out).I.f3.at (by omega) HB.out.size ?_
            intro v3 w3 ho3 hg3
            have HB0 := Lib.hid (HB.out.grown hg3 HB.out.size (own_block_ge HO.out))
            have HN0 := Lib.hid ((hg3.block _ (lt_of_blkD HN.out) (by simp [Value.ownBlock])).trans HN.out)
            clear HN; have HN := Lib.hid HN0.out; clear HN0
            clear HB; have HB := Lib.hid HB0.out; clear HB0
            clear HO; have HO := Lib.hid ho3; clear ho3 hg3
            refine hK4.out _ _ (HX6.out.wr HB.out) (fun hS4 => ?_)
            refine wpAnyH_ready (rs := [6]) (by kernel_rfl) (by simp) ?_
            refine AllReadyH.cons rfl (fun K5 hK5 => ?_) (AllReadyH.nil)
            refine wanted_go rfl ?_
            simp only [List.getElem_toArray, List.getElem_cons_zero, List.getElem_cons_succ]
            refine wp_append_own _ _ _ 31 rfl W6.heap.size 49 i0 (.agg #[.string ⟨#[]⟩, .int .i64 0, .string ⟨#[]⟩]) 3 40 Try.underlying31 hi hz0 hz1 hz2 rfl (by decide) _ _ _ rfl HO.out ⟨W6.heap.size + 1, 0, none⟩ 1 1 (wcells (name, n, s)) rfl rfl (cells_w HPN.out HN.out) (oneW1 _) (by unfold maxLen; omega) (by omega) HB.out.size ?_
            intro v6 w6 ho6 hg6 _
            have HB0 := Lib.hid (HB.out.grown hg6 HB.out.size (own_block_ge HO.out))
            obtain ⟨a6, c6, rfl, hc6, hp6, hb6⟩ := pend_own (l := PE) (by rw [HPL.out, HPF.out]; exact ho6)
            have HP6 := Lib.hid (pend_off hp6 hb6 (lt_of_blkD HX6.out.I.S.box) (lt_of_blkD HX6.out.I.S.res))
            have HA6 := Lib.hid (show AdrP P a6 from fun b hb => HPG.out b (Nat.le_trans HX6.out.I.S.lo.size (hb6 b hb)))
            clear HB; have HB := Lib.hid HB0.out; clear HB0 hp6 hb6 ho6 hg6 HN HO
            refine hK5.out _ _ (HX6.out.wr HB.out) (fun hS5 => ?_)
            refine wpAnyH_take (i := 7) (v := .pointer (some ⟨w.heap.size, 2, none⟩)) rfl (by kernel_rfl) (by kernel_rfl) (by kernel_rfl) (fun _ _ _ h => h) (Or.inl ⟨by simp [Region.wanted], fun W _ => by go_simp⟩) hS5 ?_
            simp only [List.getElem_toArray, List.getElem_cons_zero, List.getElem_cons_succ, Act.put, List.setIfInBounds_toArray, List.set_cons_zero, List.set_cons_succ]
            refine wpAnyH_ready (rs := [8]) (by kernel_rfl) (by simp) ?_
            refine AllReadyH.cons rfl (fun K6 hK6 => ?_) (AllReadyH.nil)
            refine wanted_go rfl ?_
            simp only [List.getElem_toArray, List.getElem_cons_zero, List.getElem_cons_succ]
            have HX7 := Lib.hid (HX6.out.below HB.out)
            have cl := HX7.out.I.S.cell 2 (.slice a3 pe.length c3) rfl
            have cf := HX7.out.I.S.free 2
            have HX8 := Lib.hid (show DkX w #[.string name, .int .i64 pl, .string s] a4 a2 a6 c4 c2 c6 ⟨K, kp, PE, rm⟩ _ from ⟨⟨HX7.out.I.S.set 2 (.slice a6 PE.length c6), HX7.out.I.f1.set 2 _, HX7.out.I.f2.set 2 _, HP6.out.set 2 _⟩, (heap_setCell_ne _ (by omega)).trans HX7.out.wb⟩)
            go_wp2
            refine hK6.out _ _ ⟨HX8.out.I.S.lo, HX8.out.wb⟩ (fun hS6 => ?_)
            refine wpAnyH_done (by kernel_rfl) ?_ _
            have HD := Lib.hid (HX8.out.I.S.done (dkC a4 a2 a6 c4 c2 c6 ⟨K, kp, PE, rm⟩))
            have HDN := Lib.hid (HX8.out.I.done ⟨hc4, HK.out.2.1, hc6⟩ ⟨.inr HA4.out, HAP.out.2.1, .inr HA6.out⟩)
            have HB := Lib.hid HX8.out.I.S.box; have HR := Lib.hid HX8.out.I.S.res
            have HO := Lib.hid (dkC_one a4 a2 a6 c4 c2 c6 ⟨K, kp, PE, rm⟩)
            have HI := Lib.hid (dkC_info a4 a2 a6 c4 c2 c6 ⟨K, kp, PE, rm⟩)
            have HZ := Lib.hid (show dkZ.size = (dkC a4 a2 a6 c4 c2 c6 ⟨K, kp, PE, rm⟩).size from rfl)
            obtain ⟨CS, hCS⟩ : ∃ C, dkC a4 a2 a6 c4 c2 c6 ⟨K, kp, PE, rm⟩ = C := ⟨_, rfl⟩
            rw [hCS] at HD HDN HB HO HI HZ
            clear hCS
            go_wp2_with (first
              | ((with_reducible refine atLoad (ty := 33) (x := .tmp 2) rfl ?_); refine wpList_load_row rfl 33 (.tmp 2) rfl w.heap.size rfl 33 CS (0, 0) _ HB.out Try.underlying33 rfl HI.out ?_)
              | ((with_reducible refine atStore (ty := 33) (x := .tmp 4) (y := .tmp 68) rfl ?_); refine wpList_store_row rfl 33 (.tmp 4) (.tmp 68) rfl (w.heap.size + 2) CS rfl rfl 33 _ HR.out HI.out HZ.out HO.out ?_))
            refine ret_cell_tmp rfl rfl rfl rfl HD.out.1 Try.underlying33 rfl HI.out ?_
            exact ⟨CS, rfl, HDN.out, HD.out.2⟩
        · skip
          refine wanted_go rfl ?_
          simp only [List.getElem_toArray, List.getElem_cons_zero, List.getElem_cons_succ]
          have HN0 := Lib.hid (show ((W6.drew.alloc (.cells #[] 49)).alloc (.cells #[.string name, .int .i64 pl, .string s] 49)).heap[W6.heap.size + 1]? = some (.cells #[.string name, .int .i64 pl, .string s] 49 (0, 0)) by have h := heap_alloc_new (W6.drew.alloc (.cells #[] 49)) (.cells #[.string name, .int .i64 pl, .string s] 49); rw [World.size_alloc] at h; exact h)
          have HB0 := Lib.hid (HB.out.alloc HB.out.size (.cells #[.string name, .int .i64 pl, .string s] 49))
          have HO0 := Lib.hid (HO.out.alloc (.cells #[.string name, .int .i64 pl, .string s] 49))
          clear HO; have HO := Lib.hid HO0.out; clear HO0
          clear HB; have HB := Lib.hid HB0.out; clear HB0
          have HN := Lib.hid HN0.out; clear HN0
          go_wp2
          refine hK2.out _ _ (HX6.out.wr HB.out) (fun hS2 => ?_)
          refine wpAnyH_ready (rs := [2]) (by kernel_rfl) (by simp) ?_
          refine AllReadyH.cons rfl (fun K3 hK3 => ?_) (AllReadyH.nil)
          refine wanted_go rfl ?_
          simp only [List.getElem_toArray, List.getElem_cons_zero, List.getElem_cons_succ]
          have cl := HX6.out.I.S.cell 2 (.slice a3 pe.length c3) rfl
          have cg := lt_of_blkD HX6.out.I.S.box
          go_wp2
          clear cl cg
          refine hK3.out _ _ (HX6.out.wr HB.out) (fun hS3 => ?_)
          refine wpAnyH_ready (rs := [3]) (by kernel_rfl) (by simp) ?_
          refine AllReadyH.cons rfl (fun K4 hK4 => ?_) (AllReadyH.nil)
          refine wanted_go rfl ?_
          simp only [List.getElem_toArray, List.getElem_cons_zero, List.getElem_cons_succ]
          refine wp_append_pend _ _ rfl W6.heap.size hi hz0 hz1 hz2 (.slice (some ⟨W6.heap.size, 0, none⟩) 0 0) rfl HO.out a3 pe c3 rfl (HX6.out.below HB.out).I.f3.at (by omega) HB.out.size ?_
          intro v3 w3 ho3 hg3
          have HB0 := Lib.hid (HB.out.grown hg3 HB.out.size (own_block_ge HO.out))
          have HN0 := Lib.hid ((hg3.block _ (lt_of_blkD HN.out) (by simp [Value.ownBlock])).trans HN.out)
          clear HN; have HN := Lib.hid HN0.out; clear HN0
          clear HB; have HB := Lib.hid HB0.out; clear HB0
          clear HO; have HO := Lib.hid ho3; clear ho3 hg3
          refine hK4.out _ _ (HX6.out.wr HB.out) (fun hS4 => ?_)
          refine wpAnyH_ready (rs := [6]) (by kernel_rfl) (by simp) ?_
          refine AllReadyH.cons rfl (fun K5 hK5 => ?_) (AllReadyH.nil)
          refine wanted_go rfl ?_
          simp only [List.getElem_toArray, List.getElem_cons_zero, List.getElem_cons_succ]
          refine wp_append_own _ _ _ 31 rfl W6.heap.size 49 i0 (.agg #[.string ⟨#[]⟩, .int .i64 0, .string ⟨#[]⟩]) 3 40 Try.underlying31 hi hz0 hz1 hz2 rfl (by decide) _ _ _ rfl HO.out ⟨W6.heap.size + 1, 0, none⟩ 1 1 (wcells (name, n, s)) rfl rfl (cells_w HPN.out HN.out) (oneW1 _) (by unfold maxLen; omega) (by omega) HB.out.size ?_
          intro v6 w6 ho6 hg6 _
          have HB0 := Lib.hid (HB.out.grown hg6 HB.out.size (own_block_ge HO.out))
          obtain ⟨a6, c6, rfl, hc6, hp6, hb6⟩ := pend_own (l := PE) (by rw [HPL.out, HPF.out]; exact ho6)
          have HP6 := Lib.hid (pend_off hp6 hb6 (lt_of_blkD HX6.out.I.S.box) (lt_of_blkD HX6.out.I.S.res))
          have HA6 := Lib.hid (show AdrP P a6 from fun b hb => HPG.out b (Nat.le_trans HX6.out.I.S.lo.size (hb6 b hb)))
          clear HB; have HB := Lib.hid HB0.out; clear HB0 hp6 hb6 ho6 hg6 HN HO
          refine hK5.out _ _ (HX6.out.wr HB.out) (fun hS5 => ?_)
          refine wpAnyH_take (i := 7) (v := .pointer (some ⟨w.heap.size, 2, none⟩)) rfl (by kernel_rfl) (by kernel_rfl) (by kernel_rfl) (fun _ _ _ h => h) (Or.inl ⟨by simp [Region.wanted], fun W _ => by go_simp⟩) hS5 ?_
          simp only [List.getElem_toArray, List.getElem_cons_zero, List.getElem_cons_succ, Act.put, List.setIfInBounds_toArray, List.set_cons_zero, List.set_cons_succ]
          refine wpAnyH_ready (rs := [8]) (by kernel_rfl) (by simp) ?_
          refine AllReadyH.cons rfl (fun K6 hK6 => ?_) (AllReadyH.nil)
          refine wanted_go rfl ?_
          simp only [List.getElem_toArray, List.getElem_cons_zero, List.getElem_cons_succ]
          have HX7 := Lib.hid (HX6.out.below HB.out)
          have cl := HX7.out.I.S.cell 2 (.slice a3 pe.length c3) rfl
          have cf := HX7.out.I.S.free 2
          have HX8 := Lib.hid (show DkX w #[.string name, .int .i64 pl, .string s] a4 a2 a6 c4 c2 c6 ⟨K, kp, PE, rm⟩ _ from ⟨⟨HX7.out.I.S.set 2 (.slice a6 PE.length c6), HX7.out.I.f1.set 2 _, HX7.out.I.f2.set 2 _, HP6.out.set 2 _⟩, (heap_setCell_ne _ (by omega)).trans HX7.out.wb⟩)
          go_wp2
          refine hK6.out _ _ ⟨HX8.out.I.S.lo, HX8.out.wb⟩ (fun hS6 => ?_)
          refine wpAnyH_done (by kernel_rfl) ?_ _
          have HD := Lib.hid (HX8.out.I.S.done (dkC a4 a2 a6 c4 c2 c6 ⟨K, kp, PE, rm⟩))
          have HDN := Lib.hid (HX8.out.I.done ⟨hc4, HK.out.2.1, hc6⟩ ⟨.inr HA4.out, HAP.out.2.1, .inr HA6.out⟩)
          have HB := Lib.hid HX8.out.I.S.box; have HR := Lib.hid HX8.out.I.S.res
          have HO := Lib.hid (dkC_one a4 a2 a6 c4 c2 c6 ⟨K, kp, PE, rm⟩)
          have HI := Lib.hid (dkC_info a4 a2 a6 c4 c2 c6 ⟨K, kp, PE, rm⟩)
          have HZ := Lib.hid (show dkZ.size = (dkC a4 a2 a6 c4 c2 c6 ⟨K, kp, PE, rm⟩).size from rfl)
          obtain ⟨CS, hCS⟩ : ∃ C, dkC a4 a2 a6 c4 c2 c6 ⟨K, kp, PE, rm⟩ = C := ⟨_, rfl⟩
          rw [hCS] at HD HDN HB HO HI HZ
          clear hCS
          go_wp2_with (first
            | ((with_reducible refine atLoad (ty := 33) (x := .tmp 2) rfl ?_); refine wpList_load_row rfl 33 (.tmp 2) rfl w.heap.size rfl 33 CS (0, 0) _ HB.out Try.underlying33 rfl HI.out ?_)
            | ((with_reducible refine atStore (ty := 33) (x := .tmp 4) (y := .tmp 68) rfl ?_); refine wpList_store_row rfl 33 (.tmp 4) (.tmp 68) rfl (w.heap.size + 2) CS rfl rfl 33 _ HR.out HI.out HZ.out HO.out ?_))
          refine ret_cell_tmp rfl rfl rfl rfl HD.out.1 Try.underlying33 rfl HI.out ?_
          exact ⟨CS, rfl, HDN.out, HD.out.2⟩
      · skip
        refine wanted_go rfl ?_
        simp only [List.getElem_toArray, List.getElem_cons_zero, List.getElem_cons_succ]
        have cl := HX6.out.I.S.cell 2 (.slice a3 pe.length c3) rfl
        have cg := lt_of_blkD HX6.out.I.S.box
        go_wp2
        clear cl cg
        refine hK1.out _ _ (HX6.out.wr HB.out) (fun hS1 => ?_)
        refine wpAnyH_ready (rs := [0, 5]) (by kernel_rfl) (by simp) ?_
        refine AllReadyH.cons rfl (fun K2 hK2 => ?_) (AllReadyH.cons rfl (fun K2 hK2 => ?_) (AllReadyH.nil))
        · skip
          refine wanted_go rfl ?_
          simp only [List.getElem_toArray, List.getElem_cons_zero]
          have HO2 := Lib.hid (show (W6.drew.alloc (.cells #[] 49)).ownsRow W6.heap.size 49 3 (.slice (some ⟨W6.heap.size, 0, none⟩) 0 0) 0 [] from own_none W6.drew W6.heap.size HB.out.size)
          have HB0 := Lib.hid (HB.out.alloc HB.out.size (.cells #[] 49))
          clear HB; have HB := Lib.hid HB0.out; clear HB0
          have HO := Lib.hid HO2.out; clear HO2
          go_wp2
          refine hK2.out _ _ (HX6.out.wr HB.out) (fun hS2 => ?_)
          refine wpAnyH_ready (rs := [3, 5]) (by kernel_rfl) (by simp) ?_
          refine AllReadyH.cons rfl (fun K3 hK3 => ?_) (AllReadyH.cons rfl (fun K3 hK3 => ?_) (AllReadyH.nil))
          · skip
            refine wanted_go rfl ?_
            simp only [List.getElem_toArray, List.getElem_cons_zero, List.getElem_cons_succ]
            refine wp_append_pend _ _ rfl W6.heap.size hi hz0 hz1 hz2 (.slice (some ⟨W6.heap.size, 0, none⟩) 0 0) rfl HO.out a3 pe c3 rfl (HX6.out.below HB.out).I.f3.at (by omega) HB.out.size ?_
            intro v3 w3 ho3 hg3
            have HB0 := Lib.hid (HB.out.grown hg3 HB.out.size (own_block_ge HO.out))
            clear HB; have HB := Lib.hid HB0.out; clear HB0
            clear HO; have HO := Lib.hid ho3; clear ho3 hg3
            refine hK3.out _ _ (HX6.out.wr HB.out) (fun hS3 => ?_)
            refine wpAnyH_ready (rs := [5]) (by kernel_rfl) (by simp) ?_
            refine AllReadyH.cons rfl (fun K4 hK4 => ?_) (AllReadyH.nil)
            refine wanted_go rfl ?_
            simp only [List.getElem_toArray, List.getElem_cons_zero, List.getElem_cons_succ]
            have HN0 := Lib.hid (show (w3.alloc (.cells #[.string name, .int .i64 pl, .string s] 49)).heap[w3.heap.size]? = some (.cells #[.string name, .int .i64 pl, .string s] 49 (0, 0)) from heap_alloc_new w3 _)
            have HB0 := Lib.hid (HB.out.alloc HB.out.size (.cells #[.string name, .int .i64 pl, .string s] 49))
            have HO0 := Lib.hid (HO.out.alloc (.cells #[.string name, .int .i64 pl, .string s] 49))
            clear HO; have HO := Lib.hid HO0.out; clear HO0
            clear HB; have HB := Lib.hid HB0.out; clear HB0
            have HN := Lib.hid HN0.out; clear HN0
            go_wp2
            refine hK4.out _ _ (HX6.out.wr HB.out) (fun hS4 => ?_)
            refine wpAnyH_ready (rs := [6]) (by kernel_rfl) (by simp) ?_
            refine AllReadyH.cons rfl (fun K5 hK5 => ?_) (AllReadyH.nil)
            refine wanted_go rfl ?_
            simp only [List.getElem_toArray, List.getElem_cons_zero, List.getElem_cons_succ]
            refine wp_append_own _ _ _ 31 rfl W6.heap.size 49 i0 (.agg #[.string ⟨#[]⟩, .int .i64 0, .string ⟨#[]⟩]) 3 40 Try.underlying31 hi hz0 hz1 hz2 rfl (by decide) _ _ _ rfl HO.out ⟨w3.heap.size, 0, none⟩ 1 1 (wcells (name, n, s)) rfl rfl (cells_w HPN.out HN.out) (oneW1 _) (by unfold maxLen; omega) (by omega) HB.out.size ?_
            intro v6 w6 ho6 hg6 _
            have HB0 := Lib.hid (HB.out.grown hg6 HB.out.size (own_block_ge HO.out))
            obtain ⟨a6, c6, rfl, hc6, hp6, hb6⟩ := pend_own (l := PE) (by rw [HPL.out, HPF.out]; exact ho6)
            have HP6 := Lib.hid (pend_off hp6 hb6 (lt_of_blkD HX6.out.I.S.box) (lt_of_blkD HX6.out.I.S.res))
            have HA6 := Lib.hid (show AdrP P a6 from fun b hb => HPG.out b (Nat.le_trans HX6.out.I.S.lo.size (hb6 b hb)))
            clear HB; have HB := Lib.hid HB0.out; clear HB0 hp6 hb6 ho6 hg6 HN HO
            refine hK5.out _ _ (HX6.out.wr HB.out) (fun hS5 => ?_)
            refine wpAnyH_take (i := 7) (v := .pointer (some ⟨w.heap.size, 2, none⟩)) rfl (by kernel_rfl) (by kernel_rfl) (by kernel_rfl) (fun _ _ _ h => h) (Or.inl ⟨by simp [Region.wanted], fun W _ => by go_simp⟩) hS5 ?_
            simp only [List.getElem_toArray, List.getElem_cons_zero, List.getElem_cons_succ, Act.put, List.setIfInBounds_toArray, List.set_cons_zero, List.set_cons_succ]
            refine wpAnyH_ready (rs := [8]) (by kernel_rfl) (by simp) ?_
            refine AllReadyH.cons rfl (fun K6 hK6 => ?_) (AllReadyH.nil)
            refine wanted_go rfl ?_
            simp only [List.getElem_toArray, List.getElem_cons_zero, List.getElem_cons_succ]
            have HX7 := Lib.hid (HX6.out.below HB.out)
            have cl := HX7.out.I.S.cell 2 (.slice a3 pe.length c3) rfl
            have cf := HX7.out.I.S.free 2
            have HX8 := Lib.hid (show DkX w #[.string name, .int .i64 pl, .string s] a4 a2 a6 c4 c2 c6 ⟨K, kp, PE, rm⟩ _ from ⟨⟨HX7.out.I.S.set 2 (.slice a6 PE.length c6), HX7.out.I.f1.set 2 _, HX7.out.I.f2.set 2 _, HP6.out.set 2 _⟩, (heap_setCell_ne _ (by omega)).trans HX7.out.wb⟩)
            go_wp2
            refine hK6.out _ _ ⟨HX8.out.I.S.lo, HX8.out.wb⟩ (fun hS6 => ?_)
            refine wpAnyH_done (by kernel_rfl) ?_ _
            have HD := Lib.hid (HX8.out.I.S.done (dkC a4 a2 a6 c4 c2 c6 ⟨K, kp, PE, rm⟩))
            have HDN := Lib.hid (HX8.out.I.done ⟨hc4, HK.out.2.1, hc6⟩ ⟨.inr HA4.out, HAP.out.2.1, .inr HA6.out⟩)
            have HB := Lib.hid HX8.out.I.S.box; have HR := Lib.hid HX8.out.I.S.res
            have HO := Lib.hid (dkC_one a4 a2 a6 c4 c2 c6 ⟨K, kp, PE, rm⟩)
            have HI := Lib.hid (dkC_info a4 a2 a6 c4 c2 c6 ⟨K, kp, PE, rm⟩)
            have HZ := Lib.hid (show dkZ.size = (dkC a4 a2 a6 c4 c2 c6 ⟨K, kp, PE, rm⟩).size from rfl)
            obtain ⟨CS, hCS⟩ : ∃ C, dkC a4 a2 a6 c4 c2 c6 ⟨K, kp, PE, rm⟩ = C := ⟨_, rfl⟩
            rw [hCS] at HD HDN HB HO HI HZ
            clear hCS
            go_wp2_with (first
              | ((with_reducible refine atLoad (ty := 33) (x := .tmp 2) rfl ?_); refine wpList_load_row rfl 33 (.tmp 2) rfl w.heap.size rfl 33 CS (0, 0) _ HB.out Try.underlying33 rfl HI.out ?_)
              | ((with_reducible refine atStore (ty := 33) (x := .tmp 4) (y := .tmp 68) rfl ?_); refine wpList_store_row rfl 33 (.tmp 4) (.tmp 68) rfl (w.heap.size + 2) CS rfl rfl 33 _ HR.out HI.out HZ.out HO.out ?_))
            refine ret_cell_tmp rfl rfl rfl rfl HD.out.1 Try.underlying33 rfl HI.out ?_
            exact ⟨CS, rfl, HDN.out, HD.out.2⟩
          · skip
            refine wanted_go rfl ?_
            simp only [List.getElem_toArray, List.getElem_cons_zero, List.getElem_cons_succ]
            have HN0 := Lib.hid (show ((W6.drew.alloc (.cells #[] 49)).alloc (.cells #[.string name, .int .i64 pl, .string s] 49)).heap[W6.heap.size + 1]? = some (.cells #[.string name, .int .i64 pl, .string s] 49 (0, 0)) by have h := heap_alloc_new (W6.drew.alloc (.cells #[] 49)) (.cells #[.string name, .int .i64 pl, .string s] 49); rw [World.size_alloc] at h; exact h)
            have HB0 := Lib.hid (HB.out.alloc HB.out.size (.cells #[.string name, .int .i64 pl, .string s] 49))
            have HO0 := Lib.hid (HO.out.alloc (.cells #[.string name, .int .i64 pl, .string s] 49))
            clear HO; have HO := Lib.hid HO0.out; clear HO0
            clear HB; have HB := Lib.hid HB0.out; clear HB0
            have HN := Lib.hid HN0.out; clear HN0
            go_wp2
            refine hK3.out _ _ (HX6.out.wr HB.out) (fun hS3 => ?_)
            refine wpAnyH_ready (rs := [3]) (by kernel_rfl) (by simp) ?_
            refine AllReadyH.cons rfl (fun K4 hK4 => ?_) (AllReadyH.nil)
            refine wanted_go rfl ?_
            simp only [List.getElem_toArray, List.getElem_cons_zero, List.getElem_cons_succ]
            refine wp_append_pend _ _ rfl W6.heap.size hi hz0 hz1 hz2 (.slice (some ⟨W6.heap.size, 0, none⟩) 0 0) rfl HO.out a3 pe c3 rfl (HX6.out.below HB.out).I.f3.at (by omega) HB.out.size ?_
            intro v3 w3 ho3 hg3
            have HB0 := Lib.hid (HB.out.grown hg3 HB.out.size (own_block_ge HO.out))
            have HN0 := Lib.hid ((hg3.block _ (lt_of_blkD HN.out) (by simp [Value.ownBlock])).trans HN.out)
            clear HN; have HN := Lib.hid HN0.out; clear HN0
            clear HB; have HB := Lib.hid HB0.out; clear HB0
            clear HO; have HO := Lib.hid ho3; clear ho3 hg3
            refine hK4.out _ _ (HX6.out.wr HB.out) (fun hS4 => ?_)
            refine wpAnyH_ready (rs := [6]) (by kernel_rfl) (by simp) ?_
            refine AllReadyH.cons rfl (fun K5 hK5 => ?_) (AllReadyH.nil)
            refine wanted_go rfl ?_
            simp only [List.getElem_toArray, List.getElem_cons_zero, List.getElem_cons_succ]
            refine wp_append_own _ _ _ 31 rfl W6.heap.size 49 i0 (.agg #[.string ⟨#[]⟩, .int .i64 0, .string ⟨#[]⟩]) 3 40 Try.underlying31 hi hz0 hz1 hz2 rfl (by decide) _ _ _ rfl HO.out ⟨W6.heap.size + 1, 0, none⟩ 1 1 (wcells (name, n, s)) rfl rfl (cells_w HPN.out HN.out) (oneW1 _) (by unfold maxLen; omega) (by omega) HB.out.size ?_
            intro v6 w6 ho6 hg6 _
            have HB0 := Lib.hid (HB.out.grown hg6 HB.out.size (own_block_ge HO.out))
            obtain ⟨a6, c6, rfl, hc6, hp6, hb6⟩ := pend_own (l := PE) (by rw [HPL.out, HPF.out]; exact ho6)
            have HP6 := Lib.hid (pend_off hp6 hb6 (lt_of_blkD HX6.out.I.S.box) (lt_of_blkD HX6.out.I.S.res))
            have HA6 := Lib.hid (show AdrP P a6 from fun b hb => HPG.out b (Nat.le_trans HX6.out.I.S.lo.size (hb6 b hb)))
            clear HB; have HB := Lib.hid HB0.out; clear HB0 hp6 hb6 ho6 hg6 HN HO
            refine hK5.out _ _ (HX6.out.wr HB.out) (fun hS5 => ?_)
            refine wpAnyH_take (i := 7) (v := .pointer (some ⟨w.heap.size, 2, none⟩)) rfl (by kernel_rfl) (by kernel_rfl) (by kernel_rfl) (fun _ _ _ h => h) (Or.inl ⟨by simp [Region.wanted], fun W _ => by go_simp⟩) hS5 ?_
            simp only [List.getElem_toArray, List.getElem_cons_zero, List.getElem_cons_succ, Act.put, List.setIfInBounds_toArray, List.set_cons_zero, List.set_cons_succ]
            refine wpAnyH_ready (rs := [8]) (by kernel_rfl) (by simp) ?_
            refine AllReadyH.cons rfl (fun K6 hK6 => ?_) (AllReadyH.nil)
            refine wanted_go rfl ?_
            simp only [List.getElem_toArray, List.getElem_cons_zero, List.getElem_cons_succ]
            have HX7 := Lib.hid (HX6.out.below HB.out)
            have cl := HX7.out.I.S.cell 2 (.slice a3 pe.length c3) rfl
            have cf := HX7.out.I.S.free 2
            have HX8 := Lib.hid (show DkX w #[.string name, .int .i64 pl, .string s] a4 a2 a6 c4 c2 c6 ⟨K, kp, PE, rm⟩ _ from ⟨⟨HX7.out.I.S.set 2 (.slice a6 PE.length c6), HX7.out.I.f1.set 2 _, HX7.out.I.f2.set 2 _, HP6.out.set 2 _⟩, (heap_setCell_ne _ (by omega)).trans HX7.out.wb⟩)
            go_wp2
            refine hK6.out _ _ ⟨HX8.out.I.S.lo, HX8.out.wb⟩ (fun hS6 => ?_)
            refine wpAnyH_done (by kernel_rfl) ?_ _
            have HD := Lib.hid (HX8.out.I.S.done (dkC a4 a2 a6 c4 c2 c6 ⟨K, kp, PE, rm⟩))
            have HDN := Lib.hid (HX8.out.I.done ⟨hc4, HK.out.2.1, hc6⟩ ⟨.inr HA4.out, HAP.out.2.1, .inr HA6.out⟩)
            have HB := Lib.hid HX8.out.I.S.box; have HR := Lib.hid HX8.out.I.S.res
            have HO := Lib.hid (dkC_one a4 a2 a6 c4 c2 c6 ⟨K, kp, PE, rm⟩)
            have HI := Lib.hid (dkC_info a4 a2 a6 c4 c2 c6 ⟨K, kp, PE, rm⟩)
            have HZ := Lib.hid (show dkZ.size = (dkC a4 a2 a6 c4 c2 c6 ⟨K, kp, PE, rm⟩).size from rfl)
            obtain ⟨CS, hCS⟩ : ∃ C, dkC a4 a2 a6 c4 c2 c6 ⟨K, kp, PE, rm⟩ = C := ⟨_, rfl⟩
            rw [hCS] at HD HDN HB HO HI HZ
            clear hCS
            go_wp2_with (first
              | ((with_reducible refine atLoad (ty := 33) (x := .tmp 2) rfl ?_); refine wpList_load_row rfl 33 (.tmp 2) rfl w.heap.size rfl 33 CS (0, 0) _ HB.out Try.underlying33 rfl HI.out ?_)
              | ((with_reducible refine atStore (ty := 33) (x := .tmp 4) (y := .tmp 68) rfl ?_); refine wpList_store_row rfl 33 (.tmp 4) (.tmp 68) rfl (w.heap.size + 2) CS rfl rfl 33 _ HR.out HI.out HZ.out HO.out ?_))
            refine ret_cell_tmp rfl rfl rfl rfl HD.out.1 Try.underlying33 rfl HI.out ?_
            exact ⟨CS, rfl, HDN.out, HD.out.2⟩
        · skip
          refine wanted_go rfl ?_
          simp only [List.getElem_toArray, List.getElem_cons_zero, List.getElem_cons_succ]
          have HN0 := Lib.hid (show (W6.drew.alloc (.cells #[.string name, .int .i64 pl, .string s] 49)).heap[W6.heap.size]? = some (.cells #[.string name, .int .i64 pl, .string s] 49 (0, 0)) from heap_alloc_new W6.drew _)
          have HB0 := Lib.hid (HB.out.alloc HB.out.size (.cells #[.string name, .int .i64 pl, .string s] 49))
          clear HB; have HB := Lib.hid HB0.out; clear HB0
          have HN := Lib.hid HN0.out; clear HN0
          go_wp2
          refine hK2.out _ _ (HX6.out.wr HB.out) (fun hS2 => ?_)
          refine wpAnyH_ready (rs := [0]) (by kernel_rfl) (by simp) ?_
          refine AllReadyH.cons rfl (fun K3 hK3 => ?_) (AllReadyH.nil)
          refine wanted_go rfl ?_
          simp only [List.getElem_toArray, List.getElem_cons_zero]
          have HO3 := Lib.hid (show ((W6.drew.alloc (.cells #[.string name, .int .i64 pl, .string s] 49)).alloc (.cells #[] 49)).ownsRow W6.heap.size 49 3 (.slice (some ⟨W6.heap.size + 1, 0, none⟩) 0 0) 0 [] by have h := own_none (W6.drew.alloc (.cells #[.string name, .int .i64 pl, .string s] 49)) W6.heap.size HB.out.size; rw [World.size_alloc] at h; exact h)
          have HB0 := Lib.hid (HB.out.alloc HB.out.size (.cells #[] 49))
          have HN0 := Lib.hid ((Below.heap_alloc (W6.drew.alloc (.cells #[.string name, .int .i64 pl, .string s] 49)) (.cells #[] 49) _ (lt_of_blkD HN.out)).trans HN.out)
          clear HN; have HN := Lib.hid HN0.out; clear HN0
          clear HB; have HB := Lib.hid HB0.out; clear HB0
          have HO := Lib.hid HO3.out; clear HO3
          go_wp2
          refine hK3.out _ _ (HX6.out.wr HB.out) (fun hS3 => ?_)
          refine wpAnyH_ready (rs := [3]) (by kernel_rfl) (by simp) ?_
          refine AllReadyH.cons rfl (fun K4 hK4 => ?_) (AllReadyH.nil)
          refine wanted_go rfl ?_
          simp only [List.getElem_toArray, List.getElem_cons_zero, List.getElem_cons_succ]
          refine wp_append_pend _ _ rfl W6.heap.size hi hz0 hz1 hz2 (.slice (some ⟨W6.heap.size + 1, 0, none⟩) 0 0) rfl HO.out a3 pe c3 rfl (HX6.out.below HB.out).I.f3.at (by omega) HB.out.size ?_
          intro v3 w3 ho3 hg3
          have HB0 := Lib.hid (HB.out.grown hg3 HB.out.size (own_block_ge HO.out))
          have HN0 := Lib.hid ((hg3.block _ (lt_of_blkD HN.out) (by simp [Value.ownBlock])).trans HN.out)
          clear HN; have HN := Lib.hid HN0.out; clear HN0
          clear HB; have HB := Lib.hid HB0.out; clear HB0
          clear HO; have HO := Lib.hid ho3; clear ho3 hg3
          refine hK4.out _ _ (HX6.out.wr HB.out) (fun hS4 => ?_)
          refine wpAnyH_ready (rs := [6]) (by kernel_rfl) (by simp) ?_
          refine AllReadyH.cons rfl (fun K5 hK5 => ?_) (AllReadyH.nil)
          refine wanted_go rfl ?_
          simp only [List.getElem_toArray, List.getElem_cons_zero, List.getElem_cons_succ]
          refine wp_append_own _ _ _ 31 rfl W6.heap.size 49 i0 (.agg #[.string ⟨#[]⟩, .int .i64 0, .string ⟨#[]⟩]) 3 40 Try.underlying31 hi hz0 hz1 hz2 rfl (by decide) _ _ _ rfl HO.out ⟨W6.heap.size, 0, none⟩ 1 1 (wcells (name, n, s)) rfl rfl (cells_w HPN.out HN.out) (oneW1 _) (by unfold maxLen; omega) (by omega) HB.out.size ?_
          intro v6 w6 ho6 hg6 _
          have HB0 := Lib.hid (HB.out.grown hg6 HB.out.size (own_block_ge HO.out))
          obtain ⟨a6, c6, rfl, hc6, hp6, hb6⟩ := pend_own (l := PE) (by rw [HPL.out, HPF.out]; exact ho6)
          have HP6 := Lib.hid (pend_off hp6 hb6 (lt_of_blkD HX6.out.I.S.box) (lt_of_blkD HX6.out.I.S.res))
          have HA6 := Lib.hid (show AdrP P a6 from fun b hb => HPG.out b (Nat.le_trans HX6.out.I.S.lo.size (hb6 b hb)))
          clear HB; have HB := Lib.hid HB0.out; clear HB0 hp6 hb6 ho6 hg6 HN HO
          refine hK5.out _ _ (HX6.out.wr HB.out) (fun hS5 => ?_)
          refine wpAnyH_take (i := 7) (v := .pointer (some ⟨w.heap.size, 2, none⟩)) rfl (by kernel_rfl) (by kernel_rfl) (by kernel_rfl) (fun _ _ _ h => h) (Or.inl ⟨by simp [Region.wanted], fun W _ => by go_simp⟩) hS5 ?_
          simp only [List.getElem_toArray, List.getElem_cons_zero, List.getElem_cons_succ, Act.put, List.setIfInBounds_toArray, List.set_cons_zero, List.set_cons_succ]
          refine wpAnyH_ready (rs := [8]) (by kernel_rfl) (by simp) ?_
          refine AllReadyH.cons rfl (fun K6 hK6 => ?_) (AllReadyH.nil)
          refine wanted_go rfl ?_
          simp only [List.getElem_toArray, List.getElem_cons_zero, List.getElem_cons_succ]
          have HX7 := Lib.hid (HX6.out.below HB.out)
          have cl := HX7.out.I.S.cell 2 (.slice a3 pe.length c3) rfl
          have cf := HX7.out.I.S.free 2
          have HX8 := Lib.hid (show DkX w #[.string name, .int .i64 pl, .string s] a4 a2 a6 c4 c2 c6 ⟨K, kp, PE, rm⟩ _ from ⟨⟨HX7.out.I.S.set 2 (.slice a6 PE.length c6), HX7.out.I.f1.set 2 _, HX7.out.I.f2.set 2 _, HP6.out.set 2 _⟩, (heap_setCell_ne _ (by omega)).trans HX7.out.wb⟩)
          go_wp2
          refine hK6.out _ _ ⟨HX8.out.I.S.lo, HX8.out.wb⟩ (fun hS6 => ?_)
          refine wpAnyH_done (by kernel_rfl) ?_ _
          have HD := Lib.hid (HX8.out.I.S.done (dkC a4 a2 a6 c4 c2 c6 ⟨K, kp, PE, rm⟩))
          have HDN := Lib.hid (HX8.out.I.done ⟨hc4, HK.out.2.1, hc6⟩ ⟨.inr HA4.out, HAP.out.2.1, .inr HA6.out⟩)
          have HB := Lib.hid HX8.out.I.S.box; have HR := Lib.hid HX8.out.I.S.res
          have HO := Lib.hid (dkC_one a4 a2 a6 c4 c2 c6 ⟨K, kp, PE, rm⟩)
          have HI := Lib.hid (dkC_info a4 a2 a6 c4 c2 c6 ⟨K, kp, PE, rm⟩)
          have HZ := Lib.hid (show dkZ.size = (dkC a4 a2 a6 c4 c2 c6 ⟨K, kp, PE, rm⟩).size from rfl)
          obtain ⟨CS, hCS⟩ : ∃ C, dkC a4 a2 a6 c4 c2 c6 ⟨K, kp, PE, rm⟩ = C := ⟨_, rfl⟩
          rw [hCS] at HD HDN HB HO HI HZ
          clear hCS
          go_wp2_with (first
            | ((with_reducible refine atLoad (ty := 33) (x := .tmp 2) rfl ?_); refine wpList_load_row rfl 33 (.tmp 2) rfl w.heap.size rfl 33 CS (0, 0) _ HB.out Try.underlying33 rfl HI.out ?_)
            | ((with_reducible refine atStore (ty := 33) (x := .tmp 4) (y := .tmp 68) rfl ?_); refine wpList_store_row rfl 33 (.tmp 4) (.tmp 68) rfl (w.heap.size + 2) CS rfl rfl 33 _ HR.out HI.out HZ.out HO.out ?_))
          refine ret_cell_tmp rfl rfl rfl rfl HD.out.1 Try.underlying33 rfl HI.out ?_
          exact ⟨CS, rfl, HDN.out, HD.out.2⟩
      · skip
        refine wanted_go rfl ?_
        simp only [List.getElem_toArray, List.getElem_cons_zero, List.getElem_cons_succ]
        have HN0 := Lib.hid (show (W6.drew.alloc (.cells #[.string name, .int .i64 pl, .string s] 49)).heap[W6.heap.size]? = some (.cells #[.string name, .int .i64 pl, .string s] 49 (0, 0)) from heap_alloc_new W6.drew _)
        have HB0 := Lib.hid (HB.out.alloc HB.out.size (.cells #[.string name, .int .i64 pl, .string s] 49))
        clear HB; have HB := Lib.hid HB0.out; clear HB0
        have HN := Lib.hid HN0.out; clear HN0
        go_wp2
        refine hK1.out _ _ (HX6.out.wr HB.out) (fun hS1 => ?_)
        refine wpAnyH_ready (rs := [0, 2]) (by kernel_rfl) (by simp) ?_
        refine AllReadyH.cons rfl (fun K2 hK2 => ?_) (AllReadyH.cons rfl (fun K2 hK2 => ?_) (AllReadyH.nil))
        · skip
          refine wanted_go rfl ?_
          simp only [List.getElem_toArray, List.getElem_cons_zero]
          have HO2 := Lib.hid (show ((W6.drew.alloc (.cells #[.string name, .int .i64 pl, .string s] 49)).alloc (.cells #[] 49)).ownsRow W6.heap.size 49 3 (.slice (some ⟨W6.heap.size + 1, 0, none⟩) 0 0) 0 [] by have h := own_none (W6.drew.alloc (.cells #[.string name, .int .i64 pl, .string s] 49)) W6.heap.size HB.out.size; rw [World.size_alloc] at h; exact h)
          have HB0 := Lib.hid (HB.out.alloc HB.out.size (.cells #[] 49))
          have HN0 := Lib.hid ((Below.heap_alloc (W6.drew.alloc (.cells #[.string name, .int .i64 pl, .string s] 49)) (.cells #[] 49) _ (lt_of_blkD HN.out)).trans HN.out)
          clear HN; have HN := Lib.hid HN0.out; clear HN0
          clear HB; have HB := Lib.hid HB0.out; clear HB0
          have HO := Lib.hid HO2.out; clear HO2
          go_wp2
          refine hK2.out _ _ (HX6.out.wr HB.out) (fun hS2 => ?_)
          refine wpAnyH_ready (rs := [2]) (by kernel_rfl) (by simp) ?_
          refine AllReadyH.cons rfl (fun K3 hK3 => ?_) (AllReadyH.nil)
          refine wanted_go rfl ?_
          simp only [List.getElem_toArray, List.getElem_cons_zero, List.getElem_cons_succ]
          have cl := HX6.out.I.S.cell 2 (.slice a3 pe.length c3) rfl
          have cg := lt_of_blkD HX6.out.I.S.box
          go_wp2
          clear cl cg
          refine hK3.out _ _ (HX6.out.wr HB.out) (fun hS3 => ?_)
          refine wpAnyH_ready (rs := [3]) (by kernel_rfl) (by simp) ?_
          refine AllReadyH.cons rfl (fun K4 hK4 => ?_) (AllReadyH.nil)
          refine wanted_go rfl ?_
          simp only [List.getElem_toArray, List.getElem_cons_zero, List.getElem_cons_succ]
          refine wp_append_pend _ _ rfl W6.heap.size hi hz0 hz1 hz2 (.slice (some ⟨W6.heap.size + 1, 0, none⟩) 0 0) rfl HO.out a3 pe c3 rfl (HX6.out.below HB.out).I.f3.at (by omega) HB.out.size ?_
          intro v3 w3 ho3 hg3
          have HB0 := Lib.hid (HB.out.grown hg3 HB.out.size (own_block_ge HO.out))
          have HN0 := Lib.hid ((hg3.block _ (lt_of_blkD HN.out) (by simp [Value.ownBlock])).trans HN.out)
          clear HN; have HN := Lib.hid HN0.out; clear HN0
          clear HB; have HB := Lib.hid HB0.out; clear HB0
          clear HO; have HO := Lib.hid ho3; clear ho3 hg3
          refine hK4.out _ _ (HX6.out.wr HB.out) (fun hS4 => ?_)
          refine wpAnyH_ready (rs := [6]) (by kernel_rfl) (by simp) ?_
          refine AllReadyH.cons rfl (fun K5 hK5 => ?_) (AllReadyH.nil)
          refine wanted_go rfl ?_
          simp only [List.getElem_toArray, List.getElem_cons_zero, List.getElem_cons_succ]
          refine wp_append_own _ _ _ 31 rfl W6.heap.size 49 i0 (.agg #[.string ⟨#[]⟩, .int .i64 0, .string ⟨#[]⟩]) 3 40 Try.underlying31 hi hz0 hz1 hz2 rfl (by decide) _ _ _ rfl HO.out ⟨W6.heap.size, 0, none⟩ 1 1 (wcells (name, n, s)) rfl rfl (cells_w HPN.out HN.out) (oneW1 _) (by unfold maxLen; omega) (by omega) HB.out.size ?_
          intro v6 w6 ho6 hg6 _
          have HB0 := Lib.hid (HB.out.grown hg6 HB.out.size (own_block_ge HO.out))
          obtain ⟨a6, c6, rfl, hc6, hp6, hb6⟩ := pend_own (l := PE) (by rw [HPL.out, HPF.out]; exact ho6)
          have HP6 := Lib.hid (pend_off hp6 hb6 (lt_of_blkD HX6.out.I.S.box) (lt_of_blkD HX6.out.I.S.res))
          have HA6 := Lib.hid (show AdrP P a6 from fun b hb => HPG.out b (Nat.le_trans HX6.out.I.S.lo.size (hb6 b hb)))
          clear HB; have HB := Lib.hid HB0.out; clear HB0 hp6 hb6 ho6 hg6 HN HO
          refine hK5.out _ _ (HX6.out.wr HB.out) (fun hS5 => ?_)
          refine wpAnyH_take (i := 7) (v := .pointer (some ⟨w.heap.size, 2, none⟩)) rfl (by kernel_rfl) (by kernel_rfl) (by kernel_rfl) (fun _ _ _ h => h) (Or.inl ⟨by simp [Region.wanted], fun W _ => by go_simp⟩) hS5 ?_
          simp only [List.getElem_toArray, List.getElem_cons_zero, List.getElem_cons_succ, Act.put, List.setIfInBounds_toArray, List.set_cons_zero, List.set_cons_succ]
          refine wpAnyH_ready (rs := [8]) (by kernel_rfl) (by simp) ?_
          refine AllReadyH.cons rfl (fun K6 hK6 => ?_) (AllReadyH.nil)
          refine wanted_go rfl ?_
          simp only [List.getElem_toArray, List.getElem_cons_zero, List.getElem_cons_succ]
          have HX7 := Lib.hid (HX6.out.below HB.out)
          have cl := HX7.out.I.S.cell 2 (.slice a3 pe.length c3) rfl
          have cf := HX7.out.I.S.free 2
          have HX8 := Lib.hid (show DkX w #[.string name, .int .i64 pl, .string s] a4 a2 a6 c4 c2 c6 ⟨K, kp, PE, rm⟩ _ from ⟨⟨HX7.out.I.S.set 2 (.slice a6 PE.length c6), HX7.out.I.f1.set 2 _, HX7.out.I.f2.set 2 _, HP6.out.set 2 _⟩, (heap_setCell_ne _ (by omega)).trans HX7.out.wb⟩)
          go_wp2
          refine hK6.out _ _ ⟨HX8.out.I.S.lo, HX8.out.wb⟩ (fun hS6 => ?_)
          refine wpAnyH_done (by kernel_rfl) ?_ _
          have HD := Lib.hid (HX8.out.I.S.done (dkC a4 a2 a6 c4 c2 c6 ⟨K, kp, PE, rm⟩))
          have HDN := Lib.hid (HX8.out.I.done ⟨hc4, HK.out.2.1, hc6⟩ ⟨.inr HA4.out, HAP.out.2.1, .inr HA6.out⟩)
          have HB := Lib.hid HX8.out.I.S.box; have HR := Lib.hid HX8.out.I.S.res
          have HO := Lib.hid (dkC_one a4 a2 a6 c4 c2 c6 ⟨K, kp, PE, rm⟩)
          have HI := Lib.hid (dkC_info a4 a2 a6 c4 c2 c6 ⟨K, kp, PE, rm⟩)
          have HZ := Lib.hid (show dkZ.size = (dkC a4 a2 a6 c4 c2 c6 ⟨K, kp, PE, rm⟩).size from rfl)
          obtain ⟨CS, hCS⟩ : ∃ C, dkC a4 a2 a6 c4 c2 c6 ⟨K, kp, PE, rm⟩ = C := ⟨_, rfl⟩
          rw [hCS] at HD HDN HB HO HI HZ
          clear hCS
          go_wp2_with (first
            | ((with_reducible refine atLoad (ty := 33) (x := .tmp 2) rfl ?_); refine wpList_load_row rfl 33 (.tmp 2) rfl w.heap.size rfl 33 CS (0, 0) _ HB.out Try.underlying33 rfl HI.out ?_)
            | ((with_reducible refine atStore (ty := 33) (x := .tmp 4) (y := .tmp 68) rfl ?_); refine wpList_store_row rfl 33 (.tmp 4) (.tmp 68) rfl (w.heap.size + 2) CS rfl rfl 33 _ HR.out HI.out HZ.out HO.out ?_))
          refine ret_cell_tmp rfl rfl rfl rfl HD.out.1 Try.underlying33 rfl HI.out ?_
          exact ⟨CS, rfl, HDN.out, HD.out.2⟩
        · skip
          refine wanted_go rfl ?_
          simp only [List.getElem_toArray, List.getElem_cons_zero, List.getElem_cons_succ]
          have cl := HX6.out.I.S.cell 2 (.slice a3 pe.length c3) rfl
          have cg := lt_of_blkD HX6.out.I.S.box
          go_wp2
          clear cl cg
          refine hK2.out _ _ (HX6.out.wr HB.out) (fun hS2 => ?_)
          refine wpAnyH_ready (rs := [0]) (by kernel_rfl) (by simp) ?_
          refine AllReadyH.cons rfl (fun K3 hK3 => ?_) (AllReadyH.nil)
          refine wanted_go rfl ?_
          simp only [List.getElem_toArray, List.getElem_cons_zero]
          have HO3 := Lib.hid (show ((W6.drew.alloc (.cells #[.string name, .int .i64 pl, .string s] 49)).alloc (.cells #[] 49)).ownsRow W6.heap.size 49 3 (.slice (some ⟨W6.heap.size + 1, 0, none⟩) 0 0) 0 [] by have h := own_none (W6.drew.alloc (.cells #[.string name, .int .i64 pl, .string s] 49)) W6.heap.size HB.out.size; rw [World.size_alloc] at h; exact h)
          have HB0 := Lib.hid (HB.out.alloc HB.out.size (.cells #[] 49))
          have HN0 := Lib.hid ((Below.heap_alloc (W6.drew.alloc (.cells #[.string name, .int .i64 pl, .string s] 49)) (.cells #[] 49) _ (lt_of_blkD HN.out)).trans HN.out)
          clear HN; have HN := Lib.hid HN0.out; clear HN0
          clear HB; have HB := Lib.hid HB0.out; clear HB0
          have HO := Lib.hid HO3.out; clear HO3
          go_wp2
          refine hK3.out _ _ (HX6.out.wr HB.out) (fun hS3 => ?_)
          refine wpAnyH_ready (rs := [3]) (by kernel_rfl) (by simp) ?_
          refine AllReadyH.cons rfl (fun K4 hK4 => ?_) (AllReadyH.nil)
          refine wanted_go rfl ?_
          simp only [List.getElem_toArray, List.getElem_cons_zero, List.getElem_cons_succ]
          refine wp_append_pend _ _ rfl W6.heap.size hi hz0 hz1 hz2 (.slice (some ⟨W6.heap.size + 1, 0, none⟩) 0 0) rfl HO.out a3 pe c3 rfl (HX6.out.below HB.out).I.f3.at (by omega) HB.out.size ?_
          intro v3 w3 ho3 hg3
          have HB0 := Lib.hid (HB.out.grown hg3 HB.out.size (own_block_ge HO.out))
          have HN0 := Lib.hid ((hg3.block _ (lt_of_blkD HN.out) (by simp [Value.ownBlock])).trans HN.out)
          clear HN; have HN := Lib.hid HN0.out; clear HN0
          clear HB; have HB := Lib.hid HB0.out; clear HB0
          clear HO; have HO := Lib.hid ho3; clear ho3 hg3
          refine hK4.out _ _ (HX6.out.wr HB.out) (fun hS4 => ?_)
          refine wpAnyH_ready (rs := [6]) (by kernel_rfl) (by simp) ?_
          refine AllReadyH.cons rfl (fun K5 hK5 => ?_) (AllReadyH.nil)
          refine wanted_go rfl ?_
          simp only [List.getElem_toArray, List.getElem_cons_zero, List.getElem_cons_succ]
          refine wp_append_own _ _ _ 31 rfl W6.heap.size 49 i0 (.agg #[.string ⟨#[]⟩, .int .i64 0, .string ⟨#[]⟩]) 3 40 Try.underlying31 hi hz0 hz1 hz2 rfl (by decide) _ _ _ rfl HO.out ⟨W6.heap.size, 0, none⟩ 1 1 (wcells (name, n, s)) rfl rfl (cells_w HPN.out HN.out) (oneW1 _) (by unfold maxLen; omega) (by omega) HB.out.size ?_
          intro v6 w6 ho6 hg6 _
          have HB0 := Lib.hid (HB.out.grown hg6 HB.out.size (own_block_ge HO.out))
          obtain ⟨a6, c6, rfl, hc6, hp6, hb6⟩ := pend_own (l := PE) (by rw [HPL.out, HPF.out]; exact ho6)
          have HP6 := Lib.hid (pend_off hp6 hb6 (lt_of_blkD HX6.out.I.S.box) (lt_of_blkD HX6.out.I.S.res))
          have HA6 := Lib.hid (show AdrP P a6 from fun b hb => HPG.out b (Nat.le_trans HX6.out.I.S.lo.size (hb6 b hb)))
          clear HB; have HB := Lib.hid HB0.out; clear HB0 hp6 hb6 ho6 hg6 HN HO
          refine hK5.out _ _ (HX6.out.wr HB.out) (fun hS5 => ?_)
          refine wpAnyH_take (i := 7) (v := .pointer (some ⟨w.heap.size, 2, none⟩)) rfl (by kernel_rfl) (by kernel_rfl) (by kernel_rfl) (fun _ _ _ h => h) (Or.inl ⟨by simp [Region.wanted], fun W _ => by go_simp⟩) hS5 ?_
          simp only [List.getElem_toArray, List.getElem_cons_zero, List.getElem_cons_succ, Act.put, List.setIfInBounds_toArray, List.set_cons_zero, List.set_cons_succ]
          refine wpAnyH_ready (rs := [8]) (by kernel_rfl) (by simp) ?_
          refine AllReadyH.cons rfl (fun K6 hK6 => ?_) (AllReadyH.nil)
          refine wanted_go rfl ?_
          simp only [List.getElem_toArray, List.getElem_cons_zero, List.getElem_cons_succ]
          have HX7 := Lib.hid (HX6.out.below HB.out)
          have cl := HX7.out.I.S.cell 2 (.slice a3 pe.length c3) rfl
          have cf := HX7.out.I.S.free 2
          have HX8 := Lib.hid (show DkX w #[.string name, .int .i64 pl, .string s] a4 a2 a6 c4 c2 c6 ⟨K, kp, PE, rm⟩ _ from ⟨⟨HX7.out.I.S.set 2 (.slice a6 PE.length c6), HX7.out.I.f1.set 2 _, HX7.out.I.f2.set 2 _, HP6.out.set 2 _⟩, (heap_setCell_ne _ (by omega)).trans HX7.out.wb⟩)
          go_wp2
          refine hK6.out _ _ ⟨HX8.out.I.S.lo, HX8.out.wb⟩ (fun hS6 => ?_)
          refine wpAnyH_done (by kernel_rfl) ?_ _
          have HD := Lib.hid (HX8.out.I.S.done (dkC a4 a2 a6 c4 c2 c6 ⟨K, kp, PE, rm⟩))
          have HDN := Lib.hid (HX8.out.I.done ⟨hc4, HK.out.2.1, hc6⟩ ⟨.inr HA4.out, HAP.out.2.1, .inr HA6.out⟩)
          have HB := Lib.hid HX8.out.I.S.box; have HR := Lib.hid HX8.out.I.S.res
          have HO := Lib.hid (dkC_one a4 a2 a6 c4 c2 c6 ⟨K, kp, PE, rm⟩)
          have HI := Lib.hid (dkC_info a4 a2 a6 c4 c2 c6 ⟨K, kp, PE, rm⟩)
          have HZ := Lib.hid (show dkZ.size = (dkC a4 a2 a6 c4 c2 c6 ⟨K, kp, PE, rm⟩).size from rfl)
          obtain ⟨CS, hCS⟩ : ∃ C, dkC a4 a2 a6 c4 c2 c6 ⟨K, kp, PE, rm⟩ = C := ⟨_, rfl⟩
          rw [hCS] at HD HDN HB HO HI HZ
          clear hCS
          go_wp2_with (first
            | ((with_reducible refine atLoad (ty := 33) (x := .tmp 2) rfl ?_); refine wpList_load_row rfl 33 (.tmp 2) rfl w.heap.size rfl 33 CS (0, 0) _ HB.out Try.underlying33 rfl HI.out ?_)
            | ((with_reducible refine atStore (ty := 33) (x := .tmp 4) (y := .tmp 68) rfl ?_); refine wpList_store_row rfl 33 (.tmp 4) (.tmp 68) rfl (w.heap.size + 2) CS rfl rfl 33 _ HR.out HI.out HZ.out HO.out ?_))
          refine ret_cell_tmp rfl rfl rfl rfl HD.out.1 Try.underlying33 rfl HI.out ?_
          exact ⟨CS, rfl, HDN.out, HD.out.2⟩
  · have hrn := (not_emptyD hr0).1
    have hrn2 := (not_emptyD hr0).2
    generalize readF st name = RN at *
    clear hr0 h3 h4 hrd
    by_cases h5 : rm < (usedF K : Int)
    · rw [hfull h5]
      clear hfull hok
      go_enter Try.func20, Try.ntmps20
      go_upto_region 1 with (fail)
      refine at_world (Φ := DkX w #[.string name, .int .i64 pl, .string s] a1 a2 a3 c1 c2 c3 ⟨st, kp, pe, rm⟩) HST.out ?_
      rintro W hW
      have H := Lib.hid hW
      have q0 := cellD hW.wb 0 (.string name) rfl
      have q1 := cellD hW.wb 1 (.int .i64 pl) rfl
      have q2 := cellD hW.wb 2 (.string s) rfl
      have e0 := hW.I.S.cell 0 (.slice a1 st.length c1) rfl
      clear hW HST
      have HNM := Lib.hid (HNM0.out W)
      have HRD := Lib.hid (HRD0.out W H.out.I.f1.at)
      have HPT := Lib.hid (HPT0.out W H.out.I.f1.at)
      clear HNM0 HRD0 HPT0
      go_upto_region 9 with (first
        | (go_at_call 36; refine HNM.out.mono ?_; rintro e w1 ⟨rfl, rfl⟩)
        | (go_at_call 23; refine HRD.out.mono ?_; rintro e w1 ⟨rfl, rfl⟩)
        | (go_at_call 41; refine HPT.out.mono ?_; rintro e w2 ⟨⟨v, rfl, ho⟩, hb⟩; obtain ⟨a4, c4, rfl, hc4, hf4, hb4⟩ := files_own ho; have HX2 := Lib.hid (H.out.below hb); have HF4 := Lib.hid (files_off hf4 hb4 (lt_of_blkD H.out.I.S.box) (lt_of_blkD H.out.I.S.res)); have HA4 := Lib.hid (show AdrP P a4 from fun b hb => HPG.out b (Nat.le_trans H.out.I.S.lo.size (hb4 b hb))); clear ho hb hf4 hb4))
      have e3 := HX2.out.I.S.cell 3 (.int .i64 rm) rfl
      have HUS : Hid (∀ W, FilesAt W a4 K → Calls Try.prog 11 #[.slice a4 K.length c4] W fun e w' => e = .returned (.int .i64 (usedF K : Int)) ∧ w' = W) := Lib.hid (fun W hf => (rused11 a4 K c4 W hf (by unfold maxLen; omega) (by omega)).mono fun _ _ h => ⟨h.1, h.2.symm⟩)
      have HFA := Lib.hid HF4.out.at
      go_quiet (first | (go_at_call 11; exact Calls.quiet_of_same (HUS.out _ (HFA.out.below (below_drews _)))))
      have HXD := Lib.hid (HX2.out.below (below_drews nq))
      have HFD := Lib.hid (HF4.out.below (below_drews nq))
      clear HX2 HF4 HFA HUS HPT HRD HNM e3 e0 q0 q1 q2 H
      have HD := Lib.hid (HXD.out.I.S.done (dkC a1 a2 a3 c1 c2 c3 ⟨st, kp, pe, rm⟩))
      have HDN := Lib.hid (HXD.out.I.done HK.out HAP.out)
      have HB := Lib.hid HXD.out.I.S.box; have HR := Lib.hid HXD.out.I.S.res
      have HO := Lib.hid (dkC_one a1 a2 a3 c1 c2 c3 ⟨st, kp, pe, rm⟩)
      have HI := Lib.hid (dkC_info a1 a2 a3 c1 c2 c3 ⟨st, kp, pe, rm⟩)
      have HZ := Lib.hid (show dkZ.size = (dkC a1 a2 a3 c1 c2 c3 ⟨st, kp, pe, rm⟩).size from rfl)
      obtain ⟨CS, hCS⟩ : ∃ C, dkC a1 a2 a3 c1 c2 c3 ⟨st, kp, pe, rm⟩ = C := ⟨_, rfl⟩
      rw [hCS] at HD HDN HB HO HI HZ
      clear hCS
      go_wp2_with (first
        | ((with_reducible refine atLoad (ty := 33) (x := .tmp 2) rfl ?_); refine wpList_load_row rfl 33 (.tmp 2) rfl w.heap.size rfl 33 CS (0, 0) _ HB.out Try.underlying33 rfl HI.out ?_)
        | ((with_reducible refine atStore (ty := 33) (x := .tmp 4) (y := .tmp 57) rfl ?_); refine wpList_store_row rfl 33 (.tmp 4) (.tmp 57) rfl (w.heap.size + 2) CS rfl rfl 33 _ HR.out HI.out HZ.out HO.out ?_))
      refine ret_cell_tmp rfl rfl rfl rfl HD.out.1 Try.underlying33 rfl HI.out ?_
      exact ⟨CS, rfl, HDN.out, HD.out.2⟩
    · rw [hok h5]
      clear hfull hok
      go_enter Try.func20, Try.ntmps20
      go_upto_region 1 with (fail)
      refine at_world (Φ := DkX w #[.string name, .int .i64 pl, .string s] a1 a2 a3 c1 c2 c3 ⟨st, kp, pe, rm⟩) HST.out ?_
      rintro W hW
      have H := Lib.hid hW
      have q0 := cellD hW.wb 0 (.string name) rfl
      have q1 := cellD hW.wb 1 (.int .i64 pl) rfl
      have q2 := cellD hW.wb 2 (.string s) rfl
      have e0 := hW.I.S.cell 0 (.slice a1 st.length c1) rfl
      clear hW HST
      have HNM := Lib.hid (HNM0.out W)
      have HRD := Lib.hid (HRD0.out W H.out.I.f1.at)
      have HPT := Lib.hid (HPT0.out W H.out.I.f1.at)
      clear HNM0 HRD0 HPT0
      go_upto_region 9 with (first
        | (go_at_call 36; refine HNM.out.mono ?_; rintro e w1 ⟨rfl, rfl⟩)
        | (go_at_call 23; refine HRD.out.mono ?_; rintro e w1 ⟨rfl, rfl⟩)
        | (go_at_call 41; refine HPT.out.mono ?_; rintro e w2 ⟨⟨v, rfl, ho⟩, hb⟩; obtain ⟨a4, c4, rfl, hc4, hf4, hb4⟩ := files_own ho; have HX2 := Lib.hid (H.out.below hb); have HF4 := Lib.hid (files_off hf4 hb4 (lt_of_blkD H.out.I.S.box) (lt_of_blkD H.out.I.S.res)); have HA4 := Lib.hid (show AdrP P a4 from fun b hb => HPG.out b (Nat.le_trans H.out.I.S.lo.size (hb4 b hb))); clear ho hb hf4 hb4))
      have e3 := HX2.out.I.S.cell 3 (.int .i64 rm) rfl
      have HUS : Hid (∀ W, FilesAt W a4 K → Calls Try.prog 11 #[.slice a4 K.length c4] W fun e w' => e = .returned (.int .i64 (usedF K : Int)) ∧ w' = W) := Lib.hid (fun W hf => (rused11 a4 K c4 W hf (by unfold maxLen; omega) (by omega)).mono fun _ _ h => ⟨h.1, h.2.symm⟩)
      have HFA := Lib.hid HF4.out.at
      go_quiet (first | (go_at_call 11; exact Calls.quiet_of_same (HUS.out _ (HFA.out.below (below_drews _)))))
      have HXD := Lib.hid (HX2.out.below (below_drews nq))
      have HFD := Lib.hid (HF4.out.below (below_drews nq))
      clear HX2 HF4 HFA HUS HPT HRD HNM e3 e0 q0 q1 q2 H
      have y0 := HXD.out.I.S.cell 0 (.slice a1 st.length c1) rfl
      have y1 := HXD.out.I.S.free 0
      have HX6 := Lib.hid (show DkX w #[.string name, .int .i64 pl, .string s] a4 a2 a3 c4 c2 c3 ⟨K, kp, pe, rm⟩ _ from ⟨⟨HXD.out.I.S.set 0 (.slice a4 K.length c4), HFD.out.set 0 _, HXD.out.I.f2.set 0 _, HXD.out.I.f3.set 0 _⟩, (heap_setCell_ne _ (by omega)).trans HXD.out.wb⟩)
      go_upto_region 12 with (fail)
      obtain ⟨W6, hW6⟩ : ∃ W6, (w2.drewN nq).setCell ⟨w.heap.size, 0, none⟩ (.slice a4 K.length c4) = W6 := ⟨_, rfl⟩
      rw [hW6] at HX6 ⊢
      clear hW6 HXD HFD y0 y1
      have HB := Lib.hid ((Below.refl W6.heap.size W6).drew)
      refine wp_region_held_drew (S := WrS w #[.string name, .int .i64 pl, .string s]) (by kernel_rfl) (HX6.out.wr HB.out) (fun hS => ?_)
      refine wpAnyH_take (i := 1) (v := .pointer (some ⟨w.heap.size, 2, none⟩)) rfl (by kernel_rfl) (by kernel_rfl) (by kernel_rfl) (fun _ _ _ h => h) (Or.inl ⟨by simp [Region.wanted], fun W _ => by go_simp⟩) hS ?_
      simp only [List.getElem_toArray, List.getElem_cons_zero, List.getElem_cons_succ, Act.put, List.setIfInBounds_toArray, List.set_cons_zero, List.set_cons_succ]
      refine wpAnyH_take (i := 4) (v := .agg #[.string name, .int .i64 pl, .string s]) rfl (by kernel_rfl) (by kernel_rfl) (by kernel_rfl) (fun _ _ _ h => h) (yieldsIf_load rfl 49 (.tmp 3) rfl _ _ rfl (fun W hW => load_wb HPN.out hW.2)) hS ?_
      simp only [List.getElem_toArray, List.getElem_cons_zero, List.getElem_cons_succ, Act.put, List.setIfInBounds_toArray, List.set_cons_zero, List.set_cons_succ]
      refine wpAnyH_ready (rs := [0, 2, 5]) (by kernel_rfl) (by simp) ?_
      refine AllReadyH.cons rfl (fun K1 hK1 => ?_) (AllReadyH.cons rfl (fun K1 hK1 => ?_) (AllReadyH.cons rfl (fun K1 hK1 => ?_) (AllReadyH.nil)))
      · skip
        refine wanted_go rfl ?_
        simp only [List.getElem_toArray, List.getElem_cons_zero]
        have HO1 := Lib.hid (show (W6.drew.alloc (.cells #[] 49)).ownsRow W6.heap.size 49 3 (.slice (some ⟨W6.heap.size, 0, none⟩) 0 0) 0 [] from own_none W6.drew W6.heap.size HB.out.size)
        have HB0 := Lib.hid (HB.out.alloc HB.out.size (.cells #[] 49))
        clear HB; have HB := Lib.hid HB0.out; clear HB0
        have HO := Lib.hid HO1.out; clear HO1
        go_wp2
        refine hK1.out _ _ (HX6.out.wr HB.out) (fun hS1 => ?_)
        refine wpAnyH_ready (rs := [2, 5]) (by kernel_rfl) (by simp) ?_
        refine AllReadyH.cons rfl (fun K2 hK2 => ?_) (AllReadyH.cons rfl (fun K2 hK2 => ?_) (AllReadyH.nil))
        · skip
          refine wanted_go rfl ?_
          simp only [List.getElem_toArray, List.getElem_cons_zero, List.getElem_cons_succ]
          have cl := HX6.out.I.S.cell 2 (.slice a3 pe.length c3) rfl
          have cg := lt_of_blkD HX6.out.I.S.box
          go_wp2
          clear cl cg
          refine hK2.out _ _ (HX6.out.wr HB.out) (fun hS2 => ?_)
          refine wpAnyH_ready (rs := [3, 5]) (by kernel_rfl) (by simp) ?_
          refine AllReadyH.cons rfl (fun K3 hK3 => ?_) (AllReadyH.cons rfl (fun K3 hK3 => ?_) (AllReadyH.nil))
          · skip
            refine wanted_go rfl ?_
            simp only [List.getElem_toArray, List.getElem_cons_zero, List.getElem_cons_succ]
            refine wp_append_pend _ _ rfl W6.heap.size hi hz0 hz1 hz2 (.slice (some ⟨W6.heap.size, 0, none⟩) 0 0) rfl HO.out a3 pe c3 rfl (HX6.out.below HB.out).I.f3.at (by omega) HB.out.size ?_
            intro v3 w3 ho3 hg3
            have HB0 := Lib.hid (HB.out.grown hg3 HB.out.size (own_block_ge HO.out))
            clear HB; have HB := Lib.hid HB0.out; clear HB0
            clear HO; have HO := Lib.hid ho3; clear ho3 hg3
            refine hK3.out _ _ (HX6.out.wr HB.out) (fun hS3 => ?_)
            refine wpAnyH_ready (rs := [5]) (by kernel_rfl) (by simp) ?_
            refine AllReadyH.cons rfl (fun K4 hK4 => ?_) (AllReadyH.nil)
            refine wanted_go rfl ?_
            simp only [List.getElem_toArray, List.getElem_cons_zero, List.getElem_cons_succ]
            have HN0 := Lib.hid (show (w3.alloc (.cells #[.string name, .int .i64 pl, .string s] 49)).heap[w3.heap.size]? = some (.cells #[.string name, .int .i64 pl, .string s] 49 (0, 0)) from heap_alloc_new w3 _)
            have HB0 := Lib.hid (HB.out.alloc HB.out.size (.cells #[.string name, .int .i64 pl, .string s] 49))
            have HO0 := Lib.hid (HO.out.alloc (.cells #[.string name, .int .i64 pl, .string s] 49))
            clear HO; have HO := Lib.hid HO0.out; clear HO0
            clear HB; have HB := Lib.hid HB0.out; clear HB0
            have HN := Lib.hid HN0.out; clear HN0
            go_wp2
            refine hK4.out _ _ (HX6.out.wr HB.out) (fun hS4 => ?_)
            refine wpAnyH_ready (rs := [6]) (by kernel_rfl) (by simp) ?_
            refine AllReadyH.cons rfl (fun K5 hK5 => ?_) (AllReadyH.nil)
            refine wanted_go rfl ?_
            simp only [List.getElem_toArray, List.getElem_cons_zero, List.getElem_cons_succ]
            refine wp_append_own _ _ _ 31 rfl W6.heap.size 49 i0 (.agg #[.string ⟨#[]⟩, .int .i64 0, .string ⟨#[]⟩]) 3 40 Try.underlying31 hi hz0 hz1 hz2 rfl (by decide) _ _ _ rfl HO.out ⟨w3.heap.size, 0, none⟩ 1 1 (wcells (name, n, s)) rfl rfl (cells_w HPN.out HN.out) (oneW1 _) (by unfold maxLen; omega) (by omega) HB.out.size ?_
            intro v6 w6 ho6 hg6 _
            have HB0 := Lib.hid (HB.out.grown hg6 HB.out.size (own_block_ge HO.out))
            obtain ⟨a6, c6, rfl, hc6, hp6, hb6⟩ := pend_own (l := PE) (by rw [HPL.out, HPF.out]; exact ho6)
            have HP6 := Lib.hid (pend_off hp6 hb6 (lt_of_blkD HX6.out.I.S.box) (lt_of_blkD HX6.out.I.S.res))
            have HA6 := Lib.hid (show AdrP P a6 from fun b hb => HPG.out b (Nat.le_trans HX6.out.I.S.lo.size (hb6 b hb)))
            clear HB; have HB := Lib.hid HB0.out; clear HB0 hp6 hb6 ho6 hg6 HN HO
            refine hK5.out _ _ (HX6.out.wr HB.out) (fun hS5 => ?_)
            refine wpAnyH_take (i := 7) (v := .pointer (some ⟨w.heap.size, 2, none⟩)) rfl (by kernel_rfl) (by kernel_rfl) (by kernel_rfl) (fun _ _ _ h => h) (Or.inl ⟨by simp [Region.wanted], fun W _ => by go_simp⟩) hS5 ?_
            simp only [List.getElem_toArray, List.getElem_cons_zero, List.getElem_cons_succ, Act.put, List.setIfInBounds_toArray, List.set_cons_zero, List.set_cons_succ]
            refine wpAnyH_ready (rs := [8]) (by kernel_rfl) (by simp) ?_
            refine AllReadyH.cons rfl (fun K6 hK6 => ?_) (AllReadyH.nil)
            refine wanted_go rfl ?_
            simp only [List.getElem_toArray, List.getElem_cons_zero, List.getElem_cons_succ]
            have HX7 := Lib.hid (HX6.out.below HB.out)
            have cl := HX7.out.I.S.cell 2 (.slice a3 pe.length c3) rfl
            have cf := HX7.out.I.S.free 2
            have HX8 := Lib.hid (show DkX w #[.string name, .int .i64 pl, .string s] a4 a2 a6 c4 c2 c6 ⟨K, kp, PE, rm⟩ _ from ⟨⟨HX7.out.I.S.set 2 (.slice a6 PE.length c6), HX7.out.I.f1.set 2 _, HX7.out.I.f2.set 2 _, HP6.out.set 2 _⟩, (heap_setCell_ne _ (by omega)).trans HX7.out.wb⟩)
            go_wp2
            refine hK6.out _ _ ⟨HX8.out.I.S.lo, HX8.out.wb⟩ (fun hS6 => ?_)
            refine wpAnyH_done (by kernel_rfl) ?_ _
            have HD := Lib.hid (HX8.out.I.S.done (dkC a4 a2 a6 c4 c2 c6 ⟨K, kp, PE, rm⟩))
            have HDN := Lib.hid (HX8.out.I.done ⟨hc4, HK.out.2.1, hc6⟩ ⟨.inr HA4.out, HAP.out.2.1, .inr HA6.out⟩)
            have HB := Lib.hid HX8.out.I.S.box; have HR := Lib.hid HX8.out.I.S.res
            have HO := Lib.hid (dkC_one a4 a2 a6 c4 c2 c6 ⟨K, kp, PE, rm⟩)
            have HI := Lib.hid (dkC_info a4 a2 a6 c4 c2 c6 ⟨K, kp, PE, rm⟩)
            have HZ := Lib.hid (show dkZ.size = (dkC a4 a2 a6 c4 c2 c6 ⟨K, kp, PE, rm⟩).size from rfl)
            obtain ⟨CS, hCS⟩ : ∃ C, dkC a4 a2 a6 c4 c2 c6 ⟨K, kp, PE, rm⟩ = C := ⟨_, rfl⟩
            rw [hCS] at HD HDN HB HO HI HZ
            clear hCS
            go_wp2_with (first
              | ((with_reducible refine atLoad (ty := 33) (x := .tmp 2) rfl ?_); refine wpList_load_row rfl 33 (.tmp 2) rfl w.heap.size rfl 33 CS (0, 0) _ HB.out Try.underlying33 rfl HI.out ?_)
              | ((with_reducible refine atStore (ty := 33) (x := .tmp 4) (y := .tmp 68) rfl ?_); refine wpList_store_row rfl 33 (.tmp 4) (.tmp 68) rfl (w.heap.size + 2) CS rfl rfl 33 _ HR.out HI.out HZ.out HO.out ?_))
            refine ret_cell_tmp rfl rfl rfl rfl HD.out.1 Try.underlying33 rfl HI.out ?_
            exact ⟨CS, rfl, HDN.out, HD.out.2⟩
          · skip
            refine wanted_go rfl ?_
            simp only [List.getElem_toArray, List.getElem_cons_zero, List.getElem_cons_succ]
            have HN0 := Lib.hid (show ((W6.drew.alloc (.cells #[] 49)).alloc (.cells #[.string name, .int .i64 pl, .string s] 49)).heap[W6.heap.size + 1]? = some (.cells #[.string name, .int .i64 pl, .string s] 49 (0, 0)) by have h := heap_alloc_new (W6.drew.alloc (.cells #[] 49)) (.cells #[.string name, .int .i64 pl, .string s] 49); rw [World.size_alloc] at h; exact h)
            have HB0 := Lib.hid (HB.out.alloc HB.out.size (.cells #[.string name, .int .i64 pl, .string s] 49))
            have HO0 := Lib.hid (HO.out.alloc (.cells #[.string name, .int .i64 pl, .string s] 49))
            clear HO; have HO := Lib.hid HO0.out; clear HO0
            clear HB; have HB := Lib.hid HB0.out; clear HB0
            have HN := Lib.hid HN0.out; clear HN0
            go_wp2
            refine hK3.out _ _ (HX6.out.wr HB.out) (fun hS3 => ?_)
            refine wpAnyH_ready (rs := [3]) (by kernel_rfl) (by simp) ?_
            refine AllReadyH.cons rfl (fun K4 hK4 => ?_) (AllReadyH.nil)
            refine wanted_go rfl ?_
            simp only [List.getElem_toArray, List.getElem_cons_zero, List.getElem_cons_succ]
            refine wp_append_pend _ _ rfl W6.heap.size hi hz0 hz1 hz2 (.slice (some ⟨W6.heap.size, 0, none⟩) 0 0) rfl HO.out a3 pe c3 rfl (HX6.out.below HB.out).I.f3.at (by omega) HB.out.size ?_
            intro v3 w3 ho3 hg3
            have HB0 := Lib.hid (HB.out.grown hg3 HB.out.size (own_block_ge HO.out))
            have HN0 := Lib.hid ((hg3.block _ (lt_of_blkD HN.out) (by simp [Value.ownBlock])).trans HN.out)
            clear HN; have HN := Lib.hid HN0.out; clear HN0
            clear HB; have HB := Lib.hid HB0.out; clear HB0
            clear HO; have HO := Lib.hid ho3; clear ho3 hg3
            refine hK4.out _ _ (HX6.out.wr HB.out) (fun hS4 => ?_)
            refine wpAnyH_ready (rs := [6]) (by kernel_rfl) (by simp) ?_
            refine AllReadyH.cons rfl (fun K5 hK5 => ?_) (AllReadyH.nil)
            refine wanted_go rfl ?_
            simp only [List.getElem_toArray, List.getElem_cons_zero, List.getElem_cons_succ]
            refine wp_append_own _ _ _ 31 rfl W6.heap.size 49 i0 (.agg #[.string ⟨#[]⟩, .int .i64 0, .string ⟨#[]⟩]) 3 40 Try.underlying31 hi hz0 hz1 hz2 rfl (by decide) _ _ _ rfl HO.out ⟨W6.heap.size + 1, 0, none⟩ 1 1 (wcells (name, n, s)) rfl rfl (cells_w HPN.out HN.out) (oneW1 _) (by unfold maxLen; omega) (by omega) HB.out.size ?_
            intro v6 w6 ho6 hg6 _
            have HB0 := Lib.hid (HB.out.grown hg6 HB.out.size (own_block_ge HO.out))
            obtain ⟨a6, c6, rfl, hc6, hp6, hb6⟩ := pend_own (l := PE) (by rw [HPL.out, HPF.out]; exact ho6)
            have HP6 := Lib.hid (pend_off hp6 hb6 (lt_of_blkD HX6.out.I.S.box) (lt_of_blkD HX6.out.I.S.res))
            have HA6 := Lib.hid (show AdrP P a6 from fun b hb => HPG.out b (Nat.le_trans HX6.out.I.S.lo.size (hb6 b hb)))
            clear HB; have HB := Lib.hid HB0.out; clear HB0 hp6 hb6 ho6 hg6 HN HO
            refine hK5.out _ _ (HX6.out.wr HB.out) (fun hS5 => ?_)
            refine wpAnyH_take (i := 7) (v := .pointer (some ⟨w.heap.size, 2, none⟩)) rfl (by kernel_rfl) (by kernel_rfl) (by kernel_rfl) (fun _ _ _ h => h) (Or.inl ⟨by simp [Region.wanted], fun W _ => by go_simp⟩) hS5 ?_
            simp only [List.getElem_toArray, List.getElem_cons_zero, List.getElem_cons_succ, Act.put, List.setIfInBounds_toArray, List.set_cons_zero, List.set_cons_succ]
            refine wpAnyH_ready (rs := [8]) (by kernel_rfl) (by simp) ?_
            refine AllReadyH.cons rfl (fun K6 hK6 => ?_) (AllReadyH.nil)
            refine wanted_go rfl ?_
            simp only [List.getElem_toArray, List.getElem_cons_zero, List.getElem_cons_succ]
            have HX7 := Lib.hid (HX6.out.below HB.out)
            have cl := HX7.out.I.S.cell 2 (.slice a3 pe.length c3) rfl
            have cf := HX7.out.I.S.free 2
            have HX8 := Lib.hid (show DkX w #[.string name, .int .i64 pl, .string s] a4 a2 a6 c4 c2 c6 ⟨K, kp, PE, rm⟩ _ from ⟨⟨HX7.out.I.S.set 2 (.slice a6 PE.length c6), HX7.out.I.f1.set 2 _, HX7.out.I.f2.set 2 _, HP6.out.set 2 _⟩, (heap_setCell_ne _ (by omega)).trans HX7.out.wb⟩)
            go_wp2
            refine hK6.out _ _ ⟨HX8.out.I.S.lo, HX8.out.wb⟩ (fun hS6 => ?_)
            refine wpAnyH_done (by kernel_rfl) ?_ _
            have HD := Lib.hid (HX8.out.I.S.done (dkC a4 a2 a6 c4 c2 c6 ⟨K, kp, PE, rm⟩))
            have HDN := Lib.hid (HX8.out.I.done ⟨hc4, HK.out.2.1, hc6⟩ ⟨.inr HA4.out, HAP.out.2.1, .inr HA6.out⟩)
            have HB := Lib.hid HX8.out.I.S.box; have HR := Lib.hid HX8.out.I.S.res
            have HO := Lib.hid (dkC_one a4 a2 a6 c4 c2 c6 ⟨K, kp, PE, rm⟩)
            have HI := Lib.hid (dkC_info a4 a2 a6 c4 c2 c6 ⟨K, kp, PE, rm⟩)
            have HZ := Lib.hid (show dkZ.size = (dkC a4 a2 a6 c4 c2 c6 ⟨K, kp, PE, rm⟩).size from rfl)
            obtain ⟨CS, hCS⟩ : ∃ C, dkC a4 a2 a6 c4 c2 c6 ⟨K, kp, PE, rm⟩ = C := ⟨_, rfl⟩
            rw [hCS] at HD HDN HB HO HI HZ
            clear hCS
            go_wp2_with (first
              | ((with_reducible refine atLoad (ty := 33) (x := .tmp 2) rfl ?_); refine wpList_load_row rfl 33 (.tmp 2) rfl w.heap.size rfl 33 CS (0, 0) _ HB.out Try.underlying33 rfl HI.out ?_)
              | ((with_reducible refine atStore (ty := 33) (x := .tmp 4) (y := .tmp 68) rfl ?_); refine wpList_store_row rfl 33 (.tmp 4) (.tmp 68) rfl (w.heap.size + 2) CS rfl rfl 33 _ HR.out HI.out HZ.out HO.out ?_))
            refine ret_cell_tmp rfl rfl rfl rfl HD.out.1 Try.underlying33 rfl HI.out ?_
            exact ⟨CS, rfl, HDN.out, HD.out.2⟩
        · skip
          refine wanted_go rfl ?_
          simp only [List.getElem_toArray, List.getElem_cons_zero, List.getElem_cons_succ]
          have HN0 := Lib.hid (show ((W6.drew.alloc (.cells #[] 49)).alloc (.cells #[.string name, .int .i64 pl, .string s] 49)).heap[W6.heap.size + 1]? = some (.cells #[.string name, .int .i64 pl, .string s] 49 (0, 0)) by have h := heap_alloc_new (W6.drew.alloc (.cells #[] 49)) (.cells #[.string name, .int .i64 pl, .string s] 49); rw [World.size_alloc] at h; exact h)
          have HB0 := Lib.hid (HB.out.alloc HB.out.size (.cells #[.string name, .int .i64 pl, .string s] 49))
          have HO0 := Lib.hid (HO.out.alloc (.cells #[.string name, .int .i64 pl, .string s] 49))
          clear HO; have HO := Lib.hid HO0.out; clear HO0
          clear HB; have HB := Lib.hid HB0.out; clear HB0
          have HN := Lib.hid HN0.out; clear HN0
          go_wp2
          refine hK2.out _ _ (HX6.out.wr HB.out) (fun hS2 => ?_)
          refine wpAnyH_ready (rs := [2]) (by kernel_rfl) (by simp) ?_
          refine AllReadyH.cons rfl (fun K3 hK3 => ?_) (AllReadyH.nil)
          refine wanted_go rfl ?_
          simp only [List.getElem_toArray, List.getElem_cons_zero, List.getElem_cons_succ]
          have cl := HX6.out.I.S.cell 2 (.slice a3 pe.length c3) rfl
          have cg := lt_of_blkD HX6.out.I.S.box
          go_wp2
          clear cl cg
          refine hK3.out _ _ (HX6.out.wr HB.out) (fun hS3 => ?_)
          refine wpAnyH_ready (rs := [3]) (by kernel_rfl) (by simp) ?_
          refine AllReadyH.cons rfl (fun K4 hK4 => ?_) (AllReadyH.nil)
          refine wanted_go rfl ?_
          simp only [List.getElem_toArray, List.getElem_cons_zero, List.getElem_cons_succ]
          refine wp_append_pend _ _ rfl W6.heap.size hi hz0 hz1 hz2 (.slice (some ⟨W6.heap.size, 0, none⟩) 0 0) rfl HO.out a3 pe c3 rfl (HX6.out.below HB.out).I.f3.at (by omega) HB.out.size ?_
          intro v3 w3 ho3 hg3
          have HB0 := Lib.hid (HB.out.grown hg3 HB.out.size (own_block_ge HO.out))
          have HN0 := Lib.hid ((hg3.block _ (lt_of_blkD HN.out) (by simp [Value.ownBlock])).trans HN.out)
          clear HN; have HN := Lib.hid HN0.out; clear HN0
          clear HB; have HB := Lib.hid HB0.out; clear HB0
          clear HO; have HO := Lib.hid ho3; clear ho3 hg3
          refine hK4.out _ _ (HX6.out.wr HB.out) (fun hS4 => ?_)
          refine wpAnyH_ready (rs := [6]) (by kernel_rfl) (by simp) ?_
          refine AllReadyH.cons rfl (fun K5 hK5 => ?_) (AllReadyH.nil)
          refine wanted_go rfl ?_
          simp only [List.getElem_toArray, List.getElem_cons_zero, List.getElem_cons_succ]
          refine wp_append_own _ _ _ 31 rfl W6.heap.size 49 i0 (.agg #[.string ⟨#[]⟩, .int .i64 0, .string ⟨#[]⟩]) 3 40 Try.underlying31 hi hz0 hz1 hz2 rfl (by decide) _ _ _ rfl HO.out ⟨W6.heap.size + 1, 0, none⟩ 1 1 (wcells (name, n, s)) rfl rfl (cells_w HPN.out HN.out) (oneW1 _) (by unfold maxLen; omega) (by omega) HB.out.size ?_
          intro v6 w6 ho6 hg6 _
          have HB0 := Lib.hid (HB.out.grown hg6 HB.out.size (own_block_ge HO.out))
          obtain ⟨a6, c6, rfl, hc6, hp6, hb6⟩ := pend_own (l := PE) (by rw [HPL.out, HPF.out]; exact ho6)
          have HP6 := Lib.hid (pend_off hp6 hb6 (lt_of_blkD HX6.out.I.S.box) (lt_of_blkD HX6.out.I.S.res))
          have HA6 := Lib.hid (show AdrP P a6 from fun b hb => HPG.out b (Nat.le_trans HX6.out.I.S.lo.size (hb6 b hb)))
          clear HB; have HB := Lib.hid HB0.out; clear HB0 hp6 hb6 ho6 hg6 HN HO
          refine hK5.out _ _ (HX6.out.wr HB.out) (fun hS5 => ?_)
          refine wpAnyH_take (i := 7) (v := .pointer (some ⟨w.heap.size, 2, none⟩)) rfl (by kernel_rfl) (by kernel_rfl) (by kernel_rfl) (fun _ _ _ h => h) (Or.inl ⟨by simp [Region.wanted], fun W _ => by go_simp⟩) hS5 ?_
          simp only [List.getElem_toArray, List.getElem_cons_zero, List.getElem_cons_succ, Act.put, List.setIfInBounds_toArray, List.set_cons_zero, List.set_cons_succ]
          refine wpAnyH_ready (rs := [8]) (by kernel_rfl) (by simp) ?_
          refine AllReadyH.cons rfl (fun K6 hK6 => ?_) (AllReadyH.nil)
          refine wanted_go rfl ?_
          simp only [List.getElem_toArray, List.getElem_cons_zero, List.getElem_cons_succ]
          have HX7 := Lib.hid (HX6.out.below HB.out)
          have cl := HX7.out.I.S.cell 2 (.slice a3 pe.length c3) rfl
          have cf := HX7.out.I.S.free 2
          have HX8 := Lib.hid (show DkX w #[.string name, .int .i64 pl, .string s] a4 a2 a6 c4 c2 c6 ⟨K, kp, PE, rm⟩ _ from ⟨⟨HX7.out.I.S.set 2 (.slice a6 PE.length c6), HX7.out.I.f1.set 2 _, HX7.out.I.f2.set 2 _, HP6.out.set 2 _⟩, (heap_setCell_ne _ (by omega)).trans HX7.out.wb⟩)
          go_wp2
          refine hK6.out _ _ ⟨HX8.out.I.S.lo, HX8.out.wb⟩ (fun hS6 => ?_)
          refine wpAnyH_done (by kernel_rfl) ?_ _
          have HD := Lib.hid (HX8.out.I.S.done (dkC a4 a2 a6 c4 c2 c6 ⟨K, kp, PE, rm⟩))
          have HDN := Lib.hid (HX8.out.I.done ⟨hc4, HK.out.2.1, hc6⟩ ⟨.inr HA4.out, HAP.out.2.1, .inr HA6.out⟩)
          have HB := Lib.hid HX8.out.I.S.box; have HR := Lib.hid HX8.out.I.S.res
          have HO := Lib.hid (dkC_one a4 a2 a6 c4 c2 c6 ⟨K, kp, PE, rm⟩)
          have HI := Lib.hid (dkC_info a4 a2 a6 c4 c2 c6 ⟨K, kp, PE, rm⟩)
          have HZ := Lib.hid (show dkZ.size = (dkC a4 a2 a6 c4 c2 c6 ⟨K, kp, PE, rm⟩).size from rfl)
          obtain ⟨CS, hCS⟩ : ∃ C, dkC a4 a2 a6 c4 c2 c6 ⟨K, kp, PE, rm⟩ = C := ⟨_, rfl⟩
          rw [hCS] at HD HDN HB HO HI HZ
          clear hCS
          go_wp2_with (first
            | ((with_reducible refine atLoad (ty := 33) (x := .tmp 2) rfl ?_); refine wpList_load_row rfl 33 (.tmp 2) rfl w.heap.size rfl 33 CS (0, 0) _ HB.out Try.underlying33 rfl HI.out ?_)
            | ((with_reducible refine atStore (ty := 33) (x := .tmp 4) (y := .tmp 68) rfl ?_); refine wpList_store_row rfl 33 (.tmp 4) (.tmp 68) rfl (w.heap.size + 2) CS rfl rfl 33 _ HR.out HI.out HZ.out HO.out ?_))
          refine ret_cell_tmp rfl rfl rfl rfl HD.out.1 Try.underlying33 rfl HI.out ?_
          exact ⟨CS, rfl, HDN.out, HD.out.2⟩
      · skip
        refine wanted_go rfl ?_
        simp only [List.getElem_toArray, List.getElem_cons_zero, List.getElem_cons_succ]
        have cl := HX6.out.I.S.cell 2 (.slice a3 pe.length c3) rfl
        have cg := lt_of_blkD HX6.out.I.S.box
        go_wp2
        clear cl cg
        refine hK1.out _ _ (HX6.out.wr HB.out) (fun hS1 => ?_)
        refine wpAnyH_ready (rs := [0, 5]) (by kernel_rfl) (by simp) ?_
        refine AllReadyH.cons rfl (fun K2 hK2 => ?_) (AllReadyH.cons rfl (fun K2 hK2 => ?_) (AllReadyH.nil))
        · skip
          refine wanted_go rfl ?_
          simp only [List.getElem_toArray, List.getElem_cons_zero]
          have HO2 := Lib.hid (show (W6.drew.alloc (.cells #[] 49)).ownsRow W6.heap.size 49 3 (.slice (some ⟨W6.heap.size, 0, none⟩) 0 0) 0 [] from own_none W6.drew W6.heap.size HB.out.size)
          have HB0 := Lib.hid (HB.out.alloc HB.out.size (.cells #[] 49))
          clear HB; have HB := Lib.hid HB0.out; clear HB0
          have HO := Lib.hid HO2.out; clear HO2
          go_wp2
          refine hK2.out _ _ (HX6.out.wr HB.out) (fun hS2 => ?_)
          refine wpAnyH_ready (rs := [3, 5]) (by kernel_rfl) (by simp) ?_
          refine AllReadyH.cons rfl (fun K3 hK3 => ?_) (AllReadyH.cons rfl (fun K3 hK3 => ?_) (AllReadyH.nil))
          · skip
            refine wanted_go rfl ?_
            simp only [List.getElem_toArray, List.getElem_cons_zero, List.getElem_cons_succ]
            refine wp_append_pend _ _ rfl W6.heap.size hi hz0 hz1 hz2 (.slice (some ⟨W6.heap.size, 0, none⟩) 0 0) rfl HO.out a3 pe c3 rfl (HX6.out.below HB.out).I.f3.at (by omega) HB.out.size ?_
            intro v3 w3 ho3 hg3
            have HB0 := Lib.hid (HB.out.grown hg3 HB.out.size (own_block_ge HO.out))
            clear HB; have HB := Lib.hid HB0.out; clear HB0
            clear HO; have HO := Lib.hid ho3; clear ho3 hg3
            refine hK3.out _ _ (HX6.out.wr HB.out) (fun hS3 => ?_)
            refine wpAnyH_ready (rs := [5]) (by kernel_rfl) (by simp) ?_
            refine AllReadyH.cons rfl (fun K4 hK4 => ?_) (AllReadyH.nil)
            refine wanted_go rfl ?_
            simp only [List.getElem_toArray, List.getElem_cons_zero, List.getElem_cons_succ]
            have HN0 := Lib.hid (show (w3.alloc (.cells #[.string name, .int .i64 pl, .string s] 49)).heap[w3.heap.size]? = some (.cells #[.string name, .int .i64 pl, .string s] 49 (0, 0)) from heap_alloc_new w3 _)
            have HB0 := Lib.hid (HB.out.alloc HB.out.size (.cells #[.string name, .int .i64 pl, .string s] 49))
            have HO0 := Lib.hid (HO.out.alloc (.cells #[.string name, .int .i64 pl, .string s] 49))
            clear HO; have HO := Lib.hid HO0.out; clear HO0
            clear HB; have HB := Lib.hid HB0.out; clear HB0
            have HN := Lib.hid HN0.out; clear HN0
            go_wp2
            refine hK4.out _ _ (HX6.out.wr HB.out) (fun hS4 => ?_)
            refine wpAnyH_ready (rs := [6]) (by kernel_rfl) (by simp) ?_
            refine AllReadyH.cons rfl (fun K5 hK5 => ?_) (AllReadyH.nil)
            refine wanted_go rfl ?_
            simp only [List.getElem_toArray, List.getElem_cons_zero, List.getElem_cons_succ]
            refine wp_append_own _ _ _ 31 rfl W6.heap.size 49 i0 (.agg #[.string ⟨#[]⟩, .int .i64 0, .string ⟨#[]⟩]) 3 40 Try.underlying31 hi hz0 hz1 hz2 rfl (by decide) _ _ _ rfl HO.out ⟨w3.heap.size, 0, none⟩ 1 1 (wcells (name, n, s)) rfl rfl (cells_w HPN.out HN.out) (oneW1 _) (by unfold maxLen; omega) (by omega) HB.out.size ?_
            intro v6 w6 ho6 hg6 _
            have HB0 := Lib.hid (HB.out.grown hg6 HB.out.size (own_block_ge HO.out))
            obtain ⟨a6, c6, rfl, hc6, hp6, hb6⟩ := pend_own (l := PE) (by rw [HPL.out, HPF.out]; exact ho6)
            have HP6 := Lib.hid (pend_off hp6 hb6 (lt_of_blkD HX6.out.I.S.box) (lt_of_blkD HX6.out.I.S.res))
            have HA6 := Lib.hid (show AdrP P a6 from fun b hb => HPG.out b (Nat.le_trans HX6.out.I.S.lo.size (hb6 b hb)))
            clear HB; have HB := Lib.hid HB0.out; clear HB0 hp6 hb6 ho6 hg6 HN HO
            refine hK5.out _ _ (HX6.out.wr HB.out) (fun hS5 => ?_)
            refine wpAnyH_take (i := 7) (v := .pointer (some ⟨w.heap.size, 2, none⟩)) rfl (by kernel_rfl) (by kernel_rfl) (by kernel_rfl) (fun _ _ _ h => h) (Or.inl ⟨by simp [Region.wanted], fun W _ => by go_simp⟩) hS5 ?_
            simp only [List.getElem_toArray, List.getElem_cons_zero, List.getElem_cons_succ, Act.put, List.setIfInBounds_toArray, List.set_cons_zero, List.set_cons_succ]
            refine wpAnyH_ready (rs := [8]) (by kernel_rfl) (by simp) ?_
            refine AllReadyH.cons rfl (fun K6 hK6 => ?_) (AllReadyH.nil)
            refine wanted_go rfl ?_
            simp only [List.getElem_toArray, List.getElem_cons_zero, List.getElem_cons_succ]
            have HX7 := Lib.hid (HX6.out.below HB.out)
            have cl := HX7.out.I.S.cell 2 (.slice a3 pe.length c3) rfl
            have cf := HX7.out.I.S.free 2
            have HX8 := Lib.hid (show DkX w #[.string name, .int .i64 pl, .string s] a4 a2 a6 c4 c2 c6 ⟨K, kp, PE, rm⟩ _ from ⟨⟨HX7.out.I.S.set 2 (.slice a6 PE.length c6), HX7.out.I.f1.set 2 _, HX7.out.I.f2.set 2 _, HP6.out.set 2 _⟩, (heap_setCell_ne _ (by omega)).trans HX7.out.wb⟩)
            go_wp2
            refine hK6.out _ _ ⟨HX8.out.I.S.lo, HX8.out.wb⟩ (fun hS6 => ?_)
            refine wpAnyH_done (by kernel_rfl) ?_ _
            have HD := Lib.hid (HX8.out.I.S.done (dkC a4 a2 a6 c4 c2 c6 ⟨K, kp, PE, rm⟩))
            have HDN := Lib.hid (HX8.out.I.done ⟨hc4, HK.out.2.1, hc6⟩ ⟨.inr HA4.out, HAP.out.2.1, .inr HA6.out⟩)
            have HB := Lib.hid HX8.out.I.S.box; have HR := Lib.hid HX8.out.I.S.res
            have HO := Lib.hid (dkC_one a4 a2 a6 c4 c2 c6 ⟨K, kp, PE, rm⟩)
            have HI := Lib.hid (dkC_info a4 a2 a6 c4 c2 c6 ⟨K, kp, PE, rm⟩)
            have HZ := Lib.hid (show dkZ.size = (dkC a4 a2 a6 c4 c2 c6 ⟨K, kp, PE, rm⟩).size from rfl)
            obtain ⟨CS, hCS⟩ : ∃ C, dkC a4 a2 a6 c4 c2 c6 ⟨K, kp, PE, rm⟩ = C := ⟨_, rfl⟩
            rw [hCS] at HD HDN HB HO HI HZ
            clear hCS
            go_wp2_with (first
              | ((with_reducible refine atLoad (ty := 33) (x := .tmp 2) rfl ?_); refine wpList_load_row rfl 33 (.tmp 2) rfl w.heap.size rfl 33 CS (0, 0) _ HB.out Try.underlying33 rfl HI.out ?_)
              | ((with_reducible refine atStore (ty := 33) (x := .tmp 4) (y := .tmp 68) rfl ?_); refine wpList_store_row rfl 33 (.tmp 4) (.tmp 68) rfl (w.heap.size + 2) CS rfl rfl 33 _ HR.out HI.out HZ.out HO.out ?_))
            refine ret_cell_tmp rfl rfl rfl rfl HD.out.1 Try.underlying33 rfl HI.out ?_
            exact ⟨CS, rfl, HDN.out, HD.out.2⟩
          · skip
            refine wanted_go rfl ?_
            simp only [List.getElem_toArray, List.getElem_cons_zero, List.getElem_cons_succ]
            have HN0 := Lib.hid (show ((W6.drew.alloc (.cells #[] 49)).alloc (.cells #[.string name, .int .i64 pl, .string s] 49)).heap[W6.heap.size + 1]? = some (.cells #[.string name, .int .i64 pl, .string s] 49 (0, 0)) by have h := heap_alloc_new (W6.drew.alloc (.cells #[] 49)) (.cells #[.string name, .int .i64 pl, .string s] 49); rw [World.size_alloc] at h; exact h)
            have HB0 := Lib.hid (HB.out.alloc HB.out.size (.cells #[.string name, .int .i64 pl, .string s] 49))
            have HO0 := Lib.hid (HO.out.alloc (.cells #[.string name, .int .i64 pl, .string s] 49))
            clear HO; have HO := Lib.hid HO0.out; clear HO0
            clear HB; have HB := Lib.hid HB0.out; clear HB0
            have HN := Lib.hid HN0.out; clear HN0
            go_wp2
            refine hK3.out _ _ (HX6.out.wr HB.out) (fun hS3 => ?_)
            refine wpAnyH_ready (rs := [3]) (by kernel_rfl) (by simp) ?_
            refine AllReadyH.cons rfl (fun K4 hK4 => ?_) (AllReadyH.nil)
            refine wanted_go rfl ?_
            simp only [List.getElem_toArray, List.getElem_cons_zero, List.getElem_cons_succ]
            refine wp_append_pend _ _ rfl W6.heap.size hi hz0 hz1 hz2 (.slice (some ⟨W6.heap.size, 0, none⟩) 0 0) rfl HO.out a3 pe c3 rfl (HX6.out.below HB.out).I.f3.at (by omega) HB.out.size ?_
            intro v3 w3 ho3 hg3
            have HB0 := Lib.hid (HB.out.grown hg3 HB.out.size (own_block_ge HO.out))
            have HN0 := Lib.hid ((hg3.block _ (lt_of_blkD HN.out) (by simp [Value.ownBlock])).trans HN.out)
            clear HN; have HN := Lib.hid HN0.out; clear HN0
            clear HB; have HB := Lib.hid HB0.out; clear HB0
            clear HO; have HO := Lib.hid ho3; clear ho3 hg3
            refine hK4.out _ _ (HX6.out.wr HB.out) (fun hS4 => ?_)
            refine wpAnyH_ready (rs := [6]) (by kernel_rfl) (by simp) ?_
            refine AllReadyH.cons rfl (fun K5 hK5 => ?_) (AllReadyH.nil)
            refine wanted_go rfl ?_
            simp only [List.getElem_toArray, List.getElem_cons_zero, List.getElem_cons_succ]
            refine wp_append_own _ _ _ 31 rfl W6.heap.size 49 i0 (.agg #[.string ⟨#[]⟩, .int .i64 0, .string ⟨#[]⟩]) 3 40 Try.underlying31 hi hz0 hz1 hz2 rfl (by decide) _ _ _ rfl HO.out ⟨W6.heap.size + 1, 0, none⟩ 1 1 (wcells (name, n, s)) rfl rfl (cells_w HPN.out HN.out) (oneW1 _) (by unfold maxLen; omega) (by omega) HB.out.size ?_
            intro v6 w6 ho6 hg6 _
            have HB0 := Lib.hid (HB.out.grown hg6 HB.out.size (own_block_ge HO.out))
            obtain ⟨a6, c6, rfl, hc6, hp6, hb6⟩ := pend_own (l := PE) (by rw [HPL.out, HPF.out]; exact ho6)
            have HP6 := Lib.hid (pend_off hp6 hb6 (lt_of_blkD HX6.out.I.S.box) (lt_of_blkD HX6.out.I.S.res))
            have HA6 := Lib.hid (show AdrP P a6 from fun b hb => HPG.out b (Nat.le_trans HX6.out.I.S.lo.size (hb6 b hb)))
            clear HB; have HB := Lib.hid HB0.out; clear HB0 hp6 hb6 ho6 hg6 HN HO
            refine hK5.out _ _ (HX6.out.wr HB.out) (fun hS5 => ?_)
            refine wpAnyH_take (i := 7) (v := .pointer (some ⟨w.heap.size, 2, none⟩)) rfl (by kernel_rfl) (by kernel_rfl) (by kernel_rfl) (fun _ _ _ h => h) (Or.inl ⟨by simp [Region.wanted], fun W _ => by go_simp⟩) hS5 ?_
            simp only [List.getElem_toArray, List.getElem_cons_zero, List.getElem_cons_succ, Act.put, List.setIfInBounds_toArray, List.set_cons_zero, List.set_cons_succ]
            refine wpAnyH_ready (rs := [8]) (by kernel_rfl) (by simp) ?_
            refine AllReadyH.cons rfl (fun K6 hK6 => ?_) (AllReadyH.nil)
            refine wanted_go rfl ?_
            simp only [List.getElem_toArray, List.getElem_cons_zero, List.getElem_cons_succ]
            have HX7 := Lib.hid (HX6.out.below HB.out)
            have cl := HX7.out.I.S.cell 2 (.slice a3 pe.length c3) rfl
            have cf := HX7.out.I.S.free 2
            have HX8 := Lib.hid (show DkX w #[.string name, .int .i64 pl, .string s] a4 a2 a6 c4 c2 c6 ⟨K, kp, PE, rm⟩ _ from ⟨⟨HX7.out.I.S.set 2 (.slice a6 PE.length c6), HX7.out.I.f1.set 2 _, HX7.out.I.f2.set 2 _, HP6.out.set 2 _⟩, (heap_setCell_ne _ (by omega)).trans HX7.out.wb⟩)
            go_wp2
            refine hK6.out _ _ ⟨HX8.out.I.S.lo, HX8.out.wb⟩ (fun hS6 => ?_)
            refine wpAnyH_done (by kernel_rfl) ?_ _
            have HD := Lib.hid (HX8.out.I.S.done (dkC a4 a2 a6 c4 c2 c6 ⟨K, kp, PE, rm⟩))
            have HDN := Lib.hid (HX8.out.I.done ⟨hc4, HK.out.2.1, hc6⟩ ⟨.inr HA4.out, HAP.out.2.1, .inr HA6.out⟩)
            have HB := Lib.hid HX8.out.I.S.box; have HR := Lib.hid HX8.out.I.S.res
            have HO := Lib.hid (dkC_one a4 a2 a6 c4 c2 c6 ⟨K, kp, PE, rm⟩)
            have HI := Lib.hid (dkC_info a4 a2 a6 c4 c2 c6 ⟨K, kp, PE, rm⟩)
            have HZ := Lib.hid (show dkZ.size = (dkC a4 a2 a6 c4 c2 c6 ⟨K, kp, PE, rm⟩).size from rfl)
            obtain ⟨CS, hCS⟩ : ∃ C, dkC a4 a2 a6 c4 c2 c6 ⟨K, kp, PE, rm⟩ = C := ⟨_, rfl⟩
            rw [hCS] at HD HDN HB HO HI HZ
            clear hCS
            go_wp2_with (first
              | ((with_reducible refine atLoad (ty := 33) (x := .tmp 2) rfl ?_); refine wpList_load_row rfl 33 (.tmp 2) rfl w.heap.size rfl 33 CS (0, 0) _ HB.out Try.underlying33 rfl HI.out ?_)
              | ((with_reducible refine atStore (ty := 33) (x := .tmp 4) (y := .tmp 68) rfl ?_); refine wpList_store_row rfl 33 (.tmp 4) (.tmp 68) rfl (w.heap.size + 2) CS rfl rfl 33 _ HR.out HI.out HZ.out HO.out ?_))
            refine ret_cell_tmp rfl rfl rfl rfl HD.out.1 Try.underlying33 rfl HI.out ?_
            exact ⟨CS, rfl, HDN.out, HD.out.2⟩
        · skip
          refine wanted_go rfl ?_
          simp only [List.getElem_toArray, List.getElem_cons_zero, List.getElem_cons_succ]
          have HN0 := Lib.hid (show (W6.drew.alloc (.cells #[.string name, .int .i64 pl, .string s] 49)).heap[W6.heap.size]? = some (.cells #[.string name, .int .i64 pl, .string s] 49 (0, 0)) from heap_alloc_new W6.drew _)
          have HB0 := Lib.hid (HB.out.alloc HB.out.size (.cells #[.string name, .int .i64 pl, .string s] 49))
          clear HB; have HB := Lib.hid HB0.out; clear HB0
          have HN := Lib.hid HN0.out; clear HN0
          go_wp2
          refine hK2.out _ _ (HX6.out.wr HB.out) (fun hS2 => ?_)
          refine wpAnyH_ready (rs := [0]) (by kernel_rfl) (by simp) ?_
          refine AllReadyH.cons rfl (fun K3 hK3 => ?_) (AllReadyH.nil)
          refine wanted_go rfl ?_
          simp only [List.getElem_toArray, List.getElem_cons_zero]
          have HO3 := Lib.hid (show ((W6.drew.alloc (.cells #[.string name, .int .i64 pl, .string s] 49)).alloc (.cells #[] 49)).ownsRow W6.heap.size 49 3 (.slice (some ⟨W6.heap.size + 1, 0, none⟩) 0 0) 0 [] by have h := own_none (W6.drew.alloc (.cells #[.string name, .int .i64 pl, .string s] 49)) W6.heap.size HB.out.size; rw [World.size_alloc] at h; exact h)
          have HB0 := Lib.hid (HB.out.alloc HB.out.size (.cells #[] 49))
          have HN0 := Lib.hid ((Below.heap_alloc (W6.drew.alloc (.cells #[.string name, .int .i64 pl, .string s] 49)) (.cells #[] 49) _ (lt_of_blkD HN.out)).trans HN.out)
          clear HN; have HN := Lib.hid HN0.out; clear HN0
          clear HB; have HB := Lib.hid HB0.out; clear HB0
          have HO := Lib.hid HO3.out; clear HO3
          go_wp2
          refine hK3.out _ _ (HX6.out.wr HB.out) (fun hS3 => ?_)
          refine wpAnyH_ready (rs := [3]) (by kernel_rfl) (by simp) ?_
          refine AllReadyH.cons rfl (fun K4 hK4 => ?_) (AllReadyH.nil)
          refine wanted_go rfl ?_
          simp only [List.getElem_toArray, List.getElem_cons_zero, List.getElem_cons_succ]
          refine wp_append_pend _ _ rfl W6.heap.size hi hz0 hz1 hz2 (.slice (some ⟨W6.heap.size + 1, 0, none⟩) 0 0) rfl HO.out a3 pe c3 rfl (HX6.out.below HB.out).I.f3.at (by omega) HB.out.size ?_
          intro v3 w3 ho3 hg3
          have HB0 := Lib.hid (HB.out.grown hg3 HB.out.size (own_block_ge HO.out))
          have HN0 := Lib.hid ((hg3.block _ (lt_of_blkD HN.out) (by simp [Value.ownBlock])).trans HN.out)
          clear HN; have HN := Lib.hid HN0.out; clear HN0
          clear HB; have HB := Lib.hid HB0.out; clear HB0
          clear HO; have HO := Lib.hid ho3; clear ho3 hg3
          refine hK4.out _ _ (HX6.out.wr HB.out) (fun hS4 => ?_)
          refine wpAnyH_ready (rs := [6]) (by kernel_rfl) (by simp) ?_
          refine AllReadyH.cons rfl (fun K5 hK5 => ?_) (AllReadyH.nil)
          refine wanted_go rfl ?_
          simp only [List.getElem_toArray, List.getElem_cons_zero, List.getElem_cons_succ]
          refine wp_append_own _ _ _ 31 rfl W6.heap.size 49 i0 (.agg #[.string ⟨#[]⟩, .int .i64 0, .string ⟨#[]⟩]) 3 40 Try.underlying31 hi hz0 hz1 hz2 rfl (by decide) _ _ _ rfl HO.out ⟨W6.heap.size, 0, none⟩ 1 1 (wcells (name, n, s)) rfl rfl (cells_w HPN.out HN.out) (oneW1 _) (by unfold maxLen; omega) (by omega) HB.out.size ?_
          intro v6 w6 ho6 hg6 _
          have HB0 := Lib.hid (HB.out.grown hg6 HB.out.size (own_block_ge HO.out))
          obtain ⟨a6, c6, rfl, hc6, hp6, hb6⟩ := pend_own (l := PE) (by rw [HPL.out, HPF.out]; exact ho6)
          have HP6 := Lib.hid (pend_off hp6 hb6 (lt_of_blkD HX6.out.I.S.box) (lt_of_blkD HX6.out.I.S.res))
          have HA6 := Lib.hid (show AdrP P a6 from fun b hb => HPG.out b (Nat.le_trans HX6.out.I.S.lo.size (hb6 b hb)))
          clear HB; have HB := Lib.hid HB0.out; clear HB0 hp6 hb6 ho6 hg6 HN HO
          refine hK5.out _ _ (HX6.out.wr HB.out) (fun hS5 => ?_)
          refine wpAnyH_take (i := 7) (v := .pointer (some ⟨w.heap.size, 2, none⟩)) rfl (by kernel_rfl) (by kernel_rfl) (by kernel_rfl) (fun _ _ _ h => h) (Or.inl ⟨by simp [Region.wanted], fun W _ => by go_simp⟩) hS5 ?_
          simp only [List.getElem_toArray, List.getElem_cons_zero, List.getElem_cons_succ, Act.put, List.setIfInBounds_toArray, List.set_cons_zero, List.set_cons_succ]
          refine wpAnyH_ready (rs := [8]) (by kernel_rfl) (by simp) ?_
          refine AllReadyH.cons rfl (fun K6 hK6 => ?_) (AllReadyH.nil)
          refine wanted_go rfl ?_
          simp only [List.getElem_toArray, List.getElem_cons_zero, List.getElem_cons_succ]
          have HX7 := Lib.hid (HX6.out.below HB.out)
          have cl := HX7.out.I.S.cell 2 (.slice a3 pe.length c3) rfl
          have cf := HX7.out.I.S.free 2
          have HX8 := Lib.hid (show DkX w #[.string name, .int .i64 pl, .string s] a4 a2 a6 c4 c2 c6 ⟨K, kp, PE, rm⟩ _ from ⟨⟨HX7.out.I.S.set 2 (.slice a6 PE.length c6), HX7.out.I.f1.set 2 _, HX7.out.I.f2.set 2 _, HP6.out.set 2 _⟩, (heap_setCell_ne _ (by omega)).trans HX7.out.wb⟩)
          go_wp2
          refine hK6.out _ _ ⟨HX8.out.I.S.lo, HX8.out.wb⟩ (fun hS6 => ?_)
          refine wpAnyH_done (by kernel_rfl) ?_ _
          have HD := Lib.hid (HX8.out.I.S.done (dkC a4 a2 a6 c4 c2 c6 ⟨K, kp, PE, rm⟩))
          have HDN := Lib.hid (HX8.out.I.done ⟨hc4, HK.out.2.1, hc6⟩ ⟨.inr HA4.out, HAP.out.2.1, .inr HA6.out⟩)
          have HB := Lib.hid HX8.out.I.S.box; have HR := Lib.hid HX8.out.I.S.res
          have HO := Lib.hid (dkC_one a4 a2 a6 c4 c2 c6 ⟨K, kp, PE, rm⟩)
          have HI := Lib.hid (dkC_info a4 a2 a6 c4 c2 c6 ⟨K, kp, PE, rm⟩)
          have HZ := Lib.hid (show dkZ.size = (dkC a4 a2 a6 c4 c2 c6 ⟨K, kp, PE, rm⟩).size from rfl)
          obtain ⟨CS, hCS⟩ : ∃ C, dkC a4 a2 a6 c4 c2 c6 ⟨K, kp, PE, rm⟩ = C := ⟨_, rfl⟩
          rw [hCS] at HD HDN HB HO HI HZ
          clear hCS
          go_wp2_with (first
            | ((with_reducible refine atLoad (ty := 33) (x := .tmp 2) rfl ?_); refine wpList_load_row rfl 33 (.tmp 2) rfl w.heap.size rfl 33 CS (0, 0) _ HB.out Try.underlying33 rfl HI.out ?_)
            | ((with_reducible refine atStore (ty := 33) (x := .tmp 4) (y := .tmp 68) rfl ?_); refine wpList_store_row rfl 33 (.tmp 4) (.tmp 68) rfl (w.heap.size + 2) CS rfl rfl 33 _ HR.out HI.out HZ.out HO.out ?_))
          refine ret_cell_tmp rfl rfl rfl rfl HD.out.1 Try.underlying33 rfl HI.out ?_
          exact ⟨CS, rfl, HDN.out, HD.out.2⟩
      · skip
        refine wanted_go rfl ?_
        simp only [List.getElem_toArray, List.getElem_cons_zero, List.getElem_cons_succ]
        have HN0 := Lib.hid (show (W6.drew.alloc (.cells #[.string name, .int .i64 pl, .string s] 49)).heap[W6.heap.size]? = some (.cells #[.string name, .int .i64 pl, .string s] 49 (0, 0)) from heap_alloc_new W6.drew _)
        have HB0 := Lib.hid (HB.out.alloc HB.out.size (.cells #[.string name, .int .i64 pl, .string s] 49))
        clear HB; have HB := Lib.hid HB0.out; clear HB0
        have HN := Lib.hid HN0.out; clear HN0
        go_wp2
        refine hK1.out _ _ (HX6.out.wr HB.out) (fun hS1 => ?_)
        refine wpAnyH_ready (rs := [0, 2]) (by kernel_rfl) (by simp) ?_
        refine AllReadyH.cons rfl (fun K2 hK2 => ?_) (AllReadyH.cons rfl (fun K2 hK2 => ?_) (AllReadyH.nil))
        · skip
          refine wanted_go rfl ?_
          simp only [List.getElem_toArray, List.getElem_cons_zero]
          have HO2 := Lib.hid (show ((W6.drew.alloc (.cells #[.string name, .int .i64 pl, .string s] 49)).alloc (.cells #[] 49)).ownsRow W6.heap.size 49 3 (.slice (some ⟨W6.heap.size + 1, 0, none⟩) 0 0) 0 [] by have h := own_none (W6.drew.alloc (.cells #[.string name, .int .i64 pl, .string s] 49)) W6.heap.size HB.out.size; rw [World.size_alloc] at h; exact h)
          have HB0 := Lib.hid (HB.out.alloc HB.out.size (.cells #[] 49))
          have HN0 := Lib.hid ((Below.heap_alloc (W6.drew.alloc (.cells #[.string name, .int .i64 pl, .string s] 49)) (.cells #[] 49) _ (lt_of_blkD HN.out)).trans HN.out)
          clear HN; have HN := Lib.hid HN0.out; clear HN0
          clear HB; have HB := Lib.hid HB0.out; clear HB0
          have HO := Lib.hid HO2.out; clear HO2
          go_wp2
          refine hK2.out _ _ (HX6.out.wr HB.out) (fun hS2 => ?_)
          refine wpAnyH_ready (rs := [2]) (by kernel_rfl) (by simp) ?_
          refine AllReadyH.cons rfl (fun K3 hK3 => ?_) (AllReadyH.nil)
          refine wanted_go rfl ?_
          simp only [List.getElem_toArray, List.getElem_cons_zero, List.getElem_cons_succ]
          have cl := HX6.out.I.S.cell 2 (.slice a3 pe.length c3) rfl
          have cg := lt_of_blkD HX6.out.I.S.box
          go_wp2
          clear cl cg
          refine hK3.out _ _ (HX6.out.wr HB.out) (fun hS3 => ?_)
          refine wpAnyH_ready (rs := [3]) (by kernel_rfl) (by simp) ?_
          refine AllReadyH.cons rfl (fun K4 hK4 => ?_) (AllReadyH.nil)
          refine wanted_go rfl ?_
          simp only [List.getElem_toArray, List.getElem_cons_zero, List.getElem_cons_succ]
          refine wp_append_pend _ _ rfl W6.heap.size hi hz0 hz1 hz2 (.slice (some ⟨W6.heap.size + 1, 0, none⟩) 0 0) rfl HO.out a3 pe c3 rfl (HX6.out.below HB.out).I.f3.at (by omega) HB.out.size ?_
          intro v3 w3 ho3 hg3
          have HB0 := Lib.hid (HB.out.grown hg3 HB.out.size (own_block_ge HO.out))
          have HN0 := Lib.hid ((hg3.block _ (lt_of_blkD HN.out) (by simp [Value.ownBlock])).trans HN.out)
          clear HN; have HN := Lib.hid HN0.out; clear HN0
          clear HB; have HB := Lib.hid HB0.out; clear HB0
          clear HO; have HO := Lib.hid ho3; clear ho3 hg3
          refine hK4.out _ _ (HX6.out.wr HB.out) (fun hS4 => ?_)
          refine wpAnyH_ready (rs := [6]) (by kernel_rfl) (by simp) ?_
          refine AllReadyH.cons rfl (fun K5 hK5 => ?_) (AllReadyH.nil)
          refine wanted_go rfl ?_
          simp only [List.getElem_toArray, List.getElem_cons_zero, List.getElem_cons_succ]
          refine wp_append_own _ _ _ 31 rfl W6.heap.size 49 i0 (.agg #[.string ⟨#[]⟩, .int .i64 0, .string ⟨#[]⟩]) 3 40 Try.underlying31 hi hz0 hz1 hz2 rfl (by decide) _ _ _ rfl HO.out ⟨W6.heap.size, 0, none⟩ 1 1 (wcells (name, n, s)) rfl rfl (cells_w HPN.out HN.out) (oneW1 _) (by unfold maxLen; omega) (by omega) HB.out.size ?_
          intro v6 w6 ho6 hg6 _
          have HB0 := Lib.hid (HB.out.grown hg6 HB.out.size (own_block_ge HO.out))
          obtain ⟨a6, c6, rfl, hc6, hp6, hb6⟩ := pend_own (l := PE) (by rw [HPL.out, HPF.out]; exact ho6)
          have HP6 := Lib.hid (pend_off hp6 hb6 (lt_of_blkD HX6.out.I.S.box) (lt_of_blkD HX6.out.I.S.res))
          have HA6 := Lib.hid (show AdrP P a6 from fun b hb => HPG.out b (Nat.le_trans HX6.out.I.S.lo.size (hb6 b hb)))
          clear HB; have HB := Lib.hid HB0.out; clear HB0 hp6 hb6 ho6 hg6 HN HO
          refine hK5.out _ _ (HX6.out.wr HB.out) (fun hS5 => ?_)
          refine wpAnyH_take (i := 7) (v := .pointer (some ⟨w.heap.size, 2, none⟩)) rfl (by kernel_rfl) (by kernel_rfl) (by kernel_rfl) (fun _ _ _ h => h) (Or.inl ⟨by simp [Region.wanted], fun W _ => by go_simp⟩) hS5 ?_
          simp only [List.getElem_toArray, List.getElem_cons_zero, List.getElem_cons_succ, Act.put, List.setIfInBounds_toArray, List.set_cons_zero, List.set_cons_succ]
          refine wpAnyH_ready (rs := [8]) (by kernel_rfl) (by simp) ?_
          refine AllReadyH.cons rfl (fun K6 hK6 => ?_) (AllReadyH.nil)
          refine wanted_go rfl ?_
          simp only [List.getElem_toArray, List.getElem_cons_zero, List.getElem_cons_succ]
          have HX7 := Lib.hid (HX6.out.below HB.out)
          have cl := HX7.out.I.S.cell 2 (.slice a3 pe.length c3) rfl
          have cf := HX7.out.I.S.free 2
          have HX8 := Lib.hid (show DkX w #[.string name, .int .i64 pl, .string s] a4 a2 a6 c4 c2 c6 ⟨K, kp, PE, rm⟩ _ from ⟨⟨HX7.out.I.S.set 2 (.slice a6 PE.length c6), HX7.out.I.f1.set 2 _, HX7.out.I.f2.set 2 _, HP6.out.set 2 _⟩, (heap_setCell_ne _ (by omega)).trans HX7.out.wb⟩)
          go_wp2
          refine hK6.out _ _ ⟨HX8.out.I.S.lo, HX8.out.wb⟩ (fun hS6 => ?_)
          refine wpAnyH_done (by kernel_rfl) ?_ _
          have HD := Lib.hid (HX8.out.I.S.done (dkC a4 a2 a6 c4 c2 c6 ⟨K, kp, PE, rm⟩))
          have HDN := Lib.hid (HX8.out.I.done ⟨hc4, HK.out.2.1, hc6⟩ ⟨.inr HA4.out, HAP.out.2.1, .inr HA6.out⟩)
          have HB := Lib.hid HX8.out.I.S.box; have HR := Lib.hid HX8.out.I.S.res
          have HO := Lib.hid (dkC_one a4 a2 a6 c4 c2 c6 ⟨K, kp, PE, rm⟩)
          have HI := Lib.hid (dkC_info a4 a2 a6 c4 c2 c6 ⟨K, kp, PE, rm⟩)
          have HZ := Lib.hid (show dkZ.size = (dkC a4 a2 a6 c4 c2 c6 ⟨K, kp, PE, rm⟩).size from rfl)
          obtain ⟨CS, hCS⟩ : ∃ C, dkC a4 a2 a6 c4 c2 c6 ⟨K, kp, PE, rm⟩ = C := ⟨_, rfl⟩
          rw [hCS] at HD HDN HB HO HI HZ
          clear hCS
          go_wp2_with (first
            | ((with_reducible refine atLoad (ty := 33) (x := .tmp 2) rfl ?_); refine wpList_load_row rfl 33 (.tmp 2) rfl w.heap.size rfl 33 CS (0, 0) _ HB.out Try.underlying33 rfl HI.out ?_)
            | ((with_reducible refine atStore (ty := 33) (x := .tmp 4) (y := .tmp 68) rfl ?_); refine wpList_store_row rfl 33 (.tmp 4) (.tmp 68) rfl (w.heap.size + 2) CS rfl rfl 33 _ HR.out HI.out HZ.out HO.out ?_))
          refine ret_cell_tmp rfl rfl rfl rfl HD.out.1 Try.underlying33 rfl HI.out ?_
          exact ⟨CS, rfl, HDN.out, HD.out.2⟩
        · skip
          refine wanted_go rfl ?_
          simp only [List.getElem_toArray, List.getElem_cons_zero, List.getElem_cons_succ]
          have cl := HX6.out.I.S.cell 2 (.slice a3 pe.length c3) rfl
          have cg := lt_of_blkD HX6.out.I.S.box
          go_wp2
          clear cl cg
          refine hK2.out _ _ (HX6.out.wr HB.out) (fun hS2 => ?_)
          refine wpAnyH_ready (rs := [0]) (by kernel_rfl) (by simp) ?_
          refine AllReadyH.cons rfl (fun K3 hK3 => ?_) (AllReadyH.nil)
          refine wanted_go rfl ?_
          simp only [List.getElem_toArray, List.getElem_cons_zero]
          have HO3 := Lib.hid (show ((W6.drew.alloc (.cells #[.string name, .int .i64 pl, .string s] 49)).alloc (.cells #[] 49)).ownsRow W6.heap.size 49 3 (.slice (some ⟨W6.heap.size + 1, 0, none⟩) 0 0) 0 [] by have h := own_none (W6.drew.alloc (.cells #[.string name, .int .i64 pl, .string s] 49)) W6.heap.size HB.out.size; rw [World.size_alloc] at h; exact h)
          have HB0 := Lib.hid (HB.out.alloc HB.out.size (.cells #[] 49))
          have HN0 := Lib.hid ((Below.heap_alloc (W6.drew.alloc (.cells #[.string name, .int .i64 pl, .string s] 49)) (.cells #[] 49) _ (lt_of_blkD HN.out)).trans HN.out)
          clear HN; have HN := Lib.hid HN0.out; clear HN0
          clear HB; have HB := Lib.hid HB0.out; clear HB0
          have HO := Lib.hid HO3.out; clear HO3
          go_wp2
          refine hK3.out _ _ (HX6.out.wr HB.out) (fun hS3 => ?_)
          refine wpAnyH_ready (rs := [3]) (by kernel_rfl) (by simp) ?_
          refine AllReadyH.cons rfl (fun K4 hK4 => ?_) (AllReadyH.nil)
          refine wanted_go rfl ?_
          simp only [List.getElem_toArray, List.getElem_cons_zero, List.getElem_cons_succ]
          refine wp_append_pend _ _ rfl W6.heap.size hi hz0 hz1 hz2 (.slice (some ⟨W6.heap.size + 1, 0, none⟩) 0 0) rfl HO.out a3 pe c3 rfl (HX6.out.below HB.out).I.f3.at (by omega) HB.out.size ?_
          intro v3 w3 ho3 hg3
          have HB0 := Lib.hid (HB.out.grown hg3 HB.out.size (own_block_ge HO.out))
          have HN0 := Lib.hid ((hg3.block _ (lt_of_blkD HN.out) (by simp [Value.ownBlock])).trans HN.out)
          clear HN; have HN := Lib.hid HN0.out; clear HN0
          clear HB; have HB := Lib.hid HB0.out; clear HB0
          clear HO; have HO := Lib.hid ho3; clear ho3 hg3
          refine hK4.out _ _ (HX6.out.wr HB.out) (fun hS4 => ?_)
          refine wpAnyH_ready (rs := [6]) (by kernel_rfl) (by simp) ?_
          refine AllReadyH.cons rfl (fun K5 hK5 => ?_) (AllReadyH.nil)
          refine wanted_go rfl ?_
          simp only [List.getElem_toArray, List.getElem_cons_zero, List.getElem_cons_succ]
          refine wp_append_own _ _ _ 31 rfl W6.heap.size 49 i0 (.agg #[.string ⟨#[]⟩, .int .i64 0, .string ⟨#[]⟩]) 3 40 Try.underlying31 hi hz0 hz1 hz2 rfl (by decide) _ _ _ rfl HO.out ⟨W6.heap.size, 0, none⟩ 1 1 (wcells (name, n, s)) rfl rfl (cells_w HPN.out HN.out) (oneW1 _) (by unfold maxLen; omega) (by omega) HB.out.size ?_
          intro v6 w6 ho6 hg6 _
          have HB0 := Lib.hid (HB.out.grown hg6 HB.out.size (own_block_ge HO.out))
          obtain ⟨a6, c6, rfl, hc6, hp6, hb6⟩ := pend_own (l := PE) (by rw [HPL.out, HPF.out]; exact ho6)
          have HP6 := Lib.hid (pend_off hp6 hb6 (lt_of_blkD HX6.out.I.S.box) (lt_of_blkD HX6.out.I.S.res))
          have HA6 := Lib.hid (show AdrP P a6 from fun b hb => HPG.out b (Nat.le_trans HX6.out.I.S.lo.size (hb6 b hb)))
          clear HB; have HB := Lib.hid HB0.out; clear HB0 hp6 hb6 ho6 hg6 HN HO
          refine hK5.out _ _ (HX6.out.wr HB.out) (fun hS5 => ?_)
          refine wpAnyH_take (i := 7) (v := .pointer (some ⟨w.heap.size, 2, none⟩)) rfl (by kernel_rfl) (by kernel_rfl) (by kernel_rfl) (fun _ _ _ h => h) (Or.inl ⟨by simp [Region.wanted], fun W _ => by go_simp⟩) hS5 ?_
          simp only [List.getElem_toArray, List.getElem_cons_zero, List.getElem_cons_succ, Act.put, List.setIfInBounds_toArray, List.set_cons_zero, List.set_cons_succ]
          refine wpAnyH_ready (rs := [8]) (by kernel_rfl) (by simp) ?_
          refine AllReadyH.cons rfl (fun K6 hK6 => ?_) (AllReadyH.nil)
          refine wanted_go rfl ?_
          simp only [List.getElem_toArray, List.getElem_cons_zero, List.getElem_cons_succ]
          have HX7 := Lib.hid (HX6.out.below HB.out)
          have cl := HX7.out.I.S.cell 2 (.slice a3 pe.length c3) rfl
          have cf := HX7.out.I.S.free 2
          have HX8 := Lib.hid (show DkX w #[.string name, .int .i64 pl, .string s] a4 a2 a6 c4 c2 c6 ⟨K, kp, PE, rm⟩ _ from ⟨⟨HX7.out.I.S.set 2 (.slice a6 PE.length c6), HX7.out.I.f1.set 2 _, HX7.out.I.f2.set 2 _, HP6.out.set 2 _⟩, (heap_setCell_ne _ (by omega)).trans HX7.out.wb⟩)
          go_wp2
          refine hK6.out _ _ ⟨HX8.out.I.S.lo, HX8.out.wb⟩ (fun hS6 => ?_)
          refine wpAnyH_done (by kernel_rfl) ?_ _
          have HD := Lib.hid (HX8.out.I.S.done (dkC a4 a2 a6 c4 c2 c6 ⟨K, kp, PE, rm⟩))
          have HDN := Lib.hid (HX8.out.I.done ⟨hc4, HK.out.2.1, hc6⟩ ⟨.inr HA4.out, HAP.out.2.1, .inr HA6.out⟩)
          have HB := Lib.hid HX8.out.I.S.box; have HR := Lib.hid HX8.out.I.S.res
          have HO := Lib.hid (dkC_one a4 a2 a6 c4 c2 c6 ⟨K, kp, PE, rm⟩)
          have HI := Lib.hid (dkC_info a4 a2 a6 c4 c2 c6 ⟨K, kp, PE, rm⟩)
          have HZ := Lib.hid (show dkZ.size = (dkC a4 a2 a6 c4 c2 c6 ⟨K, kp, PE, rm⟩).size from rfl)
          obtain ⟨CS, hCS⟩ : ∃ C, dkC a4 a2 a6 c4 c2 c6 ⟨K, kp, PE, rm⟩ = C := ⟨_, rfl⟩
          rw [hCS] at HD HDN HB HO HI HZ
          clear hCS
          go_wp2_with (first
            | ((with_reducible refine atLoad (ty := 33) (x := .tmp 2) rfl ?_); refine wpList_load_row rfl 33 (.tmp 2) rfl w.heap.size rfl 33 CS (0, 0) _ HB.out Try.underlying33 rfl HI.out ?_)
            | ((with_reducible refine atStore (ty := 33) (x := .tmp 4) (y := .tmp 68) rfl ?_); refine wpList_store_row rfl 33 (.tmp 4) (.tmp 68) rfl (w.heap.size + 2) CS rfl rfl 33 _ HR.out HI.out HZ.out HO.out ?_))
          refine ret_cell_tmp rfl rfl rfl rfl HD.out.1 Try.underlying33 rfl HI.out ?_
          exact ⟨CS, rfl, HDN.out, HD.out.2⟩

theorem rwrites20 (P : Nat → Prop) (cs : Array Value) (d : DkT) (name s : ByteArray) (pl : Int) (w : World) (h : DkAt P w cs d) (hPg : ∀ k, w.heap.size ≤ k → P k) (hl : d.stands.length ≤ 9000) (hlp : d.pend.length ≤ 9000) (hn : name.size ≤ 1000000) (hss : s.size ≤ 1000000) (hu : usedF d.stands ≤ 400000000000) (hrd : (readF d.stands name).size ≤ 1100000) :
    Calls Try.prog 20 #[.agg cs, .agg #[.string name, .int .i64 pl, .string s]] w fun e w' => ∃ cs', e = .returned (.tuple #[.agg cs', .int .i64 (writesF d name pl s).2]) ∧ DkAt P w' cs' (writesF d name pl s).1 ∧ Below w.heap.size w w' := by
  obtain ⟨a1, a2, a3, c1, c2, c3, rfl, f1, f2, f3, hk, hap⟩ := h
  by_cases hno : (namedS name = false ∨ s.size = 0) ∨ (pl < 0 ∨ ((readF d.stands name).size : Int) < pl) ∨ ((readF d.stands name).size = 0 ∧ d.stands.length = 4096)
  · exact rwrites_no P d a1 a2 a3 c1 c2 c3 name s pl w f1 f2 f3 hk hap hl hn hno
  · rw [not_or, not_or, not_or, not_or] at hno
    obtain ⟨⟨h1, h2⟩, ⟨h3, h4⟩, h5⟩ := hno
    obtain ⟨n, rfl⟩ := Int.eq_ofNat_of_zero_le (show 0 ≤ pl by omega)
    exact rwrites_yes P d a1 a2 a3 c1 c2 c3 name s n w f1 f2 f3 hk hap hPg hl hlp hn hss hu hrd (by simpa using h1) h2 (by omega) h5
end Go.Proofs.Ytcedkilgfoiifaa

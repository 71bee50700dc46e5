/- What the laws of the disk want of the program: a contract for each call, over whatever the program keeps of a disk; the law's Same, given them. -/
import Derived.Test.YtcedkilgfoiifaaDkWrites
import Derived.Test.YtcedkilgfoiifaaDkPlay
import Derived.Test.YtcedkilgfoiifaaDkSame
import Derived.Test.YtcedkilgfoiifaaDkGreat
namespace Go.Proofs.Ytcedkilgfoiifaa
open Go.RowKit Base Base2

/-- Blocks of a kind alone, and new ones, are touched. -/
structure Frame (F : Nat → Prop) (W W' : World) : Prop where
  os : W'.os = W.os
  tape : W'.tape = W.tape
  output : W'.output = W.output
  size : W.heap.size ≤ W'.heap.size
  block : ∀ k, k < W.heap.size → ¬ F k → W'.heap[k]? = W.heap[k]?
theorem Frame.below {F : Nat → Prop} {W W' : World} {B : Nat} (h : Frame F W W') (hF : ∀ k, F k → B ≤ k) (hB : B ≤ W.heap.size) : Below B W W' :=
  ⟨h.os, h.tape, h.output, h.size, fun k hk => h.block k (by omega) (fun hf => by have := hF k hf; omega)⟩
theorem Below.frame {F : Nat → Prop} {W W' : World} (h : Below W.heap.size W W') : Frame F W W' := ⟨h.os, h.tape, h.output, h.size, fun k hk _ => h.block k hk⟩
/-- What a program's disk touches later: what it touched, or new blocks. -/
def Grows (W : World) (F F' : Nat → Prop) : Prop := ∀ k, F' k → F k ∨ W.heap.size ≤ k
theorem adr_grows {W : World} {F F' : Nat → Prop} (hg : Grows W F F') {b : Nat} (hb : b < W.heap.size) (h : ¬ F b) : ¬ F' b := fun k => (hg b k).elim h (fun k2 => by omega)
theorem Frame.files {F F' : Nat → Prop} {W W' : World} {a : Option Addr} {l : List FileT} (h : Frame F W W') (hg : Grows W F F') (hf : FilesAt W a l) (ha : l = [] ∨ AdrP (fun k => ¬ F k) a) : FilesAt W' a l ∧ (l = [] ∨ AdrP (fun k => ¬ F' k) a) := by
  rcases hf with hf | ⟨b, off, h1, h2, h3⟩
  · exact ⟨.inl hf, .inl hf⟩
  rcases ha with ha | ha
  · exact ⟨.inl ha, .inl ha⟩
  have hn : ¬ F b := ha b ⟨off, h1⟩
  have e := h.block b h2 hn
  refine ⟨.inr ⟨b, off, h1, Nat.lt_of_lt_of_le h2 h.size, fun i f hi => ⟨(cell_heap e).trans (h3 i f hi).1, (cell_heap e).trans (h3 i f hi).2⟩⟩, .inr ?_⟩
  rintro c ⟨off2, hc⟩
  rw [h1] at hc; simp at hc; obtain ⟨rfl, _⟩ := hc
  exact adr_grows hg h2 hn
theorem Frame.pend {F F' : Nat → Prop} {W W' : World} {a : Option Addr} {l : List WriteT} (h : Frame F W W') (hg : Grows W F F') (hf : PendAt W a l) (ha : l = [] ∨ AdrP (fun k => ¬ F k) a) : PendAt W' a l ∧ (l = [] ∨ AdrP (fun k => ¬ F' k) a) := by
  rcases hf with hf | ⟨b, off, h1, h2, h3⟩
  · exact ⟨.inl hf, .inl hf⟩
  rcases ha with ha | ha
  · exact ⟨.inl ha, .inl ha⟩
  have hn : ¬ F b := ha b ⟨off, h1⟩
  have e := h.block b h2 hn
  refine ⟨.inr ⟨b, off, h1, Nat.lt_of_lt_of_le h2 h.size, fun i p hi j v hv => (cell_heap e).trans (h3 i p hi j v hv)⟩, .inr ?_⟩
  rintro c ⟨off2, hc⟩
  rw [h1] at hc; simp at hc; obtain ⟨rfl, _⟩ := hc
  exact adr_grows hg h2 hn
/-- The document's disk lies outside of what the program touches; so it does behind a call. -/
theorem Frame.dk {F F' : Nat → Prop} {W W' : World} {cs : Array Value} {d : DkT} (h : Frame F W W') (hg : Grows W F F') (hd : DkAt (fun k => ¬ F k) W cs d) : DkAt (fun k => ¬ F' k) W' cs d := by
  obtain ⟨a1, a2, a3, c1, c2, c3, h0, h1, h2, h3, h4, h5⟩ := hd
  obtain ⟨x1, y1⟩ := h.files hg h1 h5.1
  obtain ⟨x2, y2⟩ := h.files hg h2 h5.2.1
  obtain ⟨x3, y3⟩ := h.pend hg h3 h5.2.2
  exact ⟨a1, a2, a3, c1, c2, c3, h0, x1, x2, x3, h4, y1, y2, y3⟩

/-- How many bytes of the i-th pending write are chosen. -/
def chooseK (keep : List Int) (i : Nat) : Int := match keep[i]? with
  | some k => k
  | none => 1073741824
def In64D (z : Int) : Prop := -9223372036854775808 ≤ z ∧ z ≤ 9223372036854775807
/-- A contract for each call of the program on a disk that it keeps (PD: in a world, the disk at a block, touching blocks of a kind, is that). -/
structure ProgC (PD : World → Nat → (Nat → Prop) → DkT → Prop) : Prop where
  mono : ∀ {W W' b F d}, PD W b F d → W.heap.size ≤ W'.heap.size → (∀ k, k < W.heap.size → F k → W'.heap[k]? = W.heap[k]?) → PD W' b F d
  lt : ∀ {W b F d}, PD W b F d → ∀ k, F k → k < W.heap.size
  files : ∀ {W b F d}, PD W b F d → PlayOk 200 d → Calls Try.prog 26 #[.pointer (some ⟨b, 0, none⟩)] W fun e w' => (∃ a c, e = .returned (.slice a d.stands.length c) ∧ FilesAt w' a d.stands) ∧ Below W.heap.size W w'
  kept : ∀ {W b F d}, PD W b F d → PlayOk 200 d → Calls Try.prog 27 #[.pointer (some ⟨b, 0, none⟩)] W fun e w' => (∃ a c, e = .returned (.slice a d.kept.length c) ∧ FilesAt w' a d.kept) ∧ Below W.heap.size W w'
  used : ∀ {W b F d}, PD W b F d → PlayOk 200 d → Calls Try.prog 28 #[.pointer (some ⟨b, 0, none⟩)] W fun e w' => e = .returned (.int .i64 (usedF d.stands : Int)) ∧ Below W.heap.size W w'
  room : ∀ {W b F d}, PD W b F d → PlayOk 200 d → Calls Try.prog 29 #[.pointer (some ⟨b, 0, none⟩)] W fun e w' => e = .returned (.int .i64 (d.room - (usedF d.stands : Int))) ∧ Below W.heap.size W w'
  pend : ∀ {W b F d}, PD W b F d → PlayOk 200 d → Calls Try.prog 24 #[.pointer (some ⟨b, 0, none⟩)] W fun e w' => e = .returned (.int .i64 (d.pend.length : Int)) ∧ Below W.heap.size W w'
  read : ∀ {W b F d} (name : ByteArray), PD W b F d → PlayOk 200 d → name.size ≤ maxLen → Calls Try.prog 22 #[.pointer (some ⟨b, 0, none⟩), .string name] W fun e w' => e = .returned (.string (readF d.stands name)) ∧ Below W.heap.size W w'
  write : ∀ {W b F d} (name s : ByteArray) (pl : Int), PD W b F d → PlayOk 200 d → name.size ≤ 100 → s.size ≤ 300 → In64D pl → Calls Try.prog 19 #[.pointer (some ⟨b, 0, none⟩), .string name, .int .i64 pl, .string s] W fun e w' => e = .returned (.int .i64 (writesF d name pl s).2) ∧ ∃ F', PD w' b F' (writesF d name pl s).1 ∧ Frame F W w' ∧ Grows W F F'
  sync : ∀ {W b F d}, PD W b F d → PlayOk 200 d → Calls Try.prog 12 #[.pointer (some ⟨b, 0, none⟩)] W fun e w' => e = .returned (.int .i64 0) ∧ ∃ F', PD w' b F' (syncF d) ∧ Frame F W w' ∧ Grows W F F'
  cut : ∀ {W b F d} (name : ByteArray) (n : Int), PD W b F d → PlayOk 200 d → name.size ≤ 100 → In64D n → Calls Try.prog 14 #[.pointer (some ⟨b, 0, none⟩), .string name, .int .i64 n] W fun e w' => e = .returned (.int .i64 (cutF d name n).2) ∧ ∃ F', PD w' b F' (cutF d name n).1 ∧ Frame F W w' ∧ Grows W F F'
  crash : ∀ {W b F d} (f : Nat) (caps : Array Value) (keep : List Int), PD W b F d → PlayOk 200 d → (∀ (args : Array Value) (w : World), (callFunc f args).run Try.prog w = .ok (.enter f args) w) → keep.length ≤ 100 → (∀ z ∈ keep, In64D z) → (∀ (i : Nat) (W' : World), i < d.pend.length → Frame F W W' → Calls Try.prog f (#[.int .i64 (i : Int)] ++ caps) W' fun e w' => e = .returned (.int .i64 (chooseK keep i)) ∧ w' = W') → Calls Try.prog 16 #[.pointer (some ⟨b, 0, none⟩), .func (.func f) #[] caps] W fun e w' => e = .returned (.int .i64 0) ∧ ∃ F', PD w' b F' (crashF d keep) ∧ Frame F W w' ∧ Grows W F F'
  new : ∀ (room : Int) (W : World), 0 ≤ room → room ≤ 1048576 → Calls Try.prog 30 #[.int .i64 room] W fun e w' => (∃ b F, e = .returned (.tuple #[.pointer (some ⟨b, 0, none⟩), .int .i64 0]) ∧ PD w' b F ⟨[], [], [], room⟩ ∧ ∀ k, F k → W.heap.size ≤ k) ∧ Below W.heap.size W w'
  ofNo : ∀ {W : World} (a : Option Addr) (c : Nat) (files : List FileT) (room : Int), FilesAt W a files → files.length ≤ 60 → usedF files ≤ 1000000 → In64D room → (∀ f ∈ files, f.1.size ≤ maxLen ∧ f.2.size ≤ maxLen) → (room < 0 ∨ 1048576 < room ∨ mayF files = false) → Calls Try.prog 8 #[.slice a files.length c, .int .i64 room] W fun e w' => e = .returned (.tuple #[.pointer none, .int .i64 1]) ∧ Below W.heap.size W w'
  ofFull : ∀ {W : World} (a : Option Addr) (c : Nat) (files : List FileT) (room : Int), FilesAt W a files → files.length ≤ 60 → usedF files ≤ 1000000 → 0 ≤ room → room ≤ 1048576 → mayF files = true → room < (usedF files : Int) → Calls Try.prog 8 #[.slice a files.length c, .int .i64 room] W fun e w' => e = .returned (.tuple #[.pointer none, .int .i64 6]) ∧ Below W.heap.size W w'
  of : ∀ {W : World} (a : Option Addr) (c : Nat) (files : List FileT) (room : Int), FilesAt W a files → files.length ≤ 60 → usedF files ≤ 1000000 → 0 ≤ room → room ≤ 1048576 → mayF files = true → (usedF files : Int) ≤ room → Calls Try.prog 8 #[.slice a files.length c, .int .i64 room] W fun e w' => (∃ b F, e = .returned (.tuple #[.pointer (some ⟨b, 0, none⟩), .int .i64 0]) ∧ PD w' b F ⟨files, files, [], room⟩ ∧ ∀ k, F k → W.heap.size ≤ k) ∧ Below W.heap.size W w'
  may : ∀ {W : World} (a : Option Addr) (c : Nat) (files : List FileT), FilesAt W a files → files.length ≤ maxLen → (∀ f ∈ files, f.1.size ≤ maxLen ∧ f.2.size ≤ maxLen) → Calls Try.prog 9 #[.slice a files.length c] W fun e w' => e = .returned (.bool (mayF files)) ∧ Below W.heap.size W w'
theorem enters34 (args : Array Value) (w : World) : (callFunc 40 args).run Try.prog w = .ok (.enter 40 args) w := by kernel_rfl
theorem enters31 (args : Array Value) (w : World) : (callFunc 31 args).run Try.prog w = .ok (.enter 31 args) w := by kernel_rfl
set_option maxRecDepth 100000 in
theorem keep34 (i kb : Nat) (ak : Option Addr) (ck : Nat) (keep : List Int) (w : World) (hb : w.heap[kb]? = some (.cells #[.slice ak keep.length ck] 34 (0, 0))) (hn : NumsAt w ak keep) (_ : i ≤ 1000000) (_ : keep.length ≤ 1000000) :
    Calls Try.prog 40 #[.int .i64 (i : Int), .pointer (some ⟨kb, 0, none⟩)] w fun e w' => e = .returned (.int .i64 (chooseK keep i)) ∧ w' = w := by
  have hc := cell_of_one hb
  by_cases hlt : i < keep.length
  · obtain ⟨z, hz⟩ : ∃ z, keep[i]? = some z := ⟨keep[i], by simp [hlt]⟩
    have hch : chooseK keep i = z := by unfold chooseK; rw [hz]
    rw [hch]
    obtain ⟨b, off, rfl, hcz⟩ := hn.get hz
    clear hch hz hn hb
    go_enter Try.func40, Try.ntmps40
    go_wp2
    go_ret
    exact ⟨rfl, rfl⟩
  · have hch : chooseK keep i = 1073741824 := by unfold chooseK; rw [List.getElem?_eq_none (by omega)]
    rw [hch]
    clear hch hn hb
    go_enter Try.func40, Try.ntmps40
    go_wp2
    go_ret
    exact ⟨rfl, rfl⟩
theorem Frame.nums {F : Nat → Prop} {W W' : World} {a : Option Addr} {l : List Int} (h : Frame F W W') (hf : NumsAt W a l) (ha : l = [] ∨ AdrP (fun k => ¬ F k) a) : NumsAt W' a l := by
  rcases hf with hf | ⟨b, off, h1, h2, h3⟩
  · exact .inl hf
  rcases ha with ha | ha
  · exact .inl ha
  have e := h.block b h2 (ha b ⟨off, h1⟩)
  exact .inr ⟨b, off, h1, Nat.lt_of_lt_of_le h2 h.size, fun i k hi => (cell_heap e).trans (h3 i k hi)⟩
theorem ProgC.crash34 {PD : World → Nat → (Nat → Prop) → DkT → Prop} (C : ProgC PD) {W : World} {b : Nat} {F : Nat → Prop} {d : DkT} (kb : Nat) (ak : Option Addr) (ck : Nat) (keep : List Int) (hp : PD W b F d) (hok : PlayOk 200 d) (hk : W.heap[kb]? = some (.cells #[.slice ak keep.length ck] 34 (0, 0))) (hkf : ¬ F kb) (hn : NumsAt W ak keep) (ha : keep = [] ∨ AdrP (fun k => ¬ F k) ak) (hl : keep.length ≤ 100) (hz : ∀ z ∈ keep, In64D z) :
    Calls Try.prog 16 #[.pointer (some ⟨b, 0, none⟩), .func (.func 40) #[] #[.pointer (some ⟨kb, 0, none⟩)]] W fun e w' => e = .returned (.int .i64 0) ∧ ∃ F', PD w' b F' (crashF d keep) ∧ Frame F W w' ∧ Grows W F F' :=
  C.crash 40 #[.pointer (some ⟨kb, 0, none⟩)] keep hp hok enters34 hl hz fun i W' hi hF => keep34 i kb ak ck keep W' ((hF.block kb (lt_of_blkD hk) hkf).trans hk) (hF.nums hn ha) (by have := hok.lk; omega) (by omega)
theorem ProgC.below {PD : World → Nat → (Nat → Prop) → DkT → Prop} (C : ProgC PD) {W W' : World} {b : Nat} {F : Nat → Prop} {d : DkT} (h : PD W b F d) (hb : Below W.heap.size W W') : PD W' b F d := C.mono h hb.size (fun k hk _ => hb.block k hk)
theorem load_dk {W : World} {g : Nat} {a1 a2 a3 : Option Addr} {c1 c2 c3 : Nat} {d : DkT} (h : W.heap[g]? = some (.cells (dkC a1 a2 a3 c1 c2 c3 d) 33 (0, 0))) (k : Nat) (v : Value) (hv : (dkC a1 a2 a3 c1 c2 c3 d)[k]? = some v) : W.cell? ⟨g, k, none⟩ = some v := by
  rw [cell_of_row W g k _ 33 (0, 0) h]; exact hv
theorem rsyncD {P : Nat → Prop} {cs : Array Value} {d : DkT} {w : World} (h : DkAt P w cs d) : Calls Try.prog 13 #[.agg cs] w fun e w' => ∃ cs', e = .returned (.agg cs') ∧ DkAt P w' cs' (syncF d) ∧ Below w.heap.size w w' := by
  obtain ⟨a1, a2, a3, c1, c2, c3, rfl, f1, f2, f3, hk, hap⟩ := h
  refine (rsync13 a1 a2 a3 _ _ _ _ _ _ _ w).mono ?_
  rintro e w1 ⟨rfl, hb⟩
  exact ⟨_, rfl, ⟨a1, a1, none, c1, c1, 0, rfl, f1.below hb, f1.below hb, .inl rfl, ⟨hk.1, hk.1, Nat.le_refl _⟩, hap.1, hap.1, .inl rfl⟩, hb⟩

set_option maxRecDepth 100000 in
set_option maxHeartbeats 4000000 in
theorem same21 {PD : World → Nat → (Nat → Prop) → DkT → Prop} (C : ProgC PD) {P F : Nat → Prop} {b : Nat} {d : DkT} {cs : Array Value} {w : World} (h : PD w b F d) (hd : DkAt P w cs d) (hp : PlayOk 200 d) :
    Calls Try.prog 21 #[.pointer (some ⟨b, 0, none⟩), .agg cs] w fun e w' => e = .returned (.bool true) ∧ Below w.heap.size w w' := by
  obtain ⟨a1, a2, a3, c1, c2, c3, rfl, f1, f2, f3, hk, _⟩ := hd
  have hu := maxF_used d.stands hp.ms
  have hu2 := hp.ls; have hr0 := hp.rm0; have hr1 := hp.rm1
  have hsub : IntKind.i64.wrap (d.room - (usedF d.stands : Int)) = d.room - (usedF d.stands : Int) := IntWalk.i64_in _ (by omega)
  have HUS := Lib.hid (fun W hf => rused11 a1 d.stands c1 W hf (by unfold maxLen; omega) (by omega))
  have HBX := Lib.hid (show (w.alloc (.cells (dkC a1 a2 a3 c1 c2 c3 d) 33)).heap[w.heap.size]? = some (.cells (dkC a1 a2 a3 c1 c2 c3 d) 33 (0, 0)) ∧ Below w.heap.size w (w.alloc (.cells (dkC a1 a2 a3 c1 c2 c3 d) 33)) ∧ w.heap.size < (w.alloc (.cells (dkC a1 a2 a3 c1 c2 c3 d) 33)).heap.size from ⟨heap_alloc_new w _, (Below.refl _ w).alloc (Nat.le_refl _) _, by simp⟩)
  clear hu hu2 hr0 hr1 f3 hk
  go_enter Try.func21, Try.ntmps21
  go_upto_region 1 with (fail)
  refine at_world (Φ := fun W => W.heap[w.heap.size]? = some (.cells (dkC a1 a2 a3 c1 c2 c3 d) 33 (0, 0)) ∧ Below w.heap.size w W ∧ w.heap.size < W.heap.size) HBX.out ?_
  rintro W hW
  have H := Lib.hid hW
  have e0 := load_dk hW.1 0 (.slice a1 d.stands.length c1) rfl
  clear hW HBX
  have HU := Lib.hid (HUS.out W (f1.below H.out.2.1))
  clear HUS
  go_wp2_with (go_at_call 11; refine HU.out.mono ?_; rintro e w0 ⟨rfl, rfl⟩)
  clear e0
  refine wp_region_held_drew (S := fun W => W.heap[w.heap.size]? = some (.cells (dkC a1 a2 a3 c1 c2 c3 d) 33 (0, 0)) ∧ Below w.heap.size w W ∧ w.heap.size < W.heap.size) (by kernel_rfl) (⟨H.out.1, H.out.2.1.drew, H.out.2.2⟩) (fun hS => ?_)
  refine wpAnyH_take (i := 0) (v := .pointer (some ⟨b, 0, none⟩)) rfl (by kernel_rfl) (by kernel_rfl) (by kernel_rfl) (fun _ _ _ h => h) (Or.inl ⟨by simp [Region.wanted], fun W _ => by go_simp⟩) hS ?_
  simp only [List.getElem_toArray, List.getElem_cons_zero, Act.put, List.setIfInBounds_toArray, List.set_cons_zero, List.set_cons_succ]
  refine wpAnyH_take (i := 2) (v := .pointer (some ⟨w.heap.size, 0, none⟩)) rfl (by kernel_rfl) (by kernel_rfl) (by kernel_rfl) (fun _ _ _ h => h) (Or.inl ⟨by simp [Region.wanted], fun W _ => by go_simp⟩) hS ?_
  simp only [List.getElem_toArray, List.getElem_cons_zero, List.getElem_cons_succ, Act.put, List.setIfInBounds_toArray, List.set_cons_zero, List.set_cons_succ]
  refine wpAnyH_take (i := 3) (v := .slice a1 d.stands.length c1) rfl (by kernel_rfl) (by kernel_rfl) (by kernel_rfl) (fun _ _ _ h => h) (.inl ⟨by simp [Region.wanted], fun W hW => by have hq := load_dk hW.1 0 (.slice a1 d.stands.length c1) rfl; unfold execOp; go_simp⟩) hS ?_
  simp only [List.getElem_toArray, List.getElem_cons_zero, List.getElem_cons_succ, Act.put, List.setIfInBounds_toArray, List.set_cons_zero, List.set_cons_succ]
  refine wpAnyH_ready (rs := [1]) (by kernel_rfl) (by simp) ?_
  refine AllReadyH.cons rfl (fun K1 hK1 => ?_) AllReadyH.nil
  refine wanted_go rfl ?_
  simp only [List.getElem_toArray, List.getElem_cons_zero, List.getElem_cons_succ]
  have HC1 := Lib.hid (C.files (C.below h hS.2.1) hp)
  go_wp2_with (go_at_call 26; refine HC1.out.mono ?_; rintro e w1 ⟨⟨x4, y4, rfl, hf4⟩, hb1⟩; have HB1 := Lib.hid hb1; have HF4 := Lib.hid hf4; clear hf4; clear hb1)
  refine hK1.out _ _ (⟨(HB1.out.block _ hS.2.2).trans hS.1, hS.2.1.trans (HB1.out.mono (Nat.le_of_lt hS.2.2)), Nat.lt_of_lt_of_le hS.2.2 HB1.out.size⟩) (fun hS1 => ?_)
  refine wpAnyH_ready (rs := [4]) (by kernel_rfl) (by simp) ?_
  refine AllReadyH.cons rfl (fun K2 hK2 => ?_) AllReadyH.nil
  refine wanted_go rfl ?_
  simp only [List.getElem_toArray, List.getElem_cons_zero, List.getElem_cons_succ]
  have HC2 := Lib.hid (rsame25 x4 a1 d.stands y4 c1 _ HF4.out (f1.below hS1.2.1) (by unfold maxLen; have := hp.ls; omega))
  go_wp2_with (go_at_call 25; refine HC2.out.mono ?_; rintro e w2 ⟨rfl, n2, rfl⟩; have HB2 := Lib.hid (below_drews (a := w1) n2))
  refine hK2.out _ _ (⟨(HB2.out.block _ hS1.2.2).trans hS1.1, hS1.2.1.trans (HB2.out.mono (Nat.le_of_lt hS1.2.2)), Nat.lt_of_lt_of_le hS1.2.2 HB2.out.size⟩) (fun hS2 => ?_)
  refine wpAnyH_take (i := 5) (v := .bool true) rfl (by kernel_rfl) (by kernel_rfl) (by kernel_rfl) (fun _ _ _ h => h) (Or.inl ⟨by simp [Region.wanted], fun W _ => by go_simp⟩) hS2 ?_
  simp only [List.getElem_toArray, List.getElem_cons_zero, List.getElem_cons_succ, Act.put, List.setIfInBounds_toArray, List.set_cons_zero, List.set_cons_succ]
  refine wpAnyH_take (i := 6) (v := .pointer (some ⟨b, 0, none⟩)) rfl (by kernel_rfl) (by kernel_rfl) (by kernel_rfl) (fun _ _ _ h => h) (Or.inl ⟨by rfl, fun W _ => by go_simp⟩) hS2 ?_
  simp only [List.getElem_toArray, List.getElem_cons_zero, List.getElem_cons_succ, Act.put, List.setIfInBounds_toArray, List.set_cons_zero, List.set_cons_succ]
  refine wpAnyH_take (i := 8) (v := .pointer (some ⟨w.heap.size, 1, none⟩)) rfl (by kernel_rfl) (by kernel_rfl) (by kernel_rfl) (fun _ _ _ h => h) (Or.inl ⟨by rfl, fun W _ => by go_simp⟩) hS2 ?_
  simp only [List.getElem_toArray, List.getElem_cons_zero, List.getElem_cons_succ, Act.put, List.setIfInBounds_toArray, List.set_cons_zero, List.set_cons_succ]
  refine wpAnyH_take (i := 9) (v := .slice a2 d.kept.length c2) rfl (by kernel_rfl) (by kernel_rfl) (by kernel_rfl) (fun _ _ _ h => h) (.inl ⟨by rfl, fun W hW => by have hq := load_dk hW.1 1 (.slice a2 d.kept.length c2) rfl; unfold execOp; go_simp⟩) hS2 ?_
  simp only [List.getElem_toArray, List.getElem_cons_zero, List.getElem_cons_succ, Act.put, List.setIfInBounds_toArray, List.set_cons_zero, List.set_cons_succ]
  refine wpAnyH_ready (rs := [7]) (by kernel_rfl) (by simp) ?_
  refine AllReadyH.cons rfl (fun K3 hK3 => ?_) AllReadyH.nil
  rw [if_pos (by rfl)]
  simp only [List.getElem_toArray, List.getElem_cons_zero, List.getElem_cons_succ]
  have HC3 := Lib.hid (C.kept (C.below h hS2.2.1) hp)
  go_wp2_with (go_at_call 27; refine HC3.out.mono ?_; rintro e w3 ⟨⟨x5, y5, rfl, hf5⟩, hb3⟩; have HB3 := Lib.hid hb3; have HF5 := Lib.hid hf5; clear hf5; clear hb3)
  refine hK3.out _ _ (⟨(HB3.out.block _ hS2.2.2).trans hS2.1, hS2.2.1.trans (HB3.out.mono (Nat.le_of_lt hS2.2.2)), Nat.lt_of_lt_of_le hS2.2.2 HB3.out.size⟩) (fun hS3 => ?_)
  refine wpAnyH_ready (rs := [10]) (by kernel_rfl) (by simp) ?_
  refine AllReadyH.cons rfl (fun K4 hK4 => ?_) AllReadyH.nil
  rw [if_pos (by rfl)]
  simp only [List.getElem_toArray, List.getElem_cons_zero, List.getElem_cons_succ]
  have HC4 := Lib.hid (rsame25 x5 a2 d.kept y5 c2 _ HF5.out (f2.below hS3.2.1) (by unfold maxLen; have := hp.lk; omega))
  go_wp2_with (go_at_call 25; refine HC4.out.mono ?_; rintro e w4 ⟨rfl, n4, rfl⟩; have HB4 := Lib.hid (below_drews (a := w3) n4))
  refine hK4.out _ _ (⟨(HB4.out.block _ hS3.2.2).trans hS3.1, hS3.2.1.trans (HB4.out.mono (Nat.le_of_lt hS3.2.2)), Nat.lt_of_lt_of_le hS3.2.2 HB4.out.size⟩) (fun hS4 => ?_)
  refine wpAnyH_take (i := 11) (v := .bool true) rfl (by kernel_rfl) (by kernel_rfl) (by kernel_rfl) (fun _ _ _ h => h) (Or.inl ⟨by simp [Region.wanted], fun W _ => by go_simp⟩) hS4 ?_
  simp only [List.getElem_toArray, List.getElem_cons_zero, List.getElem_cons_succ, Act.put, List.setIfInBounds_toArray, List.set_cons_zero, List.set_cons_succ]
  refine wpAnyH_take (i := 12) (v := .bool true) rfl (by kernel_rfl) (by kernel_rfl) (by kernel_rfl) (fun _ _ _ h => h) (Or.inl ⟨by simp [Region.wanted], fun W _ => by go_simp⟩) hS4 ?_
  simp only [List.getElem_toArray, List.getElem_cons_zero, List.getElem_cons_succ, Act.put, List.setIfInBounds_toArray, List.set_cons_zero, List.set_cons_succ]
  refine wpAnyH_take (i := 13) (v := .pointer (some ⟨b, 0, none⟩)) rfl (by kernel_rfl) (by kernel_rfl) (by kernel_rfl) (fun _ _ _ h => h) (Or.inl ⟨by rfl, fun W _ => by go_simp⟩) hS4 ?_
  simp only [List.getElem_toArray, List.getElem_cons_zero, List.getElem_cons_succ, Act.put, List.setIfInBounds_toArray, List.set_cons_zero, List.set_cons_succ]
  refine wpAnyH_take (i := 15) (v := .pointer (some ⟨w.heap.size, 2, none⟩)) rfl (by kernel_rfl) (by kernel_rfl) (by kernel_rfl) (fun _ _ _ h => h) (Or.inl ⟨by rfl, fun W _ => by go_simp⟩) hS4 ?_
  simp only [List.getElem_toArray, List.getElem_cons_zero, List.getElem_cons_succ, Act.put, List.setIfInBounds_toArray, List.set_cons_zero, List.set_cons_succ]
  refine wpAnyH_take (i := 16) (v := .slice a3 d.pend.length c3) rfl (by kernel_rfl) (by kernel_rfl) (by kernel_rfl) (fun _ _ _ h => h) (.inl ⟨by rfl, fun W hW => by have hq := load_dk hW.1 2 (.slice a3 d.pend.length c3) rfl; unfold execOp; go_simp⟩) hS4 ?_
  simp only [List.getElem_toArray, List.getElem_cons_zero, List.getElem_cons_succ, Act.put, List.setIfInBounds_toArray, List.set_cons_zero, List.set_cons_succ]
  refine wpAnyH_take (i := 17) (v := .int .i64 (d.pend.length : Int)) rfl (by kernel_rfl) (by kernel_rfl) (by kernel_rfl) (fun _ _ _ h => h) (Or.inl ⟨by rfl, fun W _ => by go_simp⟩) hS4 ?_
  simp only [List.getElem_toArray, List.getElem_cons_zero, List.getElem_cons_succ, Act.put, List.setIfInBounds_toArray, List.set_cons_zero, List.set_cons_succ]
  refine wpAnyH_ready (rs := [14]) (by kernel_rfl) (by simp) ?_
  refine AllReadyH.cons rfl (fun K5 hK5 => ?_) AllReadyH.nil
  rw [if_pos (by rfl)]
  simp only [List.getElem_toArray, List.getElem_cons_zero, List.getElem_cons_succ]
  have HC5 := Lib.hid (C.pend (C.below h hS4.2.1) hp)
  go_wp2_with (go_at_call 24; refine HC5.out.mono ?_; rintro e w5 ⟨rfl, hb5⟩; have HB5 := Lib.hid hb5; clear hb5)
  refine hK5.out _ _ (⟨(HB5.out.block _ hS4.2.2).trans hS4.1, hS4.2.1.trans (HB5.out.mono (Nat.le_of_lt hS4.2.2)), Nat.lt_of_lt_of_le hS4.2.2 HB5.out.size⟩) (fun hS5 => ?_)
  refine wpAnyH_take (i := 18) (v := .bool true) rfl (by kernel_rfl) (by kernel_rfl) (by kernel_rfl) (fun _ _ _ h => h) (Or.inl ⟨by rfl, fun W _ => by go_simp⟩) hS5 ?_
  simp only [List.getElem_toArray, List.getElem_cons_zero, List.getElem_cons_succ, Act.put, List.setIfInBounds_toArray, List.set_cons_zero, List.set_cons_succ]
  refine wpAnyH_take (i := 19) (v := .bool true) rfl (by kernel_rfl) (by kernel_rfl) (by kernel_rfl) (fun _ _ _ h => h) (Or.inl ⟨by simp [Region.wanted], fun W _ => by go_simp⟩) hS5 ?_
  simp only [List.getElem_toArray, List.getElem_cons_zero, List.getElem_cons_succ, Act.put, List.setIfInBounds_toArray, List.set_cons_zero, List.set_cons_succ]
  refine wpAnyH_take (i := 20) (v := .bool true) rfl (by kernel_rfl) (by kernel_rfl) (by kernel_rfl) (fun _ _ _ h => h) (Or.inl ⟨by simp [Region.wanted], fun W _ => by go_simp⟩) hS5 ?_
  simp only [List.getElem_toArray, List.getElem_cons_zero, List.getElem_cons_succ, Act.put, List.setIfInBounds_toArray, List.set_cons_zero, List.set_cons_succ]
  refine wpAnyH_take (i := 21) (v := .pointer (some ⟨b, 0, none⟩)) rfl (by kernel_rfl) (by kernel_rfl) (by kernel_rfl) (fun _ _ _ h => h) (Or.inl ⟨by rfl, fun W _ => by go_simp⟩) hS5 ?_
  simp only [List.getElem_toArray, List.getElem_cons_zero, List.getElem_cons_succ, Act.put, List.setIfInBounds_toArray, List.set_cons_zero, List.set_cons_succ]
  refine wpAnyH_take (i := 23) (v := .int .i64 (usedF d.stands : Int)) rfl (by kernel_rfl) (by kernel_rfl) (by kernel_rfl) (fun _ _ _ h => h) (Or.inl ⟨by rfl, fun W _ => by go_simp⟩) hS5 ?_
  simp only [List.getElem_toArray, List.getElem_cons_zero, List.getElem_cons_succ, Act.put, List.setIfInBounds_toArray, List.set_cons_zero, List.set_cons_succ]
  refine wpAnyH_ready (rs := [22]) (by kernel_rfl) (by simp) ?_
  refine AllReadyH.cons rfl (fun K6 hK6 => ?_) AllReadyH.nil
  rw [if_pos (by rfl)]
  simp only [List.getElem_toArray, List.getElem_cons_zero, List.getElem_cons_succ]
  have HC6 := Lib.hid (C.used (C.below h hS5.2.1) hp)
  go_wp2_with (go_at_call 28; refine HC6.out.mono ?_; rintro e w6 ⟨rfl, hb6⟩; have HB6 := Lib.hid hb6; clear hb6)
  refine hK6.out _ _ (⟨(HB6.out.block _ hS5.2.2).trans hS5.1, hS5.2.1.trans (HB6.out.mono (Nat.le_of_lt hS5.2.2)), Nat.lt_of_lt_of_le hS5.2.2 HB6.out.size⟩) (fun hS6 => ?_)
  refine wpAnyH_take (i := 24) (v := .bool true) rfl (by kernel_rfl) (by kernel_rfl) (by kernel_rfl) (fun _ _ _ h => h) (Or.inl ⟨by rfl, fun W _ => by go_simp⟩) hS6 ?_
  simp only [List.getElem_toArray, List.getElem_cons_zero, List.getElem_cons_succ, Act.put, List.setIfInBounds_toArray, List.set_cons_zero, List.set_cons_succ]
  refine wpAnyH_take (i := 25) (v := .bool true) rfl (by kernel_rfl) (by kernel_rfl) (by kernel_rfl) (fun _ _ _ h => h) (Or.inl ⟨by simp [Region.wanted], fun W _ => by go_simp⟩) hS6 ?_
  simp only [List.getElem_toArray, List.getElem_cons_zero, List.getElem_cons_succ, Act.put, List.setIfInBounds_toArray, List.set_cons_zero, List.set_cons_succ]
  refine wpAnyH_take (i := 26) (v := .bool true) rfl (by kernel_rfl) (by kernel_rfl) (by kernel_rfl) (fun _ _ _ h => h) (Or.inl ⟨by simp [Region.wanted], fun W _ => by go_simp⟩) hS6 ?_
  simp only [List.getElem_toArray, List.getElem_cons_zero, List.getElem_cons_succ, Act.put, List.setIfInBounds_toArray, List.set_cons_zero, List.set_cons_succ]
  refine wpAnyH_take (i := 27) (v := .pointer (some ⟨b, 0, none⟩)) rfl (by kernel_rfl) (by kernel_rfl) (by kernel_rfl) (fun _ _ _ h => h) (Or.inl ⟨by rfl, fun W _ => by go_simp⟩) hS6 ?_
  simp only [List.getElem_toArray, List.getElem_cons_zero, List.getElem_cons_succ, Act.put, List.setIfInBounds_toArray, List.set_cons_zero, List.set_cons_succ]
  refine wpAnyH_take (i := 29) (v := .pointer (some ⟨w.heap.size, 3, none⟩)) rfl (by kernel_rfl) (by kernel_rfl) (by kernel_rfl) (fun _ _ _ h => h) (Or.inl ⟨by rfl, fun W _ => by go_simp⟩) hS6 ?_
  simp only [List.getElem_toArray, List.getElem_cons_zero, List.getElem_cons_succ, Act.put, List.setIfInBounds_toArray, List.set_cons_zero, List.set_cons_succ]
  refine wpAnyH_take (i := 30) (v := .int .i64 d.room) rfl (by kernel_rfl) (by kernel_rfl) (by kernel_rfl) (fun _ _ _ h => h) (.inl ⟨by rfl, fun W hW => by have hq := load_dk hW.1 3 (.int .i64 d.room) rfl; unfold execOp; go_simp⟩) hS6 ?_
  simp only [List.getElem_toArray, List.getElem_cons_zero, List.getElem_cons_succ, Act.put, List.setIfInBounds_toArray, List.set_cons_zero, List.set_cons_succ]
  refine wpAnyH_take (i := 31) (v := .int .i64 (usedF d.stands : Int)) rfl (by kernel_rfl) (by kernel_rfl) (by kernel_rfl) (fun _ _ _ h => h) (Or.inl ⟨by rfl, fun W _ => by go_simp⟩) hS6 ?_
  simp only [List.getElem_toArray, List.getElem_cons_zero, List.getElem_cons_succ, Act.put, List.setIfInBounds_toArray, List.set_cons_zero, List.set_cons_succ]
  refine wpAnyH_take (i := 32) (v := .int .i64 (d.room - (usedF d.stands : Int))) rfl (by kernel_rfl) (by kernel_rfl) (by kernel_rfl) (fun _ _ _ h => h) (Or.inl ⟨by rfl, fun W _ => by go_simp⟩) hS6 ?_
  simp only [List.getElem_toArray, List.getElem_cons_zero, List.getElem_cons_succ, Act.put, List.setIfInBounds_toArray, List.set_cons_zero, List.set_cons_succ]
  refine wpAnyH_ready (rs := [28]) (by kernel_rfl) (by simp) ?_
  refine AllReadyH.cons rfl (fun K7 hK7 => ?_) AllReadyH.nil
  rw [if_pos (by rfl)]
  simp only [List.getElem_toArray, List.getElem_cons_zero, List.getElem_cons_succ]
  have HC7 := Lib.hid (C.room (C.below h hS6.2.1) hp)
  go_wp2_with (go_at_call 29; refine HC7.out.mono ?_; rintro e w7 ⟨rfl, hb7⟩; have HB7 := Lib.hid hb7; clear hb7)
  refine hK7.out _ _ (⟨(HB7.out.block _ hS6.2.2).trans hS6.1, hS6.2.1.trans (HB7.out.mono (Nat.le_of_lt hS6.2.2)), Nat.lt_of_lt_of_le hS6.2.2 HB7.out.size⟩) (fun hS7 => ?_)
  refine wpAnyH_take (i := 33) (v := .bool true) rfl (by kernel_rfl) (by kernel_rfl) (by kernel_rfl) (fun _ _ _ h => h) (Or.inl ⟨by rfl, fun W _ => by go_simp⟩) hS7 ?_
  simp only [List.getElem_toArray, List.getElem_cons_zero, List.getElem_cons_succ, Act.put, List.setIfInBounds_toArray, List.set_cons_zero, List.set_cons_succ]
  refine wpAnyH_take (i := 34) (v := .bool true) rfl (by kernel_rfl) (by kernel_rfl) (by kernel_rfl) (fun _ _ _ h => h) (Or.inl ⟨by simp [Region.wanted], fun W _ => by go_simp⟩) hS7 ?_
  simp only [List.getElem_toArray, List.getElem_cons_zero, List.getElem_cons_succ, Act.put, List.setIfInBounds_toArray, List.set_cons_zero, List.set_cons_succ]
  refine wpAnyH_take (i := 35) (v := .bool true) rfl (by kernel_rfl) (by kernel_rfl) (by kernel_rfl) (fun _ _ _ h => h) (Or.inl ⟨by simp [Region.wanted], fun W _ => by go_simp⟩) hS7 ?_
  simp only [List.getElem_toArray, List.getElem_cons_zero, List.getElem_cons_succ, Act.put, List.setIfInBounds_toArray, List.set_cons_zero, List.set_cons_succ]
  refine wpAnyH_done (by kernel_rfl) ?_ _
  go_wp2
  go_ret
  exact ⟨rfl, hS7.2.1⟩
end Go.Proofs.Ytcedkilgfoiifaa

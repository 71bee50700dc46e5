/- The walk of DiskPlays, given a contract for each call of the program on a disk. -/
import Derived.Test.YtcedkilgfoiifaaDkNone
namespace Go.Proofs.Ytcedkilgfoiifaa
open Go.RowKit Base Base2

/-- A deed: its kind, a name, a place, a text, how many bytes are chosen. -/
structure ActT where
  kind : Int
  name : ByteArray
  pl : Int
  s : ByteArray
  ka : Option Addr
  kc : Nat
  keep : List Int
def acells (x : ActT) : Array Value := #[.int .u8 x.kind, .string x.name, .int .i64 x.pl, .string x.s, .slice x.ka x.keep.length x.kc]
/-- Deeds from an address on, all below a place. -/
def ActsAt (B : Nat) (W : World) (a : Option Addr) (l : List ActT) : Prop := l = [] ∨ ∃ b off, a = some ⟨b, off, none⟩ ∧ b < B ∧ ∀ (i : Nat) (x : ActT), l[i]? = some x → W.rangeAt b (off + i * 5) (acells x).toList ∧ NumsAt W x.ka x.keep ∧ (x.keep = [] ∨ AdrP (fun k => k < B) x.ka) ∧ (0 ≤ x.kind ∧ x.kind ≤ 255) ∧ In64D x.pl ∧ ∀ z ∈ x.keep, In64D z
theorem infoAct : (Try.prog.info? 36).map (·.size) = some 5 := by kernel_rfl
theorem load_act {W : World} {b o : Nat} {x : ActT} (hr : W.rangeAt b o (acells x).toList) : (Instr.loadAt 36 (.pointer (Option.some ⟨b, o, none⟩))).run Try.prog W = .ok (.agg (acells x)) W := by
  have := load_at (P := Try.prog) W b o 36 (acells x).toList _ hr Try.underlying36 rfl (by rw [infoAct]; rfl)
  simpa using this
theorem rangeAt_belowD {w W : World} {B b o : Nat} {cs : List Value} (h : w.rangeAt b o cs) (hb : Below B w W) (hlt : b < B) : W.rangeAt b o cs := fun j v hv => (hb.cell (p := ⟨b, o + j, none⟩) hlt).trans (h j v hv)
theorem NumsAt.belowB {W W' : World} {B : Nat} {a : Option Addr} {l : List Int} (h : NumsAt W a l) (ha : l = [] ∨ AdrP (fun k => k < B) a) (hb : Below B W W') (_hB : B ≤ W.heap.size) : NumsAt W' a l := by
  rcases h with h | ⟨b, off, h1, h2, h3⟩
  · exact .inl h
  rcases ha with ha | ha
  · exact .inl ha
  have hlt : b < B := ha b ⟨off, h1⟩
  exact .inr ⟨b, off, h1, Nat.lt_of_lt_of_le h2 hb.size, fun i k hi => (hb.cell (p := ⟨b, off + i, none⟩) hlt).trans (h3 i k hi)⟩
theorem ActsAt.get {B : Nat} {w W : World} {a : Option Addr} {l : List ActT} (h : ActsAt B w a l) (hb : Below B w W) (hB : B ≤ w.heap.size) {i : Nat} {x : ActT} (hi : l[i]? = some x) : ∃ b off, a = some ⟨b, off, none⟩ ∧ W.rangeAt b (off + i * 5) (acells x).toList ∧ NumsAt W x.ka x.keep ∧ (x.keep = [] ∨ AdrP (fun k => k < B) x.ka) ∧ (0 ≤ x.kind ∧ x.kind ≤ 255) ∧ In64D x.pl ∧ ∀ z ∈ x.keep, In64D z := by
  rcases h with rfl | ⟨b, off, h1, h2, h3⟩
  · simp at hi
  · obtain ⟨k1, k2, k3, k4, k5, k6⟩ := h3 i x hi
    exact ⟨b, off, h1, rangeAt_belowD k1 hb h2, k2.belowB k3 hb hB, k3, k4, k5, k6⟩
theorem DkAt.move {P Q : Nat → Prop} {W W' : World} {cs : Array Value} {d : DkT} (h : DkAt P W cs d) (hs : W.heap.size ≤ W'.heap.size) (hm : ∀ k, k < W.heap.size → P k → W'.heap[k]? = W.heap[k]? ∧ Q k) : DkAt Q W' cs d := by
  obtain ⟨a1, a2, a3, c1, c2, c3, h0, h1, h2, h3, h4, h5⟩ := h
  have hfi : ∀ (a : Option Addr) (l : List FileT), FilesAt W a l → (l = [] ∨ AdrP P a) → FilesAt W' a l ∧ (l = [] ∨ AdrP Q a) := by
    intro a l hf ha
    rcases hf with hf | ⟨b, off, k1, k2, k3⟩
    · exact ⟨.inl hf, .inl hf⟩
    rcases ha with ha | ha
    · exact ⟨.inl ha, .inl ha⟩
    obtain ⟨e, hq⟩ := hm b k2 (ha b ⟨off, k1⟩)
    refine ⟨.inr ⟨b, off, k1, Nat.lt_of_lt_of_le k2 hs, fun i f hi => ⟨(cell_heap e).trans (k3 i f hi).1, (cell_heap e).trans (k3 i f hi).2⟩⟩, .inr ?_⟩
    rintro c ⟨off2, hc⟩
    rw [k1] at hc; simp at hc; obtain ⟨rfl, _⟩ := hc
    exact hq
  have hpe : ∀ (a : Option Addr) (l : List WriteT), PendAt W a l → (l = [] ∨ AdrP P a) → PendAt W' a l ∧ (l = [] ∨ AdrP Q a) := by
    intro a l hf ha
    rcases hf with hf | ⟨b, off, k1, k2, k3⟩
    · exact ⟨.inl hf, .inl hf⟩
    rcases ha with ha | ha
    · exact ⟨.inl ha, .inl ha⟩
    obtain ⟨e, hq⟩ := hm b k2 (ha b ⟨off, k1⟩)
    refine ⟨.inr ⟨b, off, k1, Nat.lt_of_lt_of_le k2 hs, fun i p hi j v hv => (cell_heap e).trans (k3 i p hi j v hv)⟩, .inr ?_⟩
    rintro c ⟨off2, hc⟩
    rw [k1] at hc; simp at hc; obtain ⟨rfl, _⟩ := hc
    exact hq
  obtain ⟨x1, y1⟩ := hfi a1 d.stands h1 h5.1
  obtain ⟨x2, y2⟩ := hfi a2 d.kept h2 h5.2.1
  obtain ⟨x3, y3⟩ := hpe a3 d.pend h3 h5.2.2
  exact ⟨a1, a2, a3, c1, c2, c3, h0, x1, x2, x3, h4, y1, y2, y3⟩

/-- The program's disk (dp) and the document's (dd), and where they lie: x: the document's box, y: the deed's. -/
structure PlS (PD : World → Nat → (Nat → Prop) → DkT → Prop) (w : World) (b x y : Nat) (ac : Array Value) (F : Nat → Prop) (cs : Array Value) (dp dd : DkT) (W : World) : Prop where
  lo : Below w.heap.size w W
  pd : PD W b F dp
  fw : ∀ k, F k → w.heap.size ≤ k
  xb : W.heap[x]? = some (.cells cs 33 (0, 0))
  xw : w.heap.size ≤ x
  xf : ¬ F x
  yb : W.heap[y]? = some (.cells ac 36 (0, 0))
  yf : ¬ F y
  yx : y ≠ x
  dk : DkAt (fun k => ¬ F k ∧ k ≠ x) W cs dd
theorem PlS.below {PD : World → Nat → (Nat → Prop) → DkT → Prop} (C : ProgC PD) {w W W' : World} {b x y : Nat} {ac : Array Value} {F : Nat → Prop} {cs : Array Value} {dp dd : DkT} (h : PlS PD w b x y ac F cs dp dd W) (hb : Below W.heap.size W W') : PlS PD w b x y ac F cs dp dd W' :=
  ⟨h.lo.trans (hb.mono h.lo.size), C.below h.pd hb, h.fw, (hb.block _ (lt_of_blkD h.xb)).trans h.xb, h.xw, h.xf, (hb.block _ (lt_of_blkD h.yb)).trans h.yb, h.yf, h.yx, h.dk.below hb⟩
theorem PlS.step {PD : World → Nat → (Nat → Prop) → DkT → Prop} {w W W' : World} {b x y : Nat} {ac : Array Value} {F F' : Nat → Prop} {cs : Array Value} {dp dp' dd : DkT} (h : PlS PD w b x y ac F cs dp dd W) (hp : PD W' b F' dp') (hf : Frame F W W') (hg : Grows W F F') : PlS PD w b x y ac F' cs dp' dd W' := by
  have hx := lt_of_blkD h.xb
  have hy := lt_of_blkD h.yb
  refine ⟨h.lo.trans (hf.below h.fw h.lo.size), hp, fun k hk => ?_, (hf.block x hx h.xf).trans h.xb, h.xw, adr_grows hg hx h.xf, (hf.block y hy h.yf).trans h.yb, adr_grows hg hy h.yf, h.yx, h.dk.move hf.size fun k hk hP => ⟨hf.block k hk hP.1, adr_grows hg hk hP.1, hP.2⟩⟩
  rcases hg k hk with h1 | h1
  · exact h.fw k h1
  · exact Nat.le_trans h.lo.size h1
theorem PlS.put {PD : World → Nat → (Nat → Prop) → DkT → Prop} (C : ProgC PD) {w W : World} {b x y : Nat} {ac : Array Value} {F : Nat → Prop} {cs cs' : Array Value} {dp dd dd' : DkT} (h : PlS PD w b x y ac F cs dp dd W) (hd : DkAt (fun k => ¬ F k ∧ k ≠ x) W cs' dd') : PlS PD w b x y ac F cs' dp dd' (W.setRow x cs') := by
  refine ⟨below_rowB h.lo h.xw, C.mono h.pd (by simp) (fun k _ hk => setRow_ne _ (fun e => h.xf (e ▸ hk))), h.fw, setRow_heap _ _ _ _ _ _ h.xb, h.xw, h.xf, (setRow_ne _ h.yx).trans h.yb, h.yf, h.yx, hd.move (by simp) fun k _ hP => ⟨setRow_ne _ hP.2, hP⟩⟩
theorem PlS.far {PD : World → Nat → (Nat → Prop) → DkT → Prop} (C : ProgC PD) {w W : World} {b x y : Nat} {ac : Array Value} {F : Nat → Prop} {cs : Array Value} {dp dd : DkT} (h : PlS PD w b x y ac F cs dp dd W) : ∀ k, W.heap.size ≤ k → ¬ F k ∧ k ≠ x := fun k hk => ⟨fun hf => by have := C.lt h.pd k hf; omega, fun e => by have := lt_of_blkD h.xb; omega⟩
theorem DkAt.size {P : Nat → Prop} {W : World} {cs : Array Value} {d : DkT} (h : DkAt P W cs d) : cs.size = 4 ∧ cs.all (·.oneCell') = true ∧ (Try.prog.info? 33).map (·.size) = some cs.size := by
  obtain ⟨a1, a2, a3, c1, c2, c3, rfl, _⟩ := h
  exact ⟨rfl, dkC_one .., infoDk⟩
theorem boxD (W : World) (ks : Array Value) : Below W.heap.size W ((W.alloc (.cells dkZ 33)).setRow W.heap.size ks) ∧ ((W.alloc (.cells dkZ 33)).setRow W.heap.size ks).heap[W.heap.size]? = some (.cells ks 33 (0, 0)) :=
  ⟨below_rowB ((Below.refl _ W).alloc (Nat.le_refl _) _) (Nat.le_refl _), setRow_heap _ _ _ _ _ _ (heap_alloc_new W _)⟩
theorem yieldsIf_loadK {P : Program} {ops : Array Oper} {S : World → Prop} {op : Oper} {a : Act} (hw : Region.wanted op (yielded ops a.tmps) = true) (ty : TypeId) (x : Operand) (ho : op.op = .load ty x)
    (p v : Value) (hx : a.eval x = p) (hS : ∀ w, S w → (Instr.loadAt ty p).run P w = .ok v w) : YieldsIf P ops S op v a :=
  .inl ⟨hw, fun w hw' => by
    unfold execOp
    simp only [ho, hx, Sem.run_bind, Sem.run_pure, hS w hw', Result.andThen_ok]⟩
theorem load_row4 {W : World} {g : Nat} {cs : Array Value} (hz : cs.size = 4) (hb : W.heap[g]? = some (.cells cs 33 (0, 0))) : (Instr.loadAt 33 (.pointer (some ⟨g, 0, none⟩))).run Try.prog W = .ok (.agg cs) W := by
  have hr := World.rangeAt_of_block hb 0 4
  have e : (cs.extract 0 (0 + 4)).toList = cs.toList := by rw [show 0 + 4 = cs.size by omega, Array.extract_size]
  rw [e] at hr
  have := load_at (P := Try.prog) W g 0 33 cs.toList _ hr Try.underlying33 rfl (by rw [infoDk]; simp [hz])
  simpa using this
def actRel (PD : World → Nat → (Nat → Prop) → DkT → Prop) (w : World) (b x n : Nat) (vi : Value) (W : World) : Prop :=
  ∃ (i : Nat) (F : Nat → Prop) (cs : Array Value) (d : DkT), i ≤ n ∧ vi = .int .i64 (i : Int) ∧ Below w.heap.size w W ∧ PD W b F d ∧ (∀ k, F k → w.heap.size ≤ k) ∧ W.heap[x]? = some (.cells cs 33 (0, 0)) ∧ w.heap.size ≤ x ∧ ¬ F x ∧ DkAt (fun k => ¬ F k ∧ k ≠ x) W cs d ∧ PlayOk (60 + i) d

theorem looks_used (l : List FileT) (h : looksF l ≤ 6000) : usedF l ≤ 6000 ∧ ∀ f ∈ l, f.2.size ≤ 6000 := by
  have key : ∀ l : List FileT, looksF l < 10000 → usedF l ≤ looksF l ∧ ∀ f ∈ l, f.2.size ≤ looksF l := by
    intro l
    induction l with
    | nil => intro _; exact ⟨by simp [usedF, looksF], fun f hf => absurd hf (by simp)⟩
    | cons x l ih =>
      intro h
      have e : looksF (x :: l) = lookF x + looksF l := by simp [looksF]
      rw [e] at h ⊢
      rw [usedF_cons]
      obtain ⟨k1, k2⟩ := ih (by omega)
      unfold lookF at h ⊢
      refine ⟨by omega, fun f hf => ?_⟩
      rcases List.mem_cons.1 hf with rfl | hf
      · omega
      · have := k2 f hf; omega
  obtain ⟨k1, k2⟩ := key l (by omega)
  exact ⟨by omega, fun f hf => by have := k2 f hf; omega⟩

set_option maxRecDepth 100000 in
set_option maxHeartbeats 16000000 in
theorem plays3 {PD : World → Nat → (Nat → Prop) → DkT → Prop} (C : ProgC PD) (a a2 : Option Addr) (c c2 : Nat) (files : List FileT) (l : List ActT) (room : Int) (w : World)
    (hf : FilesAt w a files) (hfm : files.length ≤ maxLen) (hcap : files.length ≤ c) (hsz : ∀ f ∈ files, f.1.size ≤ maxLen ∧ f.2.size ≤ maxLen) (hr : In64D room) (hl : ActsAt w.heap.size w a2 l) (_hlm : l.length ≤ maxLen)
    (HAL : Calls Try.prog 6 #[] w fun e w' => e = .returned (.bool true) ∧ Below w.heap.size w w') :
    Calls Try.prog 3 #[.slice a files.length c, .int .i64 room, .slice a2 l.length c2] w fun e w' => e = .returned (.bool true) ∧ Below w.heap.size w w' := by
  have HA := Lib.hid HAL
  have HFA := Lib.hid hf
  have HG := Lib.hid (fun W hf => great7F a files c W hf hfm hsz)
  have HMY := Lib.hid (fun (W : World) (hf : FilesAt W a files) => C.may a c files hf hfm hsz)
  have HRM := Lib.hid (fun W hf => rmay10 a files c W hf hfm hsz)
  clear HAL hf
  obtain ⟨gb, hgb⟩ : ∃ z, greatF files = z := ⟨_, rfl⟩
  rw [hgb] at HG
  cases gb with
  | true =>
    clear HMY HRM hgb hr hl _hlm hfm
    go_enter Try.func3, Try.ntmps3
    go_wp2_with (first
      | (go_at_call 6; refine HA.out.mono ?_; rintro e w1 ⟨rfl, hb⟩; have B1 := Lib.hid hb; clear hb)
      | (go_at_call 7; refine (HG.out _ (HFA.out.below B1.out)).mono ?_; rintro e w2 ⟨rfl, m2, rfl⟩; have B2 := Lib.hid (bt2 B1.out (below_drews m2))))
    go_ret
    exact ⟨rfl, B2.out⟩
  | false =>
    obtain ⟨g1, g2⟩ := greatF_no hgb
    obtain ⟨g3, g4⟩ := looks_used files g2
    clear hgb
    by_cases h30 : (30 : Int) < (l.length : Int)
    · clear HMY HRM hr hl _hlm hfm g1 g2 g3 g4
      go_enter Try.func3, Try.ntmps3
      go_wp2_with (first
        | (go_at_call 6; refine HA.out.mono ?_; rintro e w1 ⟨rfl, hb⟩; have B1 := Lib.hid hb; clear hb)
        | (go_at_call 7; refine (HG.out _ (HFA.out.below B1.out)).mono ?_; rintro e w2 ⟨rfl, m2, rfl⟩; have B2 := Lib.hid (bt2 B1.out (below_drews m2))))
      go_ret
      exact ⟨rfl, B2.out⟩
    have HUS := Lib.hid (fun W hf => rused11 a files c W hf hfm (by omega))
    obtain ⟨mb, hmb⟩ : ∃ z, mayF files = z := ⟨_, rfl⟩
    rw [hmb] at HMY HRM
    by_cases hr1 : room < 0
    · have HOF := Lib.hid (fun (W : World) (hf : FilesAt W a files) => C.ofNo a c files room hf g1 (by omega) hr hsz (.inl hr1))
      clear hr hl _hlm hfm g1 g2 g3 g4 hmb HUS
      go_enter Try.func3, Try.ntmps3
      go_wp2_with (first
        | (go_at_call 6; refine HA.out.mono ?_; rintro e w1 ⟨rfl, hb⟩; have B1 := Lib.hid hb; clear hb)
        | (go_at_call 7; refine (HG.out _ (HFA.out.below B1.out)).mono ?_; rintro e w2 ⟨rfl, m2, rfl⟩; have B2 := Lib.hid (bt2 B1.out (below_drews m2)))
        | (go_at_call 8; refine (HOF.out _ (HFA.out.below B2.out)).mono ?_; rintro e w3 ⟨rfl, hb⟩; have B3 := Lib.hid (bt2 B2.out hb); clear hb)
        | (go_at_call 9; refine (HMY.out _ (HFA.out.below B3.out)).mono ?_; rintro e w4 ⟨rfl, hb⟩; have B4 := Lib.hid (bt2 B3.out hb); clear hb)
        | (go_at_call 10; refine (HRM.out _ (HFA.out.below B4.out)).mono ?_; rintro e w5 ⟨rfl, m5, rfl⟩; have B5 := Lib.hid (bt2 B4.out (below_drews m5))))
      go_ret
      exact ⟨rfl, B5.out⟩
    by_cases hr2 : 1048576 < room
    · have HOF := Lib.hid (fun (W : World) (hf : FilesAt W a files) => C.ofNo a c files room hf g1 (by omega) hr hsz (.inr (.inl hr2)))
      clear hr hl _hlm hfm g1 g2 g3 g4 hmb HUS
      go_enter Try.func3, Try.ntmps3
      go_wp2_with (first
        | (go_at_call 6; refine HA.out.mono ?_; rintro e w1 ⟨rfl, hb⟩; have B1 := Lib.hid hb; clear hb)
        | (go_at_call 7; refine (HG.out _ (HFA.out.below B1.out)).mono ?_; rintro e w2 ⟨rfl, m2, rfl⟩; have B2 := Lib.hid (bt2 B1.out (below_drews m2)))
        | (go_at_call 8; refine (HOF.out _ (HFA.out.below B2.out)).mono ?_; rintro e w3 ⟨rfl, hb⟩; have B3 := Lib.hid (bt2 B2.out hb); clear hb)
        | (go_at_call 9; refine (HMY.out _ (HFA.out.below B3.out)).mono ?_; rintro e w4 ⟨rfl, hb⟩; have B4 := Lib.hid (bt2 B3.out hb); clear hb)
        | (go_at_call 10; refine (HRM.out _ (HFA.out.below B4.out)).mono ?_; rintro e w5 ⟨rfl, m5, rfl⟩; have B5 := Lib.hid (bt2 B4.out (below_drews m5))))
      go_ret
      exact ⟨rfl, B5.out⟩
    cases mb with
    | false =>
      have HOF := Lib.hid (fun (W : World) (hf : FilesAt W a files) => C.ofNo a c files room hf g1 (by omega) hr hsz (.inr (.inr hmb)))
      clear hr hl _hlm hfm g1 g2 g3 g4 hmb HUS
      go_enter Try.func3, Try.ntmps3
      go_wp2_with (first
        | (go_at_call 6; refine HA.out.mono ?_; rintro e w1 ⟨rfl, hb⟩; have B1 := Lib.hid hb; clear hb)
        | (go_at_call 7; refine (HG.out _ (HFA.out.below B1.out)).mono ?_; rintro e w2 ⟨rfl, m2, rfl⟩; have B2 := Lib.hid (bt2 B1.out (below_drews m2)))
        | (go_at_call 8; refine (HOF.out _ (HFA.out.below B2.out)).mono ?_; rintro e w3 ⟨rfl, hb⟩; have B3 := Lib.hid (bt2 B2.out hb); clear hb)
        | (go_at_call 9; refine (HMY.out _ (HFA.out.below B3.out)).mono ?_; rintro e w4 ⟨rfl, hb⟩; have B4 := Lib.hid (bt2 B3.out hb); clear hb)
        | (go_at_call 10; refine (HRM.out _ (HFA.out.below B4.out)).mono ?_; rintro e w5 ⟨rfl, m5, rfl⟩; have B5 := Lib.hid (bt2 B4.out (below_drews m5)))
        | (go_at_call 10; refine (HRM.out _ (HFA.out.below B5.out)).mono ?_; rintro e w6 ⟨rfl, m6, rfl⟩; have B6 := Lib.hid (bt2 B5.out (below_drews m6)); rw [World.drewN_drewN] at B6))
      go_ret
      exact ⟨rfl, B6.out⟩
    | true =>
      by_cases hu : room < (usedF files : Int)
      · have HOF := Lib.hid (fun (W : World) (hf : FilesAt W a files) => C.ofFull a c files room hf g1 (by omega) (by omega) (by omega) hmb hu)
        clear hr hl _hlm hfm g1 g2 g3 g4 hmb
        go_enter Try.func3, Try.ntmps3
        go_wp2_with (first
          | (go_at_call 6; refine HA.out.mono ?_; rintro e w1 ⟨rfl, hb⟩; have B1 := Lib.hid hb; clear hb)
          | (go_at_call 7; refine (HG.out _ (HFA.out.below B1.out)).mono ?_; rintro e w2 ⟨rfl, m2, rfl⟩; have B2 := Lib.hid (bt2 B1.out (below_drews m2)))
          | (go_at_call 8; refine (HOF.out _ (HFA.out.below B2.out)).mono ?_; rintro e w3 ⟨rfl, hb⟩; have B3 := Lib.hid (bt2 B2.out hb); clear hb)
          | (go_at_call 9; refine (HMY.out _ (HFA.out.below B3.out)).mono ?_; rintro e w4 ⟨rfl, hb⟩; have B4 := Lib.hid (bt2 B3.out hb); clear hb)
          | (go_at_call 10; refine (HRM.out _ (HFA.out.below B4.out)).mono ?_; rintro e w5 ⟨rfl, m5, rfl⟩; have B5 := Lib.hid (bt2 B4.out (below_drews m5)))
          | (go_at_call 10; refine (HRM.out _ (HFA.out.below B5.out)).mono ?_; rintro e w6 ⟨rfl, m6, rfl⟩; have B6 := Lib.hid (bt2 B5.out (below_drews m6)); rw [World.drewN_drewN] at B6)
          | (go_at_call 11; refine (HUS.out _ (HFA.out.below B6.out)).mono ?_; rintro e w7 ⟨rfl, rfl⟩))
        go_ret
        exact ⟨rfl, B6.out⟩
      · have HOF := Lib.hid (fun (W : World) (hf : FilesAt W a files) => C.of a c files room hf g1 (by omega) (by omega) (by omega) hmb (by omega))
        have HPL := Lib.hid (play_start (m := 60) hmb (show (usedF files : Int) ≤ room by omega) (by omega) g1)
        have HLA := Lib.hid hl
        clear hr hl _hlm hfm g1 g2 g3 g4 hmb
        go_enter Try.func3, Try.ntmps3
        go_wp2_with (first
          | (go_at_call 6; refine HA.out.mono ?_; rintro e w1 ⟨rfl, hb⟩; have B1 := Lib.hid hb; clear hb)
          | (go_at_call 7; refine (HG.out _ (HFA.out.below B1.out)).mono ?_; rintro e w2 ⟨rfl, m2, rfl⟩; have B2 := Lib.hid (bt2 B1.out (below_drews m2)))
          | (go_at_call 8; refine (HOF.out _ (HFA.out.below B2.out)).mono ?_; rintro e w3 ⟨⟨b, F0, rfl, hpd, hF⟩, hb⟩; have B3 := Lib.hid (bt2 B2.out hb); have HPD := Lib.hid hpd; have HFF := Lib.hid hF; clear hb hpd hF)
          | (go_at_call 9; refine (HMY.out _ (HFA.out.below B3.out)).mono ?_; rintro e w4 ⟨rfl, hb⟩; have B4 := Lib.hid (bt2 B3.out hb); have HPD4 := Lib.hid (C.below HPD.out hb); clear hb)
          | (go_at_call 10; refine (HRM.out _ (HFA.out.below B4.out)).mono ?_; rintro e w5 ⟨rfl, m5, rfl⟩; have B5 := Lib.hid (bt2 B4.out (below_drews m5)))
          | (go_at_call 10; refine (HRM.out _ (HFA.out.below B5.out)).mono ?_; rintro e w6 ⟨rfl, m6, rfl⟩; have B6 := Lib.hid (bt2 B5.out (below_drews m6)); rw [World.drewN_drewN] at B6)
          | (go_at_call 11; refine (HUS.out _ (HFA.out.below B6.out)).mono ?_; rintro e w7 ⟨rfl, rfl⟩)
          | ((with_reducible refine atStore (ty := 33) (x := .tmp 9) (y := .tmp 70) rfl ?_); refine wpList_store_row rfl 33 (.tmp 9) (.tmp 70) rfl w4.heap.size (dkC a a none c c 0 ⟨files, files, [], room⟩) rfl rfl 33 _ (heap_alloc_new (w4.drewN (m5 + m6)) _) infoDk rfl (dkC_one ..) ?_))
        have HBX := Lib.hid (boxD (w4.drewN (m5 + m6)) (dkC a a none c c 0 ⟨files, files, [], room⟩))
        have HP5 := Lib.hid (C.below (C.below HPD4.out (below_drews (m5 + m6))) HBX.out.1)
        have hxn := HBX.out.2
        have hFx : ¬ F0 (w4.drewN (m5 + m6)).heap.size := fun h => by have := C.lt (C.below HPD4.out (below_drews (m5 + m6))) _ h; omega
        have B7 := Lib.hid (B6.out.trans (HBX.out.1.mono B6.out.size))
        have hxw := B6.out.size
        have hFw : ∀ k, F0 k → w.heap.size ≤ k := fun k hk => Nat.le_trans B2.out.size (HFF.out k hk)
        have hfa7 := HFA.out.below B7.out
        obtain ⟨x, hx⟩ : ∃ x, (w4.drewN (m5 + m6)).heap.size = x := ⟨_, rfl⟩
        have hx0 : w4.heap.size = x := hx
        have hdk : DkAt (fun k => ¬ F0 k ∧ k ≠ x) (((w4.drewN (m5 + m6)).alloc (.cells dkZ 33)).setRow (w4.drewN (m5 + m6)).heap.size (dkC a a none c c 0 ⟨files, files, [], room⟩)) (dkC a a none c c 0 ⟨files, files, [], room⟩) ⟨files, files, [], room⟩ := by
          have hap : files = [] ∨ AdrP (fun k => ¬ F0 k ∧ k ≠ x) a := by
            rcases HFA.out with h | ⟨b0, off, h1, h2, _⟩
            · exact .inl h
            · refine .inr ?_
              rintro b1 ⟨off1, h3⟩
              rw [h1] at h3; simp at h3; obtain ⟨rfl, _⟩ := h3
              exact ⟨fun h => by have := hFw _ h; omega, by omega⟩
          exact ⟨a, a, none, c, c, 0, rfl, hfa7, hfa7, .inl rfl, ⟨hcap, hcap, Nat.le_refl _⟩, hap, hap, .inl rfl⟩
        rw [hx] at hxn hFx hxw
        rw [hx0]
        obtain ⟨W8, hW8⟩ : ∃ W, ((w4.drewN (m5 + m6)).alloc (.cells dkZ 33)).setRow x (dkC a a none c c 0 ⟨files, files, [], room⟩) = W := ⟨_, rfl⟩
        rw [hx] at HP5 B7 hdk
        rw [hW8] at HP5 hxn B7 hdk
        unfold dkZ at hW8
        rw [hW8]
        have HST := Lib.hid (show actRel PD w b x l.length (.int .i64 0) W8 from ⟨0, F0, _, ⟨files, files, [], room⟩, by omega, rfl, B7.out, HP5.out, hFw, hxn, hxw, hFx, hdk, HPL.out⟩)
        clear hW8 hx0 HBX HP5 hxn hFx B7 hxw hFw hfa7 hx hdk HPD HPD4 HFF B1 B2 B3 B4 B5 B6 HG HMY HRM HUS HOF HPL
        go_loopw [10] (fun vi W => actRel PD w b x l.length vi W) (fun vi _ => l.length - (intOf vi).toNat)
        case atStart => exact HST.out
        case round =>
          clear HST
          obtain ⟨i, F, cs, d, hi, rfl, hlo, hpd, hfw, hxb, hxw, hxf, hdk, hok⟩ := hrel
          by_cases hlt : i < l.length
          · obtain ⟨t, ht⟩ : ∃ t, l[i]? = Option.some t := ⟨l[i], by simp [hlt]⟩
            obtain ⟨ba, oa, rfl, hrg, hnk, hka, hki, hpl, hkz⟩ := HLA.out.get hlo (Nat.le_refl _) ht
            have hld := load_act hrg
            obtain ⟨kind, name, pl, s, ka, kc, keep⟩ := t
            dsimp only [acells] at hld hnk hka hki hpl hkz
            have HLD := Lib.hid hld
            have HLO := Lib.hid hlo
            clear ht hrg hld
            by_cases hs3 : (300 : Int) < (s.size : Int)
            · clear hpd hfw hxb hxw hxf hdk hok hnk hka hki hpl hkz hlo
              go_wp2_with (((with_reducible refine atLoad (ty := 36) (x := .tmp 79) rfl ?_); refine wpList_loadGD rfl 36 (.tmp 79) rfl (.pointer (Option.some ⟨ba, oa + i * 5, none⟩)) (.agg #[.int .u8 kind, .string name, .int .i64 pl, .string s, .slice ka keep.length kc]) rfl HLD.out ?_))
              go_ret
              exact ⟨rfl, HLO.out.alloc HLO.out.size _⟩
            by_cases hn3 : (100 : Int) < (name.size : Int)
            · clear hpd hfw hxb hxw hxf hdk hok hnk hka hki hpl hkz hlo
              go_wp2_with (((with_reducible refine atLoad (ty := 36) (x := .tmp 79) rfl ?_); refine wpList_loadGD rfl 36 (.tmp 79) rfl (.pointer (Option.some ⟨ba, oa + i * 5, none⟩)) (.agg #[.int .u8 kind, .string name, .int .i64 pl, .string s, .slice ka keep.length kc]) rfl HLD.out ?_))
              go_ret
              exact ⟨rfl, HLO.out.alloc HLO.out.size _⟩
            by_cases hk3 : (100 : Int) < (keep.length : Int)
            · clear hpd hfw hxb hxw hxf hdk hok hnk hka hki hpl hkz hlo
              go_wp2_with (((with_reducible refine atLoad (ty := 36) (x := .tmp 79) rfl ?_); refine wpList_loadGD rfl 36 (.tmp 79) rfl (.pointer (Option.some ⟨ba, oa + i * 5, none⟩)) (.agg #[.int .u8 kind, .string name, .int .i64 pl, .string s, .slice ka keep.length kc]) rfl HLD.out ?_))
              go_ret
              exact ⟨rfl, HLO.out.alloc HLO.out.size _⟩
            have hyb := heap_alloc_new wr (.cells #[.int .u8 kind, .string name, .int .i64 pl, .string s, .slice ka keep.length kc] 36)
            have hyf : ¬ F wr.heap.size := fun h => by have := C.lt hpd _ h; omega
            have hyx : wr.heap.size ≠ x := fun e => by have := lt_of_blkD hxb; omega
            have hba := (Below.refl _ wr).alloc (Nat.le_refl _) (.cells #[.int .u8 kind, .string name, .int .i64 pl, .string s, .slice ka keep.length kc] 36)
            have HS := Lib.hid (show PlS PD w b x wr.heap.size #[.int .u8 kind, .string name, .int .i64 pl, .string s, .slice ka keep.length kc] F cs d d (wr.alloc (.cells #[.int .u8 kind, .string name, .int .i64 pl, .string s, .slice ka keep.length kc] 36)) from ⟨hlo.alloc hlo.size _, C.below hpd hba, hfw, (hba.block _ (lt_of_blkD hxb)).trans hxb, hxw, hxf, hyb, hyf, hyx, hdk.below hba⟩)
            have HOK := Lib.hid (hok.le (show 60 + i ≤ 200 by omega))
            have HOK1 := Lib.hid hok
            have HNK := Lib.hid (show NumsAt (wr.alloc (.cells #[.int .u8 kind, .string name, .int .i64 pl, .string s, .slice ka keep.length kc] 36)) ka keep from hnk.belowB hka ((Below.refl w.heap.size wr).alloc hlo.size _) hlo.size)
            clear hyb hyf hyx hba hpd hfw hxb hxw hxf hdk hok hlo hnk
            by_cases k4 : kind % 7 = 4
            · have k4b : (kind % 7 == 4) = true := beq_iff_eq.2 k4
              clear k4
              have HP := Lib.hid (C.sync HS.out.pd HOK.out)
              have HD := Lib.hid (fun (P : Nat → Prop) (cs : Array Value) (W : World) (h : DkAt P W cs d) => rsyncD h)
              have HOKN := Lib.hid (play_sync HOK1.out)
              generalize syncF d = d2 at *
              have HOK2 := Lib.hid (HOKN.out.le (show 60 + i + 1 ≤ 200 by omega))
              clear HOK HOK1 hpl hkz
              go_upto_region 34 with (first
                | ((with_reducible refine atLoad (ty := 36) (x := .tmp 79) rfl ?_); refine wpList_loadGD rfl 36 (.tmp 79) rfl (.pointer (Option.some ⟨ba, oa + i * 5, none⟩)) (.agg #[.int .u8 kind, .string name, .int .i64 pl, .string s, .slice ka keep.length kc]) rfl HLD.out ?_)
                | (go_at_call 12; refine HP.out.mono ?_; rintro e w5 ⟨rfl, F1, hp1, hf1, hg1⟩; have HS1 := Lib.hid (HS.out.step hp1 hf1 hg1); clear hp1 hf1 hg1)
                | ((with_reducible refine atLoad (ty := 33) (x := .tmp 9) rfl ?_); refine wpList_load_row rfl 33 (.tmp 9) rfl x rfl 33 cs (0, 0) _ HS1.out.xb Try.underlying33 rfl HS1.out.dk.size.2.2 ?_)
                | (go_at_call 13; refine (HD.out _ _ _ HS1.out.dk).mono ?_; rintro e w6 ⟨cs2, rfl, hd2, hb2⟩; have HS2 := Lib.hid (HS1.out.below C hb2); have HD2 := Lib.hid hd2; have HT := Lib.hid (HS2.out.put C hd2); clear hd2 hb2)
                | ((with_reducible refine atStore (ty := 33) (x := .tmp 9) (y := .tmp 125) rfl ?_); refine wpList_store_row rfl 33 (.tmp 9) (.tmp 125) rfl x cs2 rfl rfl 33 _ HS2.out.xb HD2.out.size.2.2 (by rw [HS2.out.dk.size.1, HD2.out.size.1]) HD2.out.size.2.1 ?_))
              clear HS HP HD HS1 HS2 HD2 HLD HLO HNK
              obtain ⟨y, hy⟩ : ∃ y, wr.heap.size = y := ⟨_, rfl⟩
              obtain ⟨WT, hWT⟩ : ∃ W, w6.setRow x cs2 = W := ⟨_, rfl⟩
              rw [hWT] at HT ⊢
              rw [hy] at HT ⊢
              obtain ⟨y1, y2, y3, e1, e2, e3, hcs, z1, z2, z3, hl5, _⟩ := HT.out.dk
              have hcs2 : cs2.size = 4 := by rw [hcs]; rfl
              have hc20 : cs2[0]? = some (.slice y1 d2.stands.length e1) := by rw [hcs]; rfl
              have hxlt := lt_of_blkD HT.out.xb
              have hylt := lt_of_blkD HT.out.yb
              clear hcs hWT
              refine wp_region_held_drew (S := fun W2 => W2.heap[x]? = some (.cells cs2 33 (0, 0)) ∧ W2.heap[y]? = some (.cells #[.int .u8 kind, .string name, .int .i64 pl, .string s, .slice ka keep.length kc] 36 (0, 0)) ∧ Below WT.heap.size WT W2) (by kernel_rfl) (⟨HT.out.xb, HT.out.yb, (Below.refl _ WT).drew⟩) (fun hS => ?_)
              refine wpAnyH_take (i := 0) (v := .int .i64 0) rfl (by kernel_rfl) (by kernel_rfl) (by kernel_rfl) (fun _ _ _ h => h) (Or.inl ⟨by simp [Region.wanted], fun W _ => by go_simp⟩) hS ?_
              simp only [List.getElem_toArray, List.getElem_cons_zero, Act.put, List.setIfInBounds_toArray, List.set_cons_zero, List.set_cons_succ]
              refine wpAnyH_take (i := 1) (v := .int .i64 0) rfl (by kernel_rfl) (by kernel_rfl) (by kernel_rfl) (fun _ _ _ h => h) (Or.inl ⟨by simp [Region.wanted], fun W _ => by go_simp⟩) hS ?_
              simp only [List.getElem_toArray, List.getElem_cons_zero, List.getElem_cons_succ, Act.put, List.setIfInBounds_toArray, List.set_cons_zero, List.set_cons_succ]
              refine wpAnyH_take (i := 2) (v := .bool false) rfl (by kernel_rfl) (by kernel_rfl) (by kernel_rfl) (fun _ _ _ h => h) (Or.inl ⟨by simp [Region.wanted], fun W _ => by go_simp⟩) hS ?_
              simp only [List.getElem_toArray, List.getElem_cons_zero, List.getElem_cons_succ, Act.put, List.setIfInBounds_toArray, List.set_cons_zero, List.set_cons_succ]
              refine wpAnyH_take (i := 3) (v := .bool false) rfl (by kernel_rfl) (by kernel_rfl) (by kernel_rfl) (fun _ _ _ h => h) (Or.inl ⟨by simp [Region.wanted], fun W _ => by go_simp⟩) hS ?_
              simp only [List.getElem_toArray, List.getElem_cons_zero, List.getElem_cons_succ, Act.put, List.setIfInBounds_toArray, List.set_cons_zero, List.set_cons_succ]
              refine wpAnyH_take (i := 4) (v := .pointer (some ⟨b, 0, none⟩)) rfl (by kernel_rfl) (by kernel_rfl) (by kernel_rfl) (fun _ _ _ h => h) (Or.inl ⟨by rfl, fun W _ => by go_simp⟩) hS ?_
              simp only [List.getElem_toArray, List.getElem_cons_zero, List.getElem_cons_succ, Act.put, List.setIfInBounds_toArray, List.set_cons_zero, List.set_cons_succ]
              refine wpAnyH_take (i := 5) (v := .agg cs2) rfl (by kernel_rfl) (by kernel_rfl) (by kernel_rfl) (fun _ _ _ h => h) (yieldsIf_loadK (by rfl) 33 (.tmp 9) rfl _ _ rfl (fun W hW => load_row4 hcs2 hW.1)) hS ?_
              simp only [List.getElem_toArray, List.getElem_cons_zero, List.getElem_cons_succ, Act.put, List.setIfInBounds_toArray, List.set_cons_zero, List.set_cons_succ]
              refine wpAnyH_ready (rs := [6]) (by kernel_rfl) (by simp) ?_
              refine AllReadyH.cons rfl (fun K1 hK1 => ?_) AllReadyH.nil
              rw [if_pos (by rfl)]
              simp only [List.getElem_toArray, List.getElem_cons_zero, List.getElem_cons_succ]
              have HC1 := Lib.hid (same21 C (C.below HT.out.pd hS.2.2) (HT.out.dk.below hS.2.2) HOK2.out)
              go_wp2_with (go_at_call 21; refine HC1.out.mono ?_; rintro e w11 ⟨rfl, hb⟩; have HB1 := Lib.hid hb; clear hb)
              refine hK1.out _ _ (⟨(HB1.out.block _ (Nat.lt_of_lt_of_le hxlt hS.2.2.size)).trans hS.1, (HB1.out.block _ (Nat.lt_of_lt_of_le hylt hS.2.2.size)).trans hS.2.1, bt2 hS.2.2 HB1.out⟩) (fun hS1 => ?_)
              refine wpAnyH_take (i := 7) (v := .bool false) rfl (by kernel_rfl) (by kernel_rfl) (by kernel_rfl) (fun _ _ _ h => h) (Or.inl ⟨by rfl, fun W _ => by go_simp⟩) hS1 ?_
              simp only [List.getElem_toArray, List.getElem_cons_zero, List.getElem_cons_succ, Act.put, List.setIfInBounds_toArray, List.set_cons_zero, List.set_cons_succ]
              refine wpAnyH_take (i := 8) (v := .bool false) rfl (by kernel_rfl) (by kernel_rfl) (by kernel_rfl) (fun _ _ _ h => h) (Or.inl ⟨by simp [Region.wanted], fun W _ => by go_simp⟩) hS1 ?_
              simp only [List.getElem_toArray, List.getElem_cons_zero, List.getElem_cons_succ, Act.put, List.setIfInBounds_toArray, List.set_cons_zero, List.set_cons_succ]
              refine wpAnyH_take (i := 9) (v := .bool false) rfl (by kernel_rfl) (by kernel_rfl) (by kernel_rfl) (fun _ _ _ h => h) (Or.inl ⟨by simp [Region.wanted], fun W _ => by go_simp⟩) hS1 ?_
              simp only [List.getElem_toArray, List.getElem_cons_zero, List.getElem_cons_succ, Act.put, List.setIfInBounds_toArray, List.set_cons_zero, List.set_cons_succ]
              refine wpAnyH_take (i := 10) (v := .pointer (some ⟨b, 0, none⟩)) rfl (by kernel_rfl) (by kernel_rfl) (by kernel_rfl) (fun _ _ _ h => h) (Or.inl ⟨by rfl, fun W _ => by go_simp⟩) hS1 ?_
              simp only [List.getElem_toArray, List.getElem_cons_zero, List.getElem_cons_succ, Act.put, List.setIfInBounds_toArray, List.set_cons_zero, List.set_cons_succ]
              refine wpAnyH_take (i := 11) (v := .pointer (some ⟨y, 1, none⟩)) rfl (by kernel_rfl) (by kernel_rfl) (by kernel_rfl) (fun _ _ _ h => h) (Or.inl ⟨by rfl, fun W _ => by go_simp⟩) hS1 ?_
              simp only [List.getElem_toArray, List.getElem_cons_zero, List.getElem_cons_succ, Act.put, List.setIfInBounds_toArray, List.set_cons_zero, List.set_cons_succ]
              refine wpAnyH_take (i := 12) (v := .string name) rfl (by kernel_rfl) (by kernel_rfl) (by kernel_rfl) (fun _ _ _ h => h) (.inl ⟨by rfl, fun W hW => by have hq := cellD hW.2.1 1 (.string name) rfl; unfold execOp; go_simp⟩) hS1 ?_
              simp only [List.getElem_toArray, List.getElem_cons_zero, List.getElem_cons_succ, Act.put, List.setIfInBounds_toArray, List.set_cons_zero, List.set_cons_succ]
              refine wpAnyH_take (i := 14) (v := .pointer (some ⟨x, 0, none⟩)) rfl (by kernel_rfl) (by kernel_rfl) (by kernel_rfl) (fun _ _ _ h => h) (Or.inl ⟨by rfl, fun W _ => by go_simp⟩) hS1 ?_
              simp only [List.getElem_toArray, List.getElem_cons_zero, List.getElem_cons_succ, Act.put, List.setIfInBounds_toArray, List.set_cons_zero, List.set_cons_succ]
              refine wpAnyH_take (i := 15) (v := .slice y1 d2.stands.length e1) rfl (by kernel_rfl) (by kernel_rfl) (by kernel_rfl) (fun _ _ _ h => h) (.inl ⟨by rfl, fun W hW => by have hq := cellD hW.1 0 (.slice y1 d2.stands.length e1) hc20; unfold execOp; go_simp⟩) hS1 ?_
              simp only [List.getElem_toArray, List.getElem_cons_zero, List.getElem_cons_succ, Act.put, List.setIfInBounds_toArray, List.set_cons_zero, List.set_cons_succ]
              refine wpAnyH_take (i := 16) (v := .pointer (some ⟨y, 1, none⟩)) rfl (by kernel_rfl) (by kernel_rfl) (by kernel_rfl) (fun _ _ _ h => h) (Or.inl ⟨by rfl, fun W _ => by go_simp⟩) hS1 ?_
              simp only [List.getElem_toArray, List.getElem_cons_zero, List.getElem_cons_succ, Act.put, List.setIfInBounds_toArray, List.set_cons_zero, List.set_cons_succ]
              refine wpAnyH_take (i := 17) (v := .string name) rfl (by kernel_rfl) (by kernel_rfl) (by kernel_rfl) (fun _ _ _ h => h) (.inl ⟨by rfl, fun W hW => by have hq := cellD hW.2.1 1 (.string name) rfl; unfold execOp; go_simp⟩) hS1 ?_
              simp only [List.getElem_toArray, List.getElem_cons_zero, List.getElem_cons_succ, Act.put, List.setIfInBounds_toArray, List.set_cons_zero, List.set_cons_succ]
              refine wpAnyH_ready (rs := [13]) (by kernel_rfl) (by simp) ?_
              refine AllReadyH.cons rfl (fun K2 hK2 => ?_) AllReadyH.nil
              rw [if_pos (by rfl)]
              simp only [List.getElem_toArray, List.getElem_cons_zero, List.getElem_cons_succ]
              have HC2 := Lib.hid (C.read name (C.below HT.out.pd hS1.2.2) HOK2.out (by unfold maxLen; omega))
              go_wp2_with (go_at_call 22; refine HC2.out.mono ?_; rintro e w12 ⟨rfl, hb⟩; have HB2 := Lib.hid hb; clear hb)
              refine hK2.out _ _ (⟨(HB2.out.block _ (Nat.lt_of_lt_of_le hxlt hS1.2.2.size)).trans hS1.1, (HB2.out.block _ (Nat.lt_of_lt_of_le hylt hS1.2.2.size)).trans hS1.2.1, bt2 hS1.2.2 HB2.out⟩) (fun hS2 => ?_)
              refine wpAnyH_ready (rs := [18]) (by kernel_rfl) (by simp) ?_
              refine AllReadyH.cons rfl (fun K3 hK3 => ?_) AllReadyH.nil
              rw [if_pos (by rfl)]
              simp only [List.getElem_toArray, List.getElem_cons_zero, List.getElem_cons_succ]
              have HC3 := Lib.hid (rread23 y1 d2.stands e1 name w12 (z1.below hS2.2.2) (by have := HOK2.out.ls; unfold maxLen; omega))
              go_wp2_with (go_at_call 23; refine HC3.out.mono ?_; rintro e w13 ⟨rfl, rfl⟩)
              refine hK3.out _ _ (hS2) (fun hS3 => ?_)
              refine wpAnyH_take (i := 19) (v := .bool false) rfl (by kernel_rfl) (by kernel_rfl) (by kernel_rfl) (fun _ _ _ h => h) (Or.inl ⟨by rfl, fun W _ => by go_simp⟩) hS3 ?_
              simp only [List.getElem_toArray, List.getElem_cons_zero, List.getElem_cons_succ, Act.put, List.setIfInBounds_toArray, List.set_cons_zero, List.set_cons_succ]
              refine wpAnyH_take (i := 20) (v := .bool false) rfl (by kernel_rfl) (by kernel_rfl) (by kernel_rfl) (fun _ _ _ h => h) (Or.inl ⟨by simp [Region.wanted], fun W _ => by go_simp⟩) hS3 ?_
              simp only [List.getElem_toArray, List.getElem_cons_zero, List.getElem_cons_succ, Act.put, List.setIfInBounds_toArray, List.set_cons_zero, List.set_cons_succ]
              refine wpAnyH_done (by kernel_rfl) ?_ _
              have HF := Lib.hid (HT.out.below C hS3.2.2)
              go_wp2
              go_roundw
              case rel => exact ⟨i + 1, F1, cs2, d2, by omega, by go_num, HF.out.lo, HF.out.pd, HF.out.fw, HF.out.xb, HF.out.xw, HF.out.xf, HF.out.dk, HOKN.out⟩
              case measure => simp [intOf]; omega
            by_cases k5 : kind % 7 = 5
            · have k4b : (kind % 7 == 4) = false := beq_eq_false_iff_ne.2 k4
              have k5b : (kind % 7 == 5) = true := beq_iff_eq.2 k5
              clear k4 k5
              have HP := Lib.hid (C.cut name pl HS.out.pd HOK.out (by omega) hpl)
              have HD := Lib.hid (fun (P : Nat → Prop) (cs : Array Value) (W : World) (h : DkAt P W cs d) hg => rcut15 P cs d name pl W h hg (by have := HOK.out.ls; omega))
              have HOKN := Lib.hid (play_cut HOK1.out name pl)
              generalize cutF d name pl = z at *
              obtain ⟨d2, E⟩ := z
              dsimp only at HP HD HOKN
              have HOK2 := Lib.hid (HOKN.out.le (show 60 + i + 1 ≤ 200 by omega))
              clear HOK HOK1 hpl hkz
              go_upto_region 34 with (first
                | ((with_reducible refine atLoad (ty := 36) (x := .tmp 79) rfl ?_); refine wpList_loadGD rfl 36 (.tmp 79) rfl (.pointer (Option.some ⟨ba, oa + i * 5, none⟩)) (.agg #[.int .u8 kind, .string name, .int .i64 pl, .string s, .slice ka keep.length kc]) rfl HLD.out ?_)
                | (go_at_call 14; refine HP.out.mono ?_; rintro e w5 ⟨rfl, F1, hp1, hf1, hg1⟩; have HS1 := Lib.hid (HS.out.step hp1 hf1 hg1); have q1 := cellD HS1.out.yb 1 (.string name) rfl; have q2 := cellD HS1.out.yb 2 (.int .i64 pl) rfl; have q3 := cellD HS1.out.yb 3 (.string s) rfl; clear hp1 hf1 hg1)
                | ((with_reducible refine atLoad (ty := 33) (x := .tmp 9) rfl ?_); refine wpList_load_row rfl 33 (.tmp 9) rfl x rfl 33 cs (0, 0) _ HS1.out.xb Try.underlying33 rfl HS1.out.dk.size.2.2 ?_)
                | (go_at_call 15; refine (HD.out _ _ _ HS1.out.dk (HS1.out.far C)).mono ?_; rintro e w6 ⟨cs2, rfl, hd2, hb2⟩; have HS2 := Lib.hid (HS1.out.below C hb2); have HD2 := Lib.hid hd2; have HT := Lib.hid (HS2.out.put C hd2); clear hd2 hb2 q1 q2 q3)
                | ((with_reducible refine atStore (ty := 33) (x := .tmp 9) (y := .tmp 141) rfl ?_); refine wpList_store_row rfl 33 (.tmp 9) (.tmp 141) rfl x cs2 rfl rfl 33 _ HS2.out.xb HD2.out.size.2.2 (by rw [HS2.out.dk.size.1, HD2.out.size.1]) HD2.out.size.2.1 ?_))
              clear HS HP HD HS1 HS2 HD2 HLD HLO HNK
              obtain ⟨y, hy⟩ : ∃ y, wr.heap.size = y := ⟨_, rfl⟩
              obtain ⟨WT, hWT⟩ : ∃ W, w6.setRow x cs2 = W := ⟨_, rfl⟩
              rw [hWT] at HT ⊢
              rw [hy] at HT ⊢
              obtain ⟨y1, y2, y3, e1, e2, e3, hcs, z1, z2, z3, hl5, _⟩ := HT.out.dk
              have hcs2 : cs2.size = 4 := by rw [hcs]; rfl
              have hc20 : cs2[0]? = some (.slice y1 d2.stands.length e1) := by rw [hcs]; rfl
              have hxlt := lt_of_blkD HT.out.xb
              have hylt := lt_of_blkD HT.out.yb
              clear hcs hWT
              refine wp_region_held_drew (S := fun W2 => W2.heap[x]? = some (.cells cs2 33 (0, 0)) ∧ W2.heap[y]? = some (.cells #[.int .u8 kind, .string name, .int .i64 pl, .string s, .slice ka keep.length kc] 36 (0, 0)) ∧ Below WT.heap.size WT W2) (by kernel_rfl) (⟨HT.out.xb, HT.out.yb, (Below.refl _ WT).drew⟩) (fun hS => ?_)
              refine wpAnyH_take (i := 0) (v := .int .i64 E) rfl (by kernel_rfl) (by kernel_rfl) (by kernel_rfl) (fun _ _ _ h => h) (Or.inl ⟨by simp [Region.wanted], fun W _ => by go_simp⟩) hS ?_
              simp only [List.getElem_toArray, List.getElem_cons_zero, Act.put, List.setIfInBounds_toArray, List.set_cons_zero, List.set_cons_succ]
              refine wpAnyH_take (i := 1) (v := .int .i64 E) rfl (by kernel_rfl) (by kernel_rfl) (by kernel_rfl) (fun _ _ _ h => h) (Or.inl ⟨by simp [Region.wanted], fun W _ => by go_simp⟩) hS ?_
              simp only [List.getElem_toArray, List.getElem_cons_zero, List.getElem_cons_succ, Act.put, List.setIfInBounds_toArray, List.set_cons_zero, List.set_cons_succ]
              refine wpAnyH_take (i := 2) (v := .bool false) rfl (by kernel_rfl) (by kernel_rfl) (by kernel_rfl) (fun _ _ _ h => h) (Or.inl ⟨by simp [Region.wanted], fun W _ => by go_simp⟩) hS ?_
              simp only [List.getElem_toArray, List.getElem_cons_zero, List.getElem_cons_succ, Act.put, List.setIfInBounds_toArray, List.set_cons_zero, List.set_cons_succ]
              refine wpAnyH_take (i := 3) (v := .bool false) rfl (by kernel_rfl) (by kernel_rfl) (by kernel_rfl) (fun _ _ _ h => h) (Or.inl ⟨by simp [Region.wanted], fun W _ => by go_simp⟩) hS ?_
              simp only [List.getElem_toArray, List.getElem_cons_zero, List.getElem_cons_succ, Act.put, List.setIfInBounds_toArray, List.set_cons_zero, List.set_cons_succ]
              refine wpAnyH_take (i := 4) (v := .pointer (some ⟨b, 0, none⟩)) rfl (by kernel_rfl) (by kernel_rfl) (by kernel_rfl) (fun _ _ _ h => h) (Or.inl ⟨by rfl, fun W _ => by go_simp⟩) hS ?_
              simp only [List.getElem_toArray, List.getElem_cons_zero, List.getElem_cons_succ, Act.put, List.setIfInBounds_toArray, List.set_cons_zero, List.set_cons_succ]
              refine wpAnyH_take (i := 5) (v := .agg cs2) rfl (by kernel_rfl) (by kernel_rfl) (by kernel_rfl) (fun _ _ _ h => h) (yieldsIf_loadK (by rfl) 33 (.tmp 9) rfl _ _ rfl (fun W hW => load_row4 hcs2 hW.1)) hS ?_
              simp only [List.getElem_toArray, List.getElem_cons_zero, List.getElem_cons_succ, Act.put, List.setIfInBounds_toArray, List.set_cons_zero, List.set_cons_succ]
              refine wpAnyH_ready (rs := [6]) (by kernel_rfl) (by simp) ?_
              refine AllReadyH.cons rfl (fun K1 hK1 => ?_) AllReadyH.nil
              rw [if_pos (by rfl)]
              simp only [List.getElem_toArray, List.getElem_cons_zero, List.getElem_cons_succ]
              have HC1 := Lib.hid (same21 C (C.below HT.out.pd hS.2.2) (HT.out.dk.below hS.2.2) HOK2.out)
              go_wp2_with (go_at_call 21; refine HC1.out.mono ?_; rintro e w11 ⟨rfl, hb⟩; have HB1 := Lib.hid hb; clear hb)
              refine hK1.out _ _ (⟨(HB1.out.block _ (Nat.lt_of_lt_of_le hxlt hS.2.2.size)).trans hS.1, (HB1.out.block _ (Nat.lt_of_lt_of_le hylt hS.2.2.size)).trans hS.2.1, bt2 hS.2.2 HB1.out⟩) (fun hS1 => ?_)
              refine wpAnyH_take (i := 7) (v := .bool false) rfl (by kernel_rfl) (by kernel_rfl) (by kernel_rfl) (fun _ _ _ h => h) (Or.inl ⟨by rfl, fun W _ => by go_simp⟩) hS1 ?_
              simp only [List.getElem_toArray, List.getElem_cons_zero, List.getElem_cons_succ, Act.put, List.setIfInBounds_toArray, List.set_cons_zero, List.set_cons_succ]
              refine wpAnyH_take (i := 8) (v := .bool false) rfl (by kernel_rfl) (by kernel_rfl) (by kernel_rfl) (fun _ _ _ h => h) (Or.inl ⟨by simp [Region.wanted], fun W _ => by go_simp⟩) hS1 ?_
              simp only [List.getElem_toArray, List.getElem_cons_zero, List.getElem_cons_succ, Act.put, List.setIfInBounds_toArray, List.set_cons_zero, List.set_cons_succ]
              refine wpAnyH_take (i := 9) (v := .bool false) rfl (by kernel_rfl) (by kernel_rfl) (by kernel_rfl) (fun _ _ _ h => h) (Or.inl ⟨by simp [Region.wanted], fun W _ => by go_simp⟩) hS1 ?_
              simp only [List.getElem_toArray, List.getElem_cons_zero, List.getElem_cons_succ, Act.put, List.setIfInBounds_toArray, List.set_cons_zero, List.set_cons_succ]
              refine wpAnyH_take (i := 10) (v := .pointer (some ⟨b, 0, none⟩)) rfl (by kernel_rfl) (by kernel_rfl) (by kernel_rfl) (fun _ _ _ h => h) (Or.inl ⟨by rfl, fun W _ => by go_simp⟩) hS1 ?_
              simp only [List.getElem_toArray, List.getElem_cons_zero, List.getElem_cons_succ, Act.put, List.setIfInBounds_toArray, List.set_cons_zero, List.set_cons_succ]
              refine wpAnyH_take (i := 11) (v := .pointer (some ⟨y, 1, none⟩)) rfl (by kernel_rfl) (by kernel_rfl) (by kernel_rfl) (fun _ _ _ h => h) (Or.inl ⟨by rfl, fun W _ => by go_simp⟩) hS1 ?_
              simp only [List.getElem_toArray, List.getElem_cons_zero, List.getElem_cons_succ, Act.put, List.setIfInBounds_toArray, List.set_cons_zero, List.set_cons_succ]
              refine wpAnyH_take (i := 12) (v := .string name) rfl (by kernel_rfl) (by kernel_rfl) (by kernel_rfl) (fun _ _ _ h => h) (.inl ⟨by rfl, fun W hW => by have hq := cellD hW.2.1 1 (.string name) rfl; unfold execOp; go_simp⟩) hS1 ?_
              simp only [List.getElem_toArray, List.getElem_cons_zero, List.getElem_cons_succ, Act.put, List.setIfInBounds_toArray, List.set_cons_zero, List.set_cons_succ]
              refine wpAnyH_take (i := 14) (v := .pointer (some ⟨x, 0, none⟩)) rfl (by kernel_rfl) (by kernel_rfl) (by kernel_rfl) (fun _ _ _ h => h) (Or.inl ⟨by rfl, fun W _ => by go_simp⟩) hS1 ?_
              simp only [List.getElem_toArray, List.getElem_cons_zero, List.getElem_cons_succ, Act.put, List.setIfInBounds_toArray, List.set_cons_zero, List.set_cons_succ]
              refine wpAnyH_take (i := 15) (v := .slice y1 d2.stands.length e1) rfl (by kernel_rfl) (by kernel_rfl) (by kernel_rfl) (fun _ _ _ h => h) (.inl ⟨by rfl, fun W hW => by have hq := cellD hW.1 0 (.slice y1 d2.stands.length e1) hc20; unfold execOp; go_simp⟩) hS1 ?_
              simp only [List.getElem_toArray, List.getElem_cons_zero, List.getElem_cons_succ, Act.put, List.setIfInBounds_toArray, List.set_cons_zero, List.set_cons_succ]
              refine wpAnyH_take (i := 16) (v := .pointer (some ⟨y, 1, none⟩)) rfl (by kernel_rfl) (by kernel_rfl) (by kernel_rfl) (fun _ _ _ h => h) (Or.inl ⟨by rfl, fun W _ => by go_simp⟩) hS1 ?_
              simp only [List.getElem_toArray, List.getElem_cons_zero, List.getElem_cons_succ, Act.put, List.setIfInBounds_toArray, List.set_cons_zero, List.set_cons_succ]
              refine wpAnyH_take (i := 17) (v := .string name) rfl (by kernel_rfl) (by kernel_rfl) (by kernel_rfl) (fun _ _ _ h => h) (.inl ⟨by rfl, fun W hW => by have hq := cellD hW.2.1 1 (.string name) rfl; unfold execOp; go_simp⟩) hS1 ?_
              simp only [List.getElem_toArray, List.getElem_cons_zero, List.getElem_cons_succ, Act.put, List.setIfInBounds_toArray, List.set_cons_zero, List.set_cons_succ]
              refine wpAnyH_ready (rs := [13]) (by kernel_rfl) (by simp) ?_
              refine AllReadyH.cons rfl (fun K2 hK2 => ?_) AllReadyH.nil
              rw [if_pos (by rfl)]
              simp only [List.getElem_toArray, List.getElem_cons_zero, List.getElem_cons_succ]
              have HC2 := Lib.hid (C.read name (C.below HT.out.pd hS1.2.2) HOK2.out (by unfold maxLen; omega))
              go_wp2_with (go_at_call 22; refine HC2.out.mono ?_; rintro e w12 ⟨rfl, hb⟩; have HB2 := Lib.hid hb; clear hb)
              refine hK2.out _ _ (⟨(HB2.out.block _ (Nat.lt_of_lt_of_le hxlt hS1.2.2.size)).trans hS1.1, (HB2.out.block _ (Nat.lt_of_lt_of_le hylt hS1.2.2.size)).trans hS1.2.1, bt2 hS1.2.2 HB2.out⟩) (fun hS2 => ?_)
              refine wpAnyH_ready (rs := [18]) (by kernel_rfl) (by simp) ?_
              refine AllReadyH.cons rfl (fun K3 hK3 => ?_) AllReadyH.nil
              rw [if_pos (by rfl)]
              simp only [List.getElem_toArray, List.getElem_cons_zero, List.getElem_cons_succ]
              have HC3 := Lib.hid (rread23 y1 d2.stands e1 name w12 (z1.below hS2.2.2) (by have := HOK2.out.ls; unfold maxLen; omega))
              go_wp2_with (go_at_call 23; refine HC3.out.mono ?_; rintro e w13 ⟨rfl, rfl⟩)
              refine hK3.out _ _ (hS2) (fun hS3 => ?_)
              refine wpAnyH_take (i := 19) (v := .bool false) rfl (by kernel_rfl) (by kernel_rfl) (by kernel_rfl) (fun _ _ _ h => h) (Or.inl ⟨by rfl, fun W _ => by go_simp⟩) hS3 ?_
              simp only [List.getElem_toArray, List.getElem_cons_zero, List.getElem_cons_succ, Act.put, List.setIfInBounds_toArray, List.set_cons_zero, List.set_cons_succ]
              refine wpAnyH_take (i := 20) (v := .bool false) rfl (by kernel_rfl) (by kernel_rfl) (by kernel_rfl) (fun _ _ _ h => h) (Or.inl ⟨by simp [Region.wanted], fun W _ => by go_simp⟩) hS3 ?_
              simp only [List.getElem_toArray, List.getElem_cons_zero, List.getElem_cons_succ, Act.put, List.setIfInBounds_toArray, List.set_cons_zero, List.set_cons_succ]
              refine wpAnyH_done (by kernel_rfl) ?_ _
              have HF := Lib.hid (HT.out.below C hS3.2.2)
              go_wp2
              go_roundw
              case rel => exact ⟨i + 1, F1, cs2, d2, by omega, by go_num, HF.out.lo, HF.out.pd, HF.out.fw, HF.out.xb, HF.out.xw, HF.out.xf, HF.out.dk, HOKN.out⟩
              case measure => simp [intOf]; omega
            by_cases k6 : kind % 7 = 6
            · have k4b : (kind % 7 == 4) = false := beq_eq_false_iff_ne.2 k4
              have k5b : (kind % 7 == 5) = false := beq_eq_false_iff_ne.2 k5
              have k6b : (kind % 7 == 6) = true := beq_iff_eq.2 k6
              clear k4 k5 k6
              have hsa : (wr.alloc (.cells #[.int .u8 kind, .string name, .int .i64 pl, .string s, .slice ka keep.length kc] 36)).heap.size = wr.heap.size + 1 := World.size_alloc ..
              have hkp := keep17 ka keep.length kc (wr.alloc (.cells #[.int .u8 kind, .string name, .int .i64 pl, .string s, .slice ka keep.length kc] 36))
              rw [hsa] at hkp
              have HKP := Lib.hid hkp
              have HSA := Lib.hid hsa
              clear hkp hsa
              have hkf : keep = [] ∨ AdrP (fun k => ¬ F k) ka := hka.imp id (fun h k hk hf => by have := h k hk; have := HS.out.fw k hf; omega)
              have HP := Lib.hid (fun (W : World) (kb : Nat) (hp : PD W b F d) hk hn h1 => C.crash34 kb ka kc keep hp HOK.out hk hn h1 hkf (by omega) hkz)
              have HD := Lib.hid (fun (P : Nat → Prop) (cs : Array Value) (W : World) (h : DkAt P W cs d) hg (hn : NumsAt W ka keep) => rcrash18 P cs d ka kc keep W h hg hn (by omega) (by have := HOK.out.lk; omega) HOK.out.small (fun p hp => by have := HOK.out.mp p hp; omega) hkz)
              have HOKN := Lib.hid (play_crash HOK1.out keep)
              generalize crashF d keep = d2 at *
              have HOK2 := Lib.hid (HOKN.out.le (show 60 + i + 1 ≤ 200 by omega))
              clear HOK HOK1 hpl hkz
              go_upto_region 34 with (first
                | ((with_reducible refine atLoad (ty := 36) (x := .tmp 79) rfl ?_); refine wpList_loadGD rfl 36 (.tmp 79) rfl (.pointer (Option.some ⟨ba, oa + i * 5, none⟩)) (.agg #[.int .u8 kind, .string name, .int .i64 pl, .string s, .slice ka keep.length kc]) rfl HLD.out ?_)
                | (go_at_call 17; refine HKP.out.mono ?_; rintro e w4 ⟨rfl, hk1, hb1⟩; rw [← HSA.out] at hb1; have HS0 := Lib.hid (HS.out.below C hb1); have HK1 := Lib.hid hk1; have HN1 := Lib.hid (HNK.out.below hb1); have hkn : ¬ F (wr.heap.size + 1) := fun h => by { have := C.lt HS.out.pd _ h; rw [HSA.out] at this; omega }; have HKN := Lib.hid hkn; clear hk1 hb1 hkn)
                | (go_at_call 16; refine (HP.out w4 (wr.heap.size + 1) HS0.out.pd HK1.out HKN.out HN1.out).mono ?_; rintro e w5 ⟨rfl, F1, hp1, hf1, hg1⟩; have HS1 := Lib.hid (HS0.out.step hp1 hf1 hg1); have q4 := cellD HS1.out.yb 4 (.slice ka keep.length kc) rfl; have HN2 := Lib.hid (HN1.out.belowB hka (hf1.below HS0.out.fw HS0.out.lo.size) HS0.out.lo.size); clear hp1 hf1 hg1)
                | ((with_reducible refine atLoad (ty := 33) (x := .tmp 9) rfl ?_); refine wpList_load_row rfl 33 (.tmp 9) rfl x rfl 33 cs (0, 0) _ HS1.out.xb Try.underlying33 rfl HS1.out.dk.size.2.2 ?_)
                | (go_at_call 18; refine (HD.out _ _ _ HS1.out.dk (HS1.out.far C) HN2.out).mono ?_; rintro e w6 ⟨cs2, rfl, hd2, hb2⟩; have HS2 := Lib.hid (HS1.out.below C hb2); have HD2 := Lib.hid hd2; have HT := Lib.hid (HS2.out.put C hd2); clear hd2 hb2 q4)
                | ((with_reducible refine atStore (ty := 33) (x := .tmp 9) (y := .tmp 153) rfl ?_); refine wpList_store_row rfl 33 (.tmp 9) (.tmp 153) rfl x cs2 rfl rfl 33 _ HS2.out.xb HD2.out.size.2.2 (by rw [HS2.out.dk.size.1, HD2.out.size.1]) HD2.out.size.2.1 ?_))
              clear HS HP HD HS1 HS2 HD2 HLD HLO HNK HKP HS0 HK1 HN1 HKN HN2 HSA
              obtain ⟨y, hy⟩ : ∃ y, wr.heap.size = y := ⟨_, rfl⟩
              obtain ⟨WT, hWT⟩ : ∃ W, w6.setRow x cs2 = W := ⟨_, rfl⟩
              rw [hWT] at HT ⊢
              rw [hy] at HT ⊢
              obtain ⟨y1, y2, y3, e1, e2, e3, hcs, z1, z2, z3, hl5, _⟩ := HT.out.dk
              have hcs2 : cs2.size = 4 := by rw [hcs]; rfl
              have hc20 : cs2[0]? = some (.slice y1 d2.stands.length e1) := by rw [hcs]; rfl
              have hxlt := lt_of_blkD HT.out.xb
              have hylt := lt_of_blkD HT.out.yb
              clear hcs hWT
              refine wp_region_held_drew (S := fun W2 => W2.heap[x]? = some (.cells cs2 33 (0, 0)) ∧ W2.heap[y]? = some (.cells #[.int .u8 kind, .string name, .int .i64 pl, .string s, .slice ka keep.length kc] 36 (0, 0)) ∧ Below WT.heap.size WT W2) (by kernel_rfl) (⟨HT.out.xb, HT.out.yb, (Below.refl _ WT).drew⟩) (fun hS => ?_)
              refine wpAnyH_take (i := 0) (v := .int .i64 0) rfl (by kernel_rfl) (by kernel_rfl) (by kernel_rfl) (fun _ _ _ h => h) (Or.inl ⟨by simp [Region.wanted], fun W _ => by go_simp⟩) hS ?_
              simp only [List.getElem_toArray, List.getElem_cons_zero, Act.put, List.setIfInBounds_toArray, List.set_cons_zero, List.set_cons_succ]
              refine wpAnyH_take (i := 1) (v := .int .i64 0) rfl (by kernel_rfl) (by kernel_rfl) (by kernel_rfl) (fun _ _ _ h => h) (Or.inl ⟨by simp [Region.wanted], fun W _ => by go_simp⟩) hS ?_
              simp only [List.getElem_toArray, List.getElem_cons_zero, List.getElem_cons_succ, Act.put, List.setIfInBounds_toArray, List.set_cons_zero, List.set_cons_succ]
              refine wpAnyH_take (i := 2) (v := .bool false) rfl (by kernel_rfl) (by kernel_rfl) (by kernel_rfl) (fun _ _ _ h => h) (Or.inl ⟨by simp [Region.wanted], fun W _ => by go_simp⟩) hS ?_
              simp only [List.getElem_toArray, List.getElem_cons_zero, List.getElem_cons_succ, Act.put, List.setIfInBounds_toArray, List.set_cons_zero, List.set_cons_succ]
              refine wpAnyH_take (i := 3) (v := .bool false) rfl (by kernel_rfl) (by kernel_rfl) (by kernel_rfl) (fun _ _ _ h => h) (Or.inl ⟨by simp [Region.wanted], fun W _ => by go_simp⟩) hS ?_
              simp only [List.getElem_toArray, List.getElem_cons_zero, List.getElem_cons_succ, Act.put, List.setIfInBounds_toArray, List.set_cons_zero, List.set_cons_succ]
              refine wpAnyH_take (i := 4) (v := .pointer (some ⟨b, 0, none⟩)) rfl (by kernel_rfl) (by kernel_rfl) (by kernel_rfl) (fun _ _ _ h => h) (Or.inl ⟨by rfl, fun W _ => by go_simp⟩) hS ?_
              simp only [List.getElem_toArray, List.getElem_cons_zero, List.getElem_cons_succ, Act.put, List.setIfInBounds_toArray, List.set_cons_zero, List.set_cons_succ]
              refine wpAnyH_take (i := 5) (v := .agg cs2) rfl (by kernel_rfl) (by kernel_rfl) (by kernel_rfl) (fun _ _ _ h => h) (yieldsIf_loadK (by rfl) 33 (.tmp 9) rfl _ _ rfl (fun W hW => load_row4 hcs2 hW.1)) hS ?_
              simp only [List.getElem_toArray, List.getElem_cons_zero, List.getElem_cons_succ, Act.put, List.setIfInBounds_toArray, List.set_cons_zero, List.set_cons_succ]
              refine wpAnyH_ready (rs := [6]) (by kernel_rfl) (by simp) ?_
              refine AllReadyH.cons rfl (fun K1 hK1 => ?_) AllReadyH.nil
              rw [if_pos (by rfl)]
              simp only [List.getElem_toArray, List.getElem_cons_zero, List.getElem_cons_succ]
              have HC1 := Lib.hid (same21 C (C.below HT.out.pd hS.2.2) (HT.out.dk.below hS.2.2) HOK2.out)
              go_wp2_with (go_at_call 21; refine HC1.out.mono ?_; rintro e w11 ⟨rfl, hb⟩; have HB1 := Lib.hid hb; clear hb)
              refine hK1.out _ _ (⟨(HB1.out.block _ (Nat.lt_of_lt_of_le hxlt hS.2.2.size)).trans hS.1, (HB1.out.block _ (Nat.lt_of_lt_of_le hylt hS.2.2.size)).trans hS.2.1, bt2 hS.2.2 HB1.out⟩) (fun hS1 => ?_)
              refine wpAnyH_take (i := 7) (v := .bool false) rfl (by kernel_rfl) (by kernel_rfl) (by kernel_rfl) (fun _ _ _ h => h) (Or.inl ⟨by rfl, fun W _ => by go_simp⟩) hS1 ?_
              simp only [List.getElem_toArray, List.getElem_cons_zero, List.getElem_cons_succ, Act.put, List.setIfInBounds_toArray, List.set_cons_zero, List.set_cons_succ]
              refine wpAnyH_take (i := 8) (v := .bool false) rfl (by kernel_rfl) (by kernel_rfl) (by kernel_rfl) (fun _ _ _ h => h) (Or.inl ⟨by simp [Region.wanted], fun W _ => by go_simp⟩) hS1 ?_
              simp only [List.getElem_toArray, List.getElem_cons_zero, List.getElem_cons_succ, Act.put, List.setIfInBounds_toArray, List.set_cons_zero, List.set_cons_succ]
              refine wpAnyH_take (i := 9) (v := .bool false) rfl (by kernel_rfl) (by kernel_rfl) (by kernel_rfl) (fun _ _ _ h => h) (Or.inl ⟨by simp [Region.wanted], fun W _ => by go_simp⟩) hS1 ?_
              simp only [List.getElem_toArray, List.getElem_cons_zero, List.getElem_cons_succ, Act.put, List.setIfInBounds_toArray, List.set_cons_zero, List.set_cons_succ]
              refine wpAnyH_take (i := 10) (v := .pointer (some ⟨b, 0, none⟩)) rfl (by kernel_rfl) (by kernel_rfl) (by kernel_rfl) (fun _ _ _ h => h) (Or.inl ⟨by rfl, fun W _ => by go_simp⟩) hS1 ?_
              simp only [List.getElem_toArray, List.getElem_cons_zero, List.getElem_cons_succ, Act.put, List.setIfInBounds_toArray, List.set_cons_zero, List.set_cons_succ]
              refine wpAnyH_take (i := 11) (v := .pointer (some ⟨y, 1, none⟩)) rfl (by kernel_rfl) (by kernel_rfl) (by kernel_rfl) (fun _ _ _ h => h) (Or.inl ⟨by rfl, fun W _ => by go_simp⟩) hS1 ?_
              simp only [List.getElem_toArray, List.getElem_cons_zero, List.getElem_cons_succ, Act.put, List.setIfInBounds_toArray, List.set_cons_zero, List.set_cons_succ]
              refine wpAnyH_take (i := 12) (v := .string name) rfl (by kernel_rfl) (by kernel_rfl) (by kernel_rfl) (fun _ _ _ h => h) (.inl ⟨by rfl, fun W hW => by have hq := cellD hW.2.1 1 (.string name) rfl; unfold execOp; go_simp⟩) hS1 ?_
              simp only [List.getElem_toArray, List.getElem_cons_zero, List.getElem_cons_succ, Act.put, List.setIfInBounds_toArray, List.set_cons_zero, List.set_cons_succ]
              refine wpAnyH_take (i := 14) (v := .pointer (some ⟨x, 0, none⟩)) rfl (by kernel_rfl) (by kernel_rfl) (by kernel_rfl) (fun _ _ _ h => h) (Or.inl ⟨by rfl, fun W _ => by go_simp⟩) hS1 ?_
              simp only [List.getElem_toArray, List.getElem_cons_zero, List.getElem_cons_succ, Act.put, List.setIfInBounds_toArray, List.set_cons_zero, List.set_cons_succ]
              refine wpAnyH_take (i := 15) (v := .slice y1 d2.stands.length e1) rfl (by kernel_rfl) (by kernel_rfl) (by kernel_rfl) (fun _ _ _ h => h) (.inl ⟨by rfl, fun W hW => by have hq := cellD hW.1 0 (.slice y1 d2.stands.length e1) hc20; unfold execOp; go_simp⟩) hS1 ?_
              simp only [List.getElem_toArray, List.getElem_cons_zero, List.getElem_cons_succ, Act.put, List.setIfInBounds_toArray, List.set_cons_zero, List.set_cons_succ]
              refine wpAnyH_take (i := 16) (v := .pointer (some ⟨y, 1, none⟩)) rfl (by kernel_rfl) (by kernel_rfl) (by kernel_rfl) (fun _ _ _ h => h) (Or.inl ⟨by rfl, fun W _ => by go_simp⟩) hS1 ?_
              simp only [List.getElem_toArray, List.getElem_cons_zero, List.getElem_cons_succ, Act.put, List.setIfInBounds_toArray, List.set_cons_zero, List.set_cons_succ]
              refine wpAnyH_take (i := 17) (v := .string name) rfl (by kernel_rfl) (by kernel_rfl) (by kernel_rfl) (fun _ _ _ h => h) (.inl ⟨by rfl, fun W hW => by have hq := cellD hW.2.1 1 (.string name) rfl; unfold execOp; go_simp⟩) hS1 ?_
              simp only [List.getElem_toArray, List.getElem_cons_zero, List.getElem_cons_succ, Act.put, List.setIfInBounds_toArray, List.set_cons_zero, List.set_cons_succ]
              refine wpAnyH_ready (rs := [13]) (by kernel_rfl) (by simp) ?_
              refine AllReadyH.cons rfl (fun K2 hK2 => ?_) AllReadyH.nil
              rw [if_pos (by rfl)]
              simp only [List.getElem_toArray, List.getElem_cons_zero, List.getElem_cons_succ]
              have HC2 := Lib.hid (C.read name (C.below HT.out.pd hS1.2.2) HOK2.out (by unfold maxLen; omega))
              go_wp2_with (go_at_call 22; refine HC2.out.mono ?_; rintro e w12 ⟨rfl, hb⟩; have HB2 := Lib.hid hb; clear hb)
              refine hK2.out _ _ (⟨(HB2.out.block _ (Nat.lt_of_lt_of_le hxlt hS1.2.2.size)).trans hS1.1, (HB2.out.block _ (Nat.lt_of_lt_of_le hylt hS1.2.2.size)).trans hS1.2.1, bt2 hS1.2.2 HB2.out⟩) (fun hS2 => ?_)
              refine wpAnyH_ready (rs := [18]) (by kernel_rfl) (by simp) ?_
              refine AllReadyH.cons rfl (fun K3 hK3 => ?_) AllReadyH.nil
              rw [if_pos (by rfl)]
              simp only [List.getElem_toArray, List.getElem_cons_zero, List.getElem_cons_succ]
              have HC3 := Lib.hid (rread23 y1 d2.stands e1 name w12 (z1.below hS2.2.2) (by have := HOK2.out.ls; unfold maxLen; omega))
              go_wp2_with (go_at_call 23; refine HC3.out.mono ?_; rintro e w13 ⟨rfl, rfl⟩)
              refine hK3.out _ _ (hS2) (fun hS3 => ?_)
              refine wpAnyH_take (i := 19) (v := .bool false) rfl (by kernel_rfl) (by kernel_rfl) (by kernel_rfl) (fun _ _ _ h => h) (Or.inl ⟨by rfl, fun W _ => by go_simp⟩) hS3 ?_
              simp only [List.getElem_toArray, List.getElem_cons_zero, List.getElem_cons_succ, Act.put, List.setIfInBounds_toArray, List.set_cons_zero, List.set_cons_succ]
              refine wpAnyH_take (i := 20) (v := .bool false) rfl (by kernel_rfl) (by kernel_rfl) (by kernel_rfl) (fun _ _ _ h => h) (Or.inl ⟨by simp [Region.wanted], fun W _ => by go_simp⟩) hS3 ?_
              simp only [List.getElem_toArray, List.getElem_cons_zero, List.getElem_cons_succ, Act.put, List.setIfInBounds_toArray, List.set_cons_zero, List.set_cons_succ]
              refine wpAnyH_done (by kernel_rfl) ?_ _
              have HF := Lib.hid (HT.out.below C hS3.2.2)
              go_wp2
              go_roundw
              case rel => exact ⟨i + 1, F1, cs2, d2, by omega, by go_num, HF.out.lo, HF.out.pd, HF.out.fw, HF.out.xb, HF.out.xw, HF.out.xf, HF.out.dk, HOKN.out⟩
              case measure => simp [intOf]; omega
            · have k4b : (kind % 7 == 4) = false := beq_eq_false_iff_ne.2 k4
              have k5b : (kind % 7 == 5) = false := beq_eq_false_iff_ne.2 k5
              have k6b : (kind % 7 == 6) = false := beq_eq_false_iff_ne.2 k6
              clear k4 k5 k6
              have HP := Lib.hid (C.write name s pl HS.out.pd HOK.out (by omega) (by omega) hpl)
              have HD := Lib.hid (fun (P : Nat → Prop) (cs : Array Value) (W : World) (h : DkAt P W cs d) hg => rwrites20 P cs d name s pl W h hg (by have := HOK.out.ls; omega) (by have := HOK.out.lk; omega) (by omega) (by omega) (by have := maxF_used d.stands HOK.out.ms; have := HOK.out.ls; omega) (by have := maxF_read HOK.out.ms name; omega))
              have HOKN := Lib.hid (play_write HOK1.out name s pl)
              generalize writesF d name pl s = z at *
              obtain ⟨d2, E⟩ := z
              dsimp only at HP HD HOKN
              have HOK2 := Lib.hid (HOKN.out.le (show 60 + i + 1 ≤ 200 by omega))
              clear HOK HOK1 hpl hkz
              go_upto_region 34 with (first
                | ((with_reducible refine atLoad (ty := 36) (x := .tmp 79) rfl ?_); refine wpList_loadGD rfl 36 (.tmp 79) rfl (.pointer (Option.some ⟨ba, oa + i * 5, none⟩)) (.agg #[.int .u8 kind, .string name, .int .i64 pl, .string s, .slice ka keep.length kc]) rfl HLD.out ?_)
                | (go_at_call 19; refine HP.out.mono ?_; rintro e w5 ⟨rfl, F1, hp1, hf1, hg1⟩; have HS1 := Lib.hid (HS.out.step hp1 hf1 hg1); have q1 := cellD HS1.out.yb 1 (.string name) rfl; have q2 := cellD HS1.out.yb 2 (.int .i64 pl) rfl; have q3 := cellD HS1.out.yb 3 (.string s) rfl; clear hp1 hf1 hg1)
                | ((with_reducible refine atLoad (ty := 33) (x := .tmp 9) rfl ?_); refine wpList_load_row rfl 33 (.tmp 9) rfl x rfl 33 cs (0, 0) _ HS1.out.xb Try.underlying33 rfl HS1.out.dk.size.2.2 ?_)
                | (go_at_call 20; refine (HD.out _ _ _ HS1.out.dk (HS1.out.far C)).mono ?_; rintro e w6 ⟨cs2, rfl, hd2, hb2⟩; have HS2 := Lib.hid (HS1.out.below C hb2); have HD2 := Lib.hid hd2; have HT := Lib.hid (HS2.out.put C hd2); clear hd2 hb2 q1 q2 q3)
                | ((with_reducible refine atStore (ty := 33) (x := .tmp 9) (y := .tmp 118) rfl ?_); refine wpList_store_row rfl 33 (.tmp 9) (.tmp 118) rfl x cs2 rfl rfl 33 _ HS2.out.xb HD2.out.size.2.2 (by rw [HS2.out.dk.size.1, HD2.out.size.1]) HD2.out.size.2.1 ?_))
              clear HS HP HD HS1 HS2 HD2 HLD HLO HNK
              obtain ⟨y, hy⟩ : ∃ y, wr.heap.size = y := ⟨_, rfl⟩
              obtain ⟨WT, hWT⟩ : ∃ W, w6.setRow x cs2 = W := ⟨_, rfl⟩
              rw [hWT] at HT ⊢
              rw [hy] at HT ⊢
              obtain ⟨y1, y2, y3, e1, e2, e3, hcs, z1, z2, z3, hl5, _⟩ := HT.out.dk
              have hcs2 : cs2.size = 4 := by rw [hcs]; rfl
              have hc20 : cs2[0]? = some (.slice y1 d2.stands.length e1) := by rw [hcs]; rfl
              have hxlt := lt_of_blkD HT.out.xb
              have hylt := lt_of_blkD HT.out.yb
              clear hcs hWT
              refine wp_region_held_drew (S := fun W2 => W2.heap[x]? = some (.cells cs2 33 (0, 0)) ∧ W2.heap[y]? = some (.cells #[.int .u8 kind, .string name, .int .i64 pl, .string s, .slice ka keep.length kc] 36 (0, 0)) ∧ Below WT.heap.size WT W2) (by kernel_rfl) (⟨HT.out.xb, HT.out.yb, (Below.refl _ WT).drew⟩) (fun hS => ?_)
              refine wpAnyH_take (i := 0) (v := .int .i64 E) rfl (by kernel_rfl) (by kernel_rfl) (by kernel_rfl) (fun _ _ _ h => h) (Or.inl ⟨by simp [Region.wanted], fun W _ => by go_simp⟩) hS ?_
              simp only [List.getElem_toArray, List.getElem_cons_zero, Act.put, List.setIfInBounds_toArray, List.set_cons_zero, List.set_cons_succ]
              refine wpAnyH_take (i := 1) (v := .int .i64 E) rfl (by kernel_rfl) (by kernel_rfl) (by kernel_rfl) (fun _ _ _ h => h) (Or.inl ⟨by simp [Region.wanted], fun W _ => by go_simp⟩) hS ?_
              simp only [List.getElem_toArray, List.getElem_cons_zero, List.getElem_cons_succ, Act.put, List.setIfInBounds_toArray, List.set_cons_zero, List.set_cons_succ]
              refine wpAnyH_take (i := 2) (v := .bool false) rfl (by kernel_rfl) (by kernel_rfl) (by kernel_rfl) (fun _ _ _ h => h) (Or.inl ⟨by simp [Region.wanted], fun W _ => by go_simp⟩) hS ?_
              simp only [List.getElem_toArray, List.getElem_cons_zero, List.getElem_cons_succ, Act.put, List.setIfInBounds_toArray, List.set_cons_zero, List.set_cons_succ]
              refine wpAnyH_take (i := 3) (v := .bool false) rfl (by kernel_rfl) (by kernel_rfl) (by kernel_rfl) (fun _ _ _ h => h) (Or.inl ⟨by simp [Region.wanted], fun W _ => by go_simp⟩) hS ?_
              simp only [List.getElem_toArray, List.getElem_cons_zero, List.getElem_cons_succ, Act.put, List.setIfInBounds_toArray, List.set_cons_zero, List.set_cons_succ]
              refine wpAnyH_take (i := 4) (v := .pointer (some ⟨b, 0, none⟩)) rfl (by kernel_rfl) (by kernel_rfl) (by kernel_rfl) (fun _ _ _ h => h) (Or.inl ⟨by rfl, fun W _ => by go_simp⟩) hS ?_
              simp only [List.getElem_toArray, List.getElem_cons_zero, List.getElem_cons_succ, Act.put, List.setIfInBounds_toArray, List.set_cons_zero, List.set_cons_succ]
              refine wpAnyH_take (i := 5) (v := .agg cs2) rfl (by kernel_rfl) (by kernel_rfl) (by kernel_rfl) (fun _ _ _ h => h) (yieldsIf_loadK (by rfl) 33 (.tmp 9) rfl _ _ rfl (fun W hW => load_row4 hcs2 hW.1)) hS ?_
              simp only [List.getElem_toArray, List.getElem_cons_zero, List.getElem_cons_succ, Act.put, List.setIfInBounds_toArray, List.set_cons_zero, List.set_cons_succ]
              refine wpAnyH_ready (rs := [6]) (by kernel_rfl) (by simp) ?_
              refine AllReadyH.cons rfl (fun K1 hK1 => ?_) AllReadyH.nil
              rw [if_pos (by rfl)]
              simp only [List.getElem_toArray, List.getElem_cons_zero, List.getElem_cons_succ]
              have HC1 := Lib.hid (same21 C (C.below HT.out.pd hS.2.2) (HT.out.dk.below hS.2.2) HOK2.out)
              go_wp2_with (go_at_call 21; refine HC1.out.mono ?_; rintro e w11 ⟨rfl, hb⟩; have HB1 := Lib.hid hb; clear hb)
              refine hK1.out _ _ (⟨(HB1.out.block _ (Nat.lt_of_lt_of_le hxlt hS.2.2.size)).trans hS.1, (HB1.out.block _ (Nat.lt_of_lt_of_le hylt hS.2.2.size)).trans hS.2.1, bt2 hS.2.2 HB1.out⟩) (fun hS1 => ?_)
              refine wpAnyH_take (i := 7) (v := .bool false) rfl (by kernel_rfl) (by kernel_rfl) (by kernel_rfl) (fun _ _ _ h => h) (Or.inl ⟨by rfl, fun W _ => by go_simp⟩) hS1 ?_
              simp only [List.getElem_toArray, List.getElem_cons_zero, List.getElem_cons_succ, Act.put, List.setIfInBounds_toArray, List.set_cons_zero, List.set_cons_succ]
              refine wpAnyH_take (i := 8) (v := .bool false) rfl (by kernel_rfl) (by kernel_rfl) (by kernel_rfl) (fun _ _ _ h => h) (Or.inl ⟨by simp [Region.wanted], fun W _ => by go_simp⟩) hS1 ?_
              simp only [List.getElem_toArray, List.getElem_cons_zero, List.getElem_cons_succ, Act.put, List.setIfInBounds_toArray, List.set_cons_zero, List.set_cons_succ]
              refine wpAnyH_take (i := 9) (v := .bool false) rfl (by kernel_rfl) (by kernel_rfl) (by kernel_rfl) (fun _ _ _ h => h) (Or.inl ⟨by simp [Region.wanted], fun W _ => by go_simp⟩) hS1 ?_
              simp only [List.getElem_toArray, List.getElem_cons_zero, List.getElem_cons_succ, Act.put, List.setIfInBounds_toArray, List.set_cons_zero, List.set_cons_succ]
              refine wpAnyH_take (i := 10) (v := .pointer (some ⟨b, 0, none⟩)) rfl (by kernel_rfl) (by kernel_rfl) (by kernel_rfl) (fun _ _ _ h => h) (Or.inl ⟨by rfl, fun W _ => by go_simp⟩) hS1 ?_
              simp only [List.getElem_toArray, List.getElem_cons_zero, List.getElem_cons_succ, Act.put, List.setIfInBounds_toArray, List.set_cons_zero, List.set_cons_succ]
              refine wpAnyH_take (i := 11) (v := .pointer (some ⟨y, 1, none⟩)) rfl (by kernel_rfl) (by kernel_rfl) (by kernel_rfl) (fun _ _ _ h => h) (Or.inl ⟨by rfl, fun W _ => by go_simp⟩) hS1 ?_
              simp only [List.getElem_toArray, List.getElem_cons_zero, List.getElem_cons_succ, Act.put, List.setIfInBounds_toArray, List.set_cons_zero, List.set_cons_succ]
              refine wpAnyH_take (i := 12) (v := .string name) rfl (by kernel_rfl) (by kernel_rfl) (by kernel_rfl) (fun _ _ _ h => h) (.inl ⟨by rfl, fun W hW => by have hq := cellD hW.2.1 1 (.string name) rfl; unfold execOp; go_simp⟩) hS1 ?_
              simp only [List.getElem_toArray, List.getElem_cons_zero, List.getElem_cons_succ, Act.put, List.setIfInBounds_toArray, List.set_cons_zero, List.set_cons_succ]
              refine wpAnyH_take (i := 14) (v := .pointer (some ⟨x, 0, none⟩)) rfl (by kernel_rfl) (by kernel_rfl) (by kernel_rfl) (fun _ _ _ h => h) (Or.inl ⟨by rfl, fun W _ => by go_simp⟩) hS1 ?_
              simp only [List.getElem_toArray, List.getElem_cons_zero, List.getElem_cons_succ, Act.put, List.setIfInBounds_toArray, List.set_cons_zero, List.set_cons_succ]
              refine wpAnyH_take (i := 15) (v := .slice y1 d2.stands.length e1) rfl (by kernel_rfl) (by kernel_rfl) (by kernel_rfl) (fun _ _ _ h => h) (.inl ⟨by rfl, fun W hW => by have hq := cellD hW.1 0 (.slice y1 d2.stands.length e1) hc20; unfold execOp; go_simp⟩) hS1 ?_
              simp only [List.getElem_toArray, List.getElem_cons_zero, List.getElem_cons_succ, Act.put, List.setIfInBounds_toArray, List.set_cons_zero, List.set_cons_succ]
              refine wpAnyH_take (i := 16) (v := .pointer (some ⟨y, 1, none⟩)) rfl (by kernel_rfl) (by kernel_rfl) (by kernel_rfl) (fun _ _ _ h => h) (Or.inl ⟨by rfl, fun W _ => by go_simp⟩) hS1 ?_
              simp only [List.getElem_toArray, List.getElem_cons_zero, List.getElem_cons_succ, Act.put, List.setIfInBounds_toArray, List.set_cons_zero, List.set_cons_succ]
              refine wpAnyH_take (i := 17) (v := .string name) rfl (by kernel_rfl) (by kernel_rfl) (by kernel_rfl) (fun _ _ _ h => h) (.inl ⟨by rfl, fun W hW => by have hq := cellD hW.2.1 1 (.string name) rfl; unfold execOp; go_simp⟩) hS1 ?_
              simp only [List.getElem_toArray, List.getElem_cons_zero, List.getElem_cons_succ, Act.put, List.setIfInBounds_toArray, List.set_cons_zero, List.set_cons_succ]
              refine wpAnyH_ready (rs := [13]) (by kernel_rfl) (by simp) ?_
              refine AllReadyH.cons rfl (fun K2 hK2 => ?_) AllReadyH.nil
              rw [if_pos (by rfl)]
              simp only [List.getElem_toArray, List.getElem_cons_zero, List.getElem_cons_succ]
              have HC2 := Lib.hid (C.read name (C.below HT.out.pd hS1.2.2) HOK2.out (by unfold maxLen; omega))
              go_wp2_with (go_at_call 22; refine HC2.out.mono ?_; rintro e w12 ⟨rfl, hb⟩; have HB2 := Lib.hid hb; clear hb)
              refine hK2.out _ _ (⟨(HB2.out.block _ (Nat.lt_of_lt_of_le hxlt hS1.2.2.size)).trans hS1.1, (HB2.out.block _ (Nat.lt_of_lt_of_le hylt hS1.2.2.size)).trans hS1.2.1, bt2 hS1.2.2 HB2.out⟩) (fun hS2 => ?_)
              refine wpAnyH_ready (rs := [18]) (by kernel_rfl) (by simp) ?_
              refine AllReadyH.cons rfl (fun K3 hK3 => ?_) AllReadyH.nil
              rw [if_pos (by rfl)]
              simp only [List.getElem_toArray, List.getElem_cons_zero, List.getElem_cons_succ]
              have HC3 := Lib.hid (rread23 y1 d2.stands e1 name w12 (z1.below hS2.2.2) (by have := HOK2.out.ls; unfold maxLen; omega))
              go_wp2_with (go_at_call 23; refine HC3.out.mono ?_; rintro e w13 ⟨rfl, rfl⟩)
              refine hK3.out _ _ (hS2) (fun hS3 => ?_)
              refine wpAnyH_take (i := 19) (v := .bool false) rfl (by kernel_rfl) (by kernel_rfl) (by kernel_rfl) (fun _ _ _ h => h) (Or.inl ⟨by rfl, fun W _ => by go_simp⟩) hS3 ?_
              simp only [List.getElem_toArray, List.getElem_cons_zero, List.getElem_cons_succ, Act.put, List.setIfInBounds_toArray, List.set_cons_zero, List.set_cons_succ]
              refine wpAnyH_take (i := 20) (v := .bool false) rfl (by kernel_rfl) (by kernel_rfl) (by kernel_rfl) (fun _ _ _ h => h) (Or.inl ⟨by simp [Region.wanted], fun W _ => by go_simp⟩) hS3 ?_
              simp only [List.getElem_toArray, List.getElem_cons_zero, List.getElem_cons_succ, Act.put, List.setIfInBounds_toArray, List.set_cons_zero, List.set_cons_succ]
              refine wpAnyH_done (by kernel_rfl) ?_ _
              have HF := Lib.hid (HT.out.below C hS3.2.2)
              go_wp2
              go_roundw
              case rel => exact ⟨i + 1, F1, cs2, d2, by omega, by go_num, HF.out.lo, HF.out.pd, HF.out.fw, HF.out.xb, HF.out.xw, HF.out.xf, HF.out.dk, HOKN.out⟩
              case measure => simp [intOf]; omega
          · have HLO := Lib.hid hlo
            clear hpd hfw hxb hxw hxf hdk hok hlo HLA HFA HA
            go_wp2
            go_ret
            exact ⟨rfl, HLO.out⟩
end Go.Proofs.Ytcedkilgfoiifaa

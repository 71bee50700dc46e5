/- What a field does, over a book: contracts. The fields of a book: the contract. The column that stands next in a reader: the contract. -/
import Derived.Test.YtnhljfhpfpfniaaGreatMFld
import Derived.Test.YtnhljfhpfpfniaaGreatClP4
import Derived.Test.YtnhljfhpfpfniaaGreatSnGetM
import Derived.OrdersHeld
import Derived.Test.YtnhljfhpfpfniaaGreatMCol
import Derived.Test.YtnhljfhpfpfniaaGreatMNums
namespace Go.Proofs.YtnhljfhpfpfniaaGreat
open Go.RowKit Base Base2

/-- What may be turned: a book, its rows; a Builder, its bytes; a reader. -/
def isMu (o : Obj) : Bool := isBk o || isBB o || (match o with | .cells _ t _ => t == 139 | _ => false)
/-- Whatever may not be turned lies as it lay. -/
structure KeepM (W W' : World) : Prop where
  size : W.heap.size ≤ W'.heap.size
  same : ∀ (k : Nat) (o : Obj), W.heap[k]? = some o → isMu o = false → W'.heap[k]? = some o
theorem KeepM.refl (W : World) : KeepM W W := ⟨Nat.le_refl _, fun _ _ h _ => h⟩
theorem KeepM.trans {A B C : World} (h : KeepM A B) (k : KeepM B C) : KeepM A C := ⟨Nat.le_trans h.size k.size, fun i o h1 h2 => k.same i o (h.same i o h1 h2) h2⟩
theorem KeepM.below {W W' : World} (h : Below W.heap.size W W') : KeepM W W' := ⟨h.size, fun k _ h1 _ => (h.block k (lt_of_blk h1)).trans h1⟩
theorem isMu_no {o : Obj} (h : isMu o = false) : isBk o = false ∧ isBB o = false := by
  unfold isMu at h
  simp only [Bool.or_eq_false_iff] at h
  exact h.1
theorem KeepT.m {W W' : World} (h : KeepT W W') : KeepM W W' := ⟨h.size, fun k o h1 h2 => h.same k o h1 (isMu_no h2).1⟩
theorem KeepB.m {W W' : World} (h : KeepB W W') : KeepM W W' := ⟨h.size, fun k o h1 h2 => h.same k o h1 (isMu_no h2).2⟩
theorem KeepM.grown {W W' : World} {p : Nat} {o : Obj} (h : W.grownBy W' (some p)) (hp : W.heap[p]? = some o) (ho : isMu o = true) : KeepM W W' :=
  ⟨h.size, fun k o' h1 h2 => (h.block k (lt_of_blk h1) (fun e => by cases e; rw [hp] at h1; cases h1; rw [ho] at h2; cases h2)).trans h1⟩
/-- A book's column; a column that is taken. -/
def colQ (q : Nat) (b : BookT) : List Int := if q < 4 then colT q b.hs else if q < 7 then colT (q - 4) b.ss else if q < 13 then colT (q - 7) b.os else colT (q - 13) b.rs
theorem colQ_of (b : BookT) {q : Nat} (h : q < 15) : (colsT b)[q]? = some (colQ q b) := by
  match q, h with
  | 0, _ => rfl
  | 1, _ => rfl
  | 2, _ => rfl
  | 3, _ => rfl
  | 4, _ => rfl
  | 5, _ => rfl
  | 6, _ => rfl
  | 7, _ => rfl
  | 8, _ => rfl
  | 9, _ => rfl
  | 10, _ => rfl
  | 11, _ => rfl
  | 12, _ => rfl
  | 13, _ => rfl
  | 14, _ => rfl
  | q + 15, h => omega
def takeL (k j : Nat) (xs : List Int) (l : List Item) : List Item := if j = 0 then setC 0 xs (zerosI k xs.length) else if xs.length = l.length then setC j xs l else l
def okL (j : Nat) (xs : List Int) (l : List Item) : Bool := j == 0 || xs.length == l.length
def takeQ (q : Nat) (xs : List Int) (b : BookT) : BookT :=
  if q < 4 then { b with hs := takeL 4 q xs b.hs } else if q < 7 then { b with ss := takeL 3 (q - 4) xs b.ss } else if q < 13 then { b with os := takeL 6 (q - 7) xs b.os } else { b with rs := takeL 2 (q - 13) xs b.rs }
def okQ (q : Nat) (xs : List Int) (b : BookT) : Bool :=
  if q < 4 then okL q xs b.hs else if q < 7 then okL (q - 4) xs b.ss else if q < 13 then okL (q - 7) xs b.os else okL (q - 13) xs b.rs
/-- A field of the book that lies in a box. -/
structure FieldOk (B gb : Nat) (W0 : World) (q : Nat) (f : Fld) : Prop where
  m : mostT[q]? = some f.m
  is : ∃ lp nb ib, f.tc = #[ptrV lp, ptrV nb] ∧ f.kc = #[ptrV ib, ptrV lp, ptrV nb]
  ent : ∀ (args : Array Value) (w : World), (callFunc f.tf args).run Tryz.prog w = .ok (.enter f.tf args) w
  enk : ∀ (args : Array Value) (w : World), (callFunc f.kf args).run Tryz.prog w = .ok (.enter f.kf args) w
  tell : ∀ (W : World) (v : Slots) (b : BookT), KeepM W0 W → BoxB W gb v b → BookIn W v b → BookOk 2000 b → Calls Tryz.prog f.tf f.tc W fun e w' => (∃ a c, e = .returned (.slice a (colQ q b).length c) ∧ I64s w' a (colQ q b)) ∧ Below W.heap.size W w'
  take : ∀ (W : World) (v : Slots) (b : BookT) (a : Option Addr) (c : Nat) (xs : List Int), KeepM W0 W → B ≤ W.heap.size → BkS B gb W v b → BookOk 2000 b → I64s W a xs → xs.length ≤ 1024 → SepA gb v b a → Calls Tryz.prog f.kf (#[.slice a xs.length c] ++ f.kc) W fun e w' => e = .returned (.bool (okQ q xs b)) ∧ (∃ v', BkS B gb w' v' (takeQ q xs b)) ∧ KeepT W w' ∧ Below B W w'
theorem FieldOk.below {B gb : Nat} {W0 W1 : World} {q : Nat} {f : Fld} (h : FieldOk B gb W0 q f) (hb : Below W0.heap.size W0 W1) : FieldOk B gb W1 q f :=
  ⟨h.m, h.is, h.ent, h.enk, fun W v b hk => h.tell W v b ((KeepM.below hb).trans hk), fun W v b a c xs hk => h.take W v b a c xs ((KeepM.below hb).trans hk)⟩
theorem colQHolder {j : Nat} (hj : j < 4) (b : BookT) : colQ (0 + j) b = colT j b.hs := by
  unfold colQ
  rw [if_pos (by omega)]
  rw [Nat.zero_add]
theorem takeQHolder {j : Nat} (hj : j < 4) (xs : List Int) (b : BookT) : takeQ (0 + j) xs b = { b with hs := takeL 4 j xs b.hs } := by
  unfold takeQ
  rw [if_pos (by omega)]
  rw [Nat.zero_add]
theorem okQHolder {j : Nat} (hj : j < 4) (xs : List Int) (b : BookT) : okQ (0 + j) xs b = okL j xs b.hs := by
  unfold okQ
  rw [if_pos (by omega)]
  rw [Nat.zero_add]
theorem fieldHolder {B gb lp m j : Nat} {d : NumD} {W0 : World} {f : Fld} {ob : Obj} (hI : IsFld 104 106 94 m lp j d W0 f) (hm : mostT[0 + j]? = some m) (hlp : W0.heap[lp]? = some (.cells #[.pointer (some ⟨gb, 0, none⟩)] 90 (0, 0))) (hN : NumOk d.rf d.wf d.bx j ob) (hbx : W0.heap[d.bx]? = some ob) (hmu : isMu ob = false) (hj : j < 4) : FieldOk B gb W0 (0 + j) f := by
  obtain ⟨nb, ib, rfl, hnb, hib⟩ := hI.is
  refine ⟨hm, ⟨lp, nb, ib, rfl, rfl⟩, fun _ _ => by kernel_rfl, fun _ _ => by kernel_rfl, fun W v b hk hb hi ho => ?_, fun W v b a c xs hk hB hS ho hx hxl hsep => ?_⟩
  · rw [colQHolder hj]
    exact tellHolder lp nb gb d.rf d.wf d.bx j ob v.h v.ch b.hs W hN (hk.same _ _ hbx hmu) (hk.same _ _ hlp rfl) (hk.same _ _ hnb rfl) hb.cells.1 hi.hs ho.hs hj
  · have hib1 := hk.same _ _ hib rfl
    have hlp1 := hk.same _ _ hlp rfl
    have hnb1 := hk.same _ _ hnb rfl
    have hbx1 := hk.same _ _ hbx hmu
    rw [okQHolder hj, takeQHolder hj]
    unfold okL takeL
    by_cases h0 : j = 0
    · subst h0
      have h := takeHolder_first B gb ib lp nb d.rf d.wf d.bx 0 ob a c xs v b W hS hB hN hbx1 (isMu_no hmu).1 hib1 hlp1 hnb1 hj hx hxl hsep
      rw [if_pos rfl]
      exact h
    · by_cases hle : xs.length = b.hs.length
      · have h := takeHolder_next B gb ib lp nb d.rf d.wf d.bx j j ob a c xs v b W hS hB ho.hs hN hbx1 (isMu_no hmu).1 h0 hib1 hlp1 hnb1 hj hx hle hsep
        rw [if_neg h0, if_pos hle]
        have e : (j == 0 || xs.length == b.hs.length) = true := by simp [hle]
        rw [e]
        exact h
      · have h := takeHolder_no B gb ib lp nb d.rf d.wf d.bx j a c xs.length v b W hS ho.hs.1 h0 hib1 hlp1 hnb1 (by omega) hle
        rw [if_neg h0, if_neg hle]
        have e : (j == 0 || xs.length == b.hs.length) = false := by simp [h0, hle]
        rw [e]
        exact h.mono fun e w' ⟨h1, h2⟩ => ⟨h1, ⟨v, hS.below h2⟩, KeepT.below h2, h2.mono hB⟩
set_option maxRecDepth 100000 in
set_option maxHeartbeats 4000000 in
theorem laidOkHolder (B gb gn c x0 x1 x2 x3 : Nat) (w : World) (hg : w.heap[gn]? = some (.cells #[.func (.func 108) #[] #[.pointer (some ⟨x0, 0, none⟩)], .func (.func 109) #[] #[.pointer (some ⟨x0, 0, none⟩)], .func (.func 108) #[] #[.pointer (some ⟨x1, 0, none⟩)], .func (.func 109) #[] #[.pointer (some ⟨x1, 0, none⟩)], .func (.func 108) #[] #[.pointer (some ⟨x2, 0, none⟩)], .func (.func 109) #[] #[.pointer (some ⟨x2, 0, none⟩)], .func (.func 108) #[] #[.pointer (some ⟨x3, 0, none⟩)], .func (.func 109) #[] #[.pointer (some ⟨x3, 0, none⟩)]] 94 (0, 0))) (h0 : w.heap[x0]? = some (.cells #[.func (.func 41) #[] #[]] 98 (0, 0))) (h1 : w.heap[x1]? = some (.cells #[.func (.func 42) #[] #[]] 98 (0, 0))) (h2 : w.heap[x2]? = some (.cells #[.func (.func 43) #[] #[]] 98 (0, 0))) (h3 : w.heap[x3]? = some (.cells #[.func (.func 44) #[] #[]] 98 (0, 0))) :
    Calls Tryz.prog 39 #[.pointer (some ⟨gb, 0, none⟩), .int .i64 32, .slice (some ⟨gn, 0, none⟩) 4 c] w fun e w' => ∃ a c' fs, e = .returned (.slice a 4 c') ∧ fs.length = 4 ∧ RowsF w' a fs ∧ (∀ q f, fs[q]? = some f → FieldOk B gb w' (0 + q) f) ∧ Below w.heap.size w w' := by
  refine (laidHolder gb 32 gn c [⟨108, 109, x0⟩, ⟨108, 109, x1⟩, ⟨108, 109, x2⟩, ⟨108, 109, x3⟩] w (by omega) (by simp) (lt_of_blk hg) (fun i d hd => ?_)).mono ?_
  · rw [cell_of_row _ _ _ _ _ _ hg, cell_of_row _ _ _ _ _ _ hg]
    match i, hd with
    | 0, hd => obtain rfl := Option.some.inj hd; exact ⟨rfl, rfl⟩
    | 1, hd => obtain rfl := Option.some.inj hd; exact ⟨rfl, rfl⟩
    | 2, hd => obtain rfl := Option.some.inj hd; exact ⟨rfl, rfl⟩
    | 3, hd => obtain rfl := Option.some.inj hd; exact ⟨rfl, rfl⟩
    | q + 4, hd => simp at hd
  · rintro e w' ⟨v, fs, rfl, hl, hS⟩
    have hl2 : fs.length = 4 := hl
    obtain ⟨a, c', hv, hr⟩ := rowsF_own hS.own
    refine ⟨a, c', fs, by rw [hv, hl2], hl2, hr, fun q f hf => ?_, hS.lo⟩
    have hq : q < 4 := by rw [← hl2]; exact (List.getElem?_eq_some_iff.1 hf).1
    match q, hq, hf with
    | 0, _, hf => exact fieldHolder (hS.fld 0 f _ hf rfl) rfl hS.box (numHolder pt1) ((hS.lo.block _ (lt_of_blk h0)).trans h0) rfl (by decide)
    | 1, _, hf => exact fieldHolder (hS.fld 1 f _ hf rfl) rfl hS.box (numHolder pt2) ((hS.lo.block _ (lt_of_blk h1)).trans h1) rfl (by decide)
    | 2, _, hf => exact fieldHolder (hS.fld 2 f _ hf rfl) rfl hS.box (numHolder pt3) ((hS.lo.block _ (lt_of_blk h2)).trans h2) rfl (by decide)
    | 3, _, hf => exact fieldHolder (hS.fld 3 f _ hf rfl) rfl hS.box (numHolder pt4) ((hS.lo.block _ (lt_of_blk h3)).trans h3) rfl (by decide)
    | q + 4, hq, _ => omega
theorem colQStake {j : Nat} (hj : j < 3) (b : BookT) : colQ (4 + j) b = colT j b.ss := by
  unfold colQ
  rw [if_neg (by omega), if_pos (by omega)]
  rw [Nat.add_sub_cancel_left]
theorem takeQStake {j : Nat} (hj : j < 3) (xs : List Int) (b : BookT) : takeQ (4 + j) xs b = { b with ss := takeL 3 j xs b.ss } := by
  unfold takeQ
  rw [if_neg (by omega), if_pos (by omega)]
  rw [Nat.add_sub_cancel_left]
theorem okQStake {j : Nat} (hj : j < 3) (xs : List Int) (b : BookT) : okQ (4 + j) xs b = okL j xs b.ss := by
  unfold okQ
  rw [if_neg (by omega), if_pos (by omega)]
  rw [Nat.add_sub_cancel_left]
theorem fieldStake {B gb lp m j : Nat} {d : NumD} {W0 : World} {f : Fld} {ob : Obj} (hI : IsFld 110 112 104 m lp j d W0 f) (hm : mostT[4 + j]? = some m) (hlp : W0.heap[lp]? = some (.cells #[.pointer (some ⟨gb, 1, none⟩)] 100 (0, 0))) (hN : NumOk d.rf d.wf d.bx j ob) (hbx : W0.heap[d.bx]? = some ob) (hmu : isMu ob = false) (hj : j < 3) : FieldOk B gb W0 (4 + j) f := by
  obtain ⟨nb, ib, rfl, hnb, hib⟩ := hI.is
  refine ⟨hm, ⟨lp, nb, ib, rfl, rfl⟩, fun _ _ => by kernel_rfl, fun _ _ => by kernel_rfl, fun W v b hk hb hi ho => ?_, fun W v b a c xs hk hB hS ho hx hxl hsep => ?_⟩
  · rw [colQStake hj]
    exact tellStake lp nb gb d.rf d.wf d.bx j ob v.s v.cs b.ss W hN (hk.same _ _ hbx hmu) (hk.same _ _ hlp rfl) (hk.same _ _ hnb rfl) hb.cells.2.1 hi.ss ho.ss hj
  · have hib1 := hk.same _ _ hib rfl
    have hlp1 := hk.same _ _ hlp rfl
    have hnb1 := hk.same _ _ hnb rfl
    have hbx1 := hk.same _ _ hbx hmu
    rw [okQStake hj, takeQStake hj]
    unfold okL takeL
    by_cases h0 : j = 0
    · subst h0
      have h := takeStake_first B gb ib lp nb d.rf d.wf d.bx 0 ob a c xs v b W hS hB hN hbx1 (isMu_no hmu).1 hib1 hlp1 hnb1 hj hx hxl hsep
      rw [if_pos rfl]
      exact h
    · by_cases hle : xs.length = b.ss.length
      · have h := takeStake_next B gb ib lp nb d.rf d.wf d.bx j j ob a c xs v b W hS hB ho.ss hN hbx1 (isMu_no hmu).1 h0 hib1 hlp1 hnb1 hj hx hle hsep
        rw [if_neg h0, if_pos hle]
        have e : (j == 0 || xs.length == b.ss.length) = true := by simp [hle]
        rw [e]
        exact h
      · have h := takeStake_no B gb ib lp nb d.rf d.wf d.bx j a c xs.length v b W hS ho.ss.1 h0 hib1 hlp1 hnb1 (by omega) hle
        rw [if_neg h0, if_neg hle]
        have e : (j == 0 || xs.length == b.ss.length) = false := by simp [h0, hle]
        rw [e]
        exact h.mono fun e w' ⟨h1, h2⟩ => ⟨h1, ⟨v, hS.below h2⟩, KeepT.below h2, h2.mono hB⟩
set_option maxRecDepth 100000 in
set_option maxHeartbeats 4000000 in
theorem laidOkStake (B gb gn c x0 x1 x2 : Nat) (w : World) (hg : w.heap[gn]? = some (.cells #[.func (.func 114) #[] #[.pointer (some ⟨x0, 0, none⟩)], .func (.func 115) #[] #[.pointer (some ⟨x0, 0, none⟩)], .func (.func 114) #[] #[.pointer (some ⟨x1, 0, none⟩)], .func (.func 115) #[] #[.pointer (some ⟨x1, 0, none⟩)], .func (.func 114) #[] #[.pointer (some ⟨x2, 0, none⟩)], .func (.func 115) #[] #[.pointer (some ⟨x2, 0, none⟩)]] 104 (0, 0))) (h0 : w.heap[x0]? = some (.cells #[.func (.func 47) #[] #[]] 107 (0, 0))) (h1 : w.heap[x1]? = some (.cells #[.func (.func 48) #[] #[]] 107 (0, 0))) (h2 : w.heap[x2]? = some (.cells #[.func (.func 49) #[] #[]] 107 (0, 0))) :
    Calls Tryz.prog 45 #[.pointer (some ⟨gb, 1, none⟩), .int .i64 1024, .slice (some ⟨gn, 0, none⟩) 3 c] w fun e w' => ∃ a c' fs, e = .returned (.slice a 3 c') ∧ fs.length = 3 ∧ RowsF w' a fs ∧ (∀ q f, fs[q]? = some f → FieldOk B gb w' (4 + q) f) ∧ Below w.heap.size w w' := by
  refine (laidStake gb 1024 gn c [⟨114, 115, x0⟩, ⟨114, 115, x1⟩, ⟨114, 115, x2⟩] w (by omega) (by simp) (lt_of_blk hg) (fun i d hd => ?_)).mono ?_
  · rw [cell_of_row _ _ _ _ _ _ hg, cell_of_row _ _ _ _ _ _ hg]
    match i, hd with
    | 0, hd => obtain rfl := Option.some.inj hd; exact ⟨rfl, rfl⟩
    | 1, hd => obtain rfl := Option.some.inj hd; exact ⟨rfl, rfl⟩
    | 2, hd => obtain rfl := Option.some.inj hd; exact ⟨rfl, rfl⟩
    | q + 3, hd => simp at hd
  · rintro e w' ⟨v, fs, rfl, hl, hS⟩
    have hl2 : fs.length = 3 := hl
    obtain ⟨a, c', hv, hr⟩ := rowsF_own hS.own
    refine ⟨a, c', fs, by rw [hv, hl2], hl2, hr, fun q f hf => ?_, hS.lo⟩
    have hq : q < 3 := by rw [← hl2]; exact (List.getElem?_eq_some_iff.1 hf).1
    match q, hq, hf with
    | 0, _, hf => exact fieldStake (hS.fld 0 f _ hf rfl) rfl hS.box (numStake pt5) ((hS.lo.block _ (lt_of_blk h0)).trans h0) rfl (by decide)
    | 1, _, hf => exact fieldStake (hS.fld 1 f _ hf rfl) rfl hS.box (numStake pt6) ((hS.lo.block _ (lt_of_blk h1)).trans h1) rfl (by decide)
    | 2, _, hf => exact fieldStake (hS.fld 2 f _ hf rfl) rfl hS.box (numStake pt7) ((hS.lo.block _ (lt_of_blk h2)).trans h2) rfl (by decide)
    | q + 3, hq, _ => omega
theorem colQOpen {j : Nat} (hj : j < 6) (b : BookT) : colQ (7 + j) b = colT j b.os := by
  unfold colQ
  rw [if_neg (by omega), if_neg (by omega), if_pos (by omega)]
  rw [Nat.add_sub_cancel_left]
theorem takeQOpen {j : Nat} (hj : j < 6) (xs : List Int) (b : BookT) : takeQ (7 + j) xs b = { b with os := takeL 6 j xs b.os } := by
  unfold takeQ
  rw [if_neg (by omega), if_neg (by omega), if_pos (by omega)]
  rw [Nat.add_sub_cancel_left]
theorem okQOpen {j : Nat} (hj : j < 6) (xs : List Int) (b : BookT) : okQ (7 + j) xs b = okL j xs b.os := by
  unfold okQ
  rw [if_neg (by omega), if_neg (by omega), if_pos (by omega)]
  rw [Nat.add_sub_cancel_left]
theorem fieldOpen {B gb lp m j : Nat} {d : NumD} {W0 : World} {f : Fld} {ob : Obj} (hI : IsFld 116 118 113 m lp j d W0 f) (hm : mostT[7 + j]? = some m) (hlp : W0.heap[lp]? = some (.cells #[.pointer (some ⟨gb, 2, none⟩)] 109 (0, 0))) (hN : NumOk d.rf d.wf d.bx j ob) (hbx : W0.heap[d.bx]? = some ob) (hmu : isMu ob = false) (hj : j < 6) : FieldOk B gb W0 (7 + j) f := by
  obtain ⟨nb, ib, rfl, hnb, hib⟩ := hI.is
  refine ⟨hm, ⟨lp, nb, ib, rfl, rfl⟩, fun _ _ => by kernel_rfl, fun _ _ => by kernel_rfl, fun W v b hk hb hi ho => ?_, fun W v b a c xs hk hB hS ho hx hxl hsep => ?_⟩
  · rw [colQOpen hj]
    exact tellOpen lp nb gb d.rf d.wf d.bx j ob v.o v.co b.os W hN (hk.same _ _ hbx hmu) (hk.same _ _ hlp rfl) (hk.same _ _ hnb rfl) hb.cells.2.2.1 hi.os ho.os hj
  · have hib1 := hk.same _ _ hib rfl
    have hlp1 := hk.same _ _ hlp rfl
    have hnb1 := hk.same _ _ hnb rfl
    have hbx1 := hk.same _ _ hbx hmu
    rw [okQOpen hj, takeQOpen hj]
    unfold okL takeL
    by_cases h0 : j = 0
    · subst h0
      have h := takeOpen_first B gb ib lp nb d.rf d.wf d.bx 0 ob a c xs v b W hS hB hN hbx1 (isMu_no hmu).1 hib1 hlp1 hnb1 hj hx hxl hsep
      rw [if_pos rfl]
      exact h
    · by_cases hle : xs.length = b.os.length
      · have h := takeOpen_next B gb ib lp nb d.rf d.wf d.bx j j ob a c xs v b W hS hB ho.os hN hbx1 (isMu_no hmu).1 h0 hib1 hlp1 hnb1 hj hx hle hsep
        rw [if_neg h0, if_pos hle]
        have e : (j == 0 || xs.length == b.os.length) = true := by simp [hle]
        rw [e]
        exact h
      · have h := takeOpen_no B gb ib lp nb d.rf d.wf d.bx j a c xs.length v b W hS ho.os.1 h0 hib1 hlp1 hnb1 (by omega) hle
        rw [if_neg h0, if_neg hle]
        have e : (j == 0 || xs.length == b.os.length) = false := by simp [h0, hle]
        rw [e]
        exact h.mono fun e w' ⟨h1, h2⟩ => ⟨h1, ⟨v, hS.below h2⟩, KeepT.below h2, h2.mono hB⟩
set_option maxRecDepth 100000 in
set_option maxHeartbeats 4000000 in
theorem laidOkOpen (B gb gn c x0 x1 x2 x3 x4 x5 : Nat) (w : World) (hg : w.heap[gn]? = some (.cells #[.func (.func 120) #[] #[.pointer (some ⟨x0, 0, none⟩)], .func (.func 121) #[] #[.pointer (some ⟨x0, 0, none⟩)], .func (.func 120) #[] #[.pointer (some ⟨x1, 0, none⟩)], .func (.func 121) #[] #[.pointer (some ⟨x1, 0, none⟩)], .func (.func 120) #[] #[.pointer (some ⟨x2, 0, none⟩)], .func (.func 121) #[] #[.pointer (some ⟨x2, 0, none⟩)], .func (.func 122) #[] #[.pointer (some ⟨x3, 0, none⟩)], .func (.func 123) #[] #[.pointer (some ⟨x3, 0, none⟩)], .func (.func 120) #[] #[.pointer (some ⟨x4, 0, none⟩)], .func (.func 121) #[] #[.pointer (some ⟨x4, 0, none⟩)], .func (.func 120) #[] #[.pointer (some ⟨x5, 0, none⟩)], .func (.func 121) #[] #[.pointer (some ⟨x5, 0, none⟩)]] 113 (0, 0))) (h0 : w.heap[x0]? = some (.cells #[.func (.func 52) #[] #[]] 116 (0, 0))) (h1 : w.heap[x1]? = some (.cells #[.func (.func 53) #[] #[]] 116 (0, 0))) (h2 : w.heap[x2]? = some (.cells #[.func (.func 54) #[] #[]] 116 (0, 0))) (h3 : w.heap[x3]? = some (.cells #[.func (.func 56) #[] #[]] 119 (0, 0))) (h4 : w.heap[x4]? = some (.cells #[.func (.func 57) #[] #[]] 116 (0, 0))) (h5 : w.heap[x5]? = some (.cells #[.func (.func 58) #[] #[]] 116 (0, 0))) :
    Calls Tryz.prog 50 #[.pointer (some ⟨gb, 2, none⟩), .int .i64 64, .slice (some ⟨gn, 0, none⟩) 6 c] w fun e w' => ∃ a c' fs, e = .returned (.slice a 6 c') ∧ fs.length = 6 ∧ RowsF w' a fs ∧ (∀ q f, fs[q]? = some f → FieldOk B gb w' (7 + q) f) ∧ Below w.heap.size w w' := by
  refine (laidOpen gb 64 gn c [⟨120, 121, x0⟩, ⟨120, 121, x1⟩, ⟨120, 121, x2⟩, ⟨122, 123, x3⟩, ⟨120, 121, x4⟩, ⟨120, 121, x5⟩] w (by omega) (by simp) (lt_of_blk hg) (fun i d hd => ?_)).mono ?_
  · rw [cell_of_row _ _ _ _ _ _ hg, cell_of_row _ _ _ _ _ _ hg]
    match i, hd with
    | 0, hd => obtain rfl := Option.some.inj hd; exact ⟨rfl, rfl⟩
    | 1, hd => obtain rfl := Option.some.inj hd; exact ⟨rfl, rfl⟩
    | 2, hd => obtain rfl := Option.some.inj hd; exact ⟨rfl, rfl⟩
    | 3, hd => obtain rfl := Option.some.inj hd; exact ⟨rfl, rfl⟩
    | 4, hd => obtain rfl := Option.some.inj hd; exact ⟨rfl, rfl⟩
    | 5, hd => obtain rfl := Option.some.inj hd; exact ⟨rfl, rfl⟩
    | q + 6, hd => simp at hd
  · rintro e w' ⟨v, fs, rfl, hl, hS⟩
    have hl2 : fs.length = 6 := hl
    obtain ⟨a, c', hv, hr⟩ := rowsF_own hS.own
    refine ⟨a, c', fs, by rw [hv, hl2], hl2, hr, fun q f hf => ?_, hS.lo⟩
    have hq : q < 6 := by rw [← hl2]; exact (List.getElem?_eq_some_iff.1 hf).1
    match q, hq, hf with
    | 0, _, hf => exact fieldOpen (hS.fld 0 f _ hf rfl) rfl hS.box (numOpen pt8) ((hS.lo.block _ (lt_of_blk h0)).trans h0) rfl (by decide)
    | 1, _, hf => exact fieldOpen (hS.fld 1 f _ hf rfl) rfl hS.box (numOpen pt9) ((hS.lo.block _ (lt_of_blk h1)).trans h1) rfl (by decide)
    | 2, _, hf => exact fieldOpen (hS.fld 2 f _ hf rfl) rfl hS.box (numOpen pt10) ((hS.lo.block _ (lt_of_blk h2)).trans h2) rfl (by decide)
    | 3, _, hf => exact fieldOpen (hS.fld 3 f _ hf rfl) rfl hS.box (numOpenI pt11) ((hS.lo.block _ (lt_of_blk h3)).trans h3) rfl (by decide)
    | 4, _, hf => exact fieldOpen (hS.fld 4 f _ hf rfl) rfl hS.box (numOpen pt12) ((hS.lo.block _ (lt_of_blk h4)).trans h4) rfl (by decide)
    | 5, _, hf => exact fieldOpen (hS.fld 5 f _ hf rfl) rfl hS.box (numOpen pt13) ((hS.lo.block _ (lt_of_blk h5)).trans h5) rfl (by decide)
    | q + 6, hq, _ => omega
theorem colQRate {j : Nat} (hj : j < 2) (b : BookT) : colQ (13 + j) b = colT j b.rs := by
  unfold colQ
  rw [if_neg (by omega), if_neg (by omega), if_neg (by omega)]
  rw [Nat.add_sub_cancel_left]
theorem takeQRate {j : Nat} (hj : j < 2) (xs : List Int) (b : BookT) : takeQ (13 + j) xs b = { b with rs := takeL 2 j xs b.rs } := by
  unfold takeQ
  rw [if_neg (by omega), if_neg (by omega), if_neg (by omega)]
  rw [Nat.add_sub_cancel_left]
theorem okQRate {j : Nat} (hj : j < 2) (xs : List Int) (b : BookT) : okQ (13 + j) xs b = okL j xs b.rs := by
  unfold okQ
  rw [if_neg (by omega), if_neg (by omega), if_neg (by omega)]
  rw [Nat.add_sub_cancel_left]
theorem fieldRate {B gb lp m j : Nat} {d : NumD} {W0 : World} {f : Fld} {ob : Obj} (hI : IsFld 124 126 125 m lp j d W0 f) (hm : mostT[13 + j]? = some m) (hlp : W0.heap[lp]? = some (.cells #[.pointer (some ⟨gb, 3, none⟩)] 121 (0, 0))) (hN : NumOk d.rf d.wf d.bx j ob) (hbx : W0.heap[d.bx]? = some ob) (hmu : isMu ob = false) (hj : j < 2) : FieldOk B gb W0 (13 + j) f := by
  obtain ⟨nb, ib, rfl, hnb, hib⟩ := hI.is
  refine ⟨hm, ⟨lp, nb, ib, rfl, rfl⟩, fun _ _ => by kernel_rfl, fun _ _ => by kernel_rfl, fun W v b hk hb hi ho => ?_, fun W v b a c xs hk hB hS ho hx hxl hsep => ?_⟩
  · rw [colQRate hj]
    exact tellRate lp nb gb d.rf d.wf d.bx j ob v.r v.cr b.rs W hN (hk.same _ _ hbx hmu) (hk.same _ _ hlp rfl) (hk.same _ _ hnb rfl) hb.cells.2.2.2.1 hi.rs ho.rs hj
  · have hib1 := hk.same _ _ hib rfl
    have hlp1 := hk.same _ _ hlp rfl
    have hnb1 := hk.same _ _ hnb rfl
    have hbx1 := hk.same _ _ hbx hmu
    rw [okQRate hj, takeQRate hj]
    unfold okL takeL
    by_cases h0 : j = 0
    · subst h0
      have h := takeRate_first B gb ib lp nb d.rf d.wf d.bx 0 ob a c xs v b W hS hB hN hbx1 (isMu_no hmu).1 hib1 hlp1 hnb1 hj hx hxl hsep
      rw [if_pos rfl]
      exact h
    · by_cases hle : xs.length = b.rs.length
      · have h := takeRate_next B gb ib lp nb d.rf d.wf d.bx j j ob a c xs v b W hS hB ho.rs hN hbx1 (isMu_no hmu).1 h0 hib1 hlp1 hnb1 hj hx hle hsep
        rw [if_neg h0, if_pos hle]
        have e : (j == 0 || xs.length == b.rs.length) = true := by simp [hle]
        rw [e]
        exact h
      · have h := takeRate_no B gb ib lp nb d.rf d.wf d.bx j a c xs.length v b W hS ho.rs.1 h0 hib1 hlp1 hnb1 (by omega) hle
        rw [if_neg h0, if_neg hle]
        have e : (j == 0 || xs.length == b.rs.length) = false := by simp [h0, hle]
        rw [e]
        exact h.mono fun e w' ⟨h1, h2⟩ => ⟨h1, ⟨v, hS.below h2⟩, KeepT.below h2, h2.mono hB⟩
set_option maxRecDepth 100000 in
set_option maxHeartbeats 4000000 in
theorem laidOkRate (B gb gn c x0 x1 : Nat) (w : World) (hg : w.heap[gn]? = some (.cells #[.func (.func 128) #[] #[.pointer (some ⟨x0, 0, none⟩)], .func (.func 129) #[] #[.pointer (some ⟨x0, 0, none⟩)], .func (.func 128) #[] #[.pointer (some ⟨x1, 0, none⟩)], .func (.func 129) #[] #[.pointer (some ⟨x1, 0, none⟩)]] 125 (0, 0))) (h0 : w.heap[x0]? = some (.cells #[.func (.func 61) #[] #[]] 128 (0, 0))) (h1 : w.heap[x1]? = some (.cells #[.func (.func 62) #[] #[]] 128 (0, 0))) :
    Calls Tryz.prog 59 #[.pointer (some ⟨gb, 3, none⟩), .int .i64 32, .slice (some ⟨gn, 0, none⟩) 2 c] w fun e w' => ∃ a c' fs, e = .returned (.slice a 2 c') ∧ fs.length = 2 ∧ RowsF w' a fs ∧ (∀ q f, fs[q]? = some f → FieldOk B gb w' (13 + q) f) ∧ Below w.heap.size w w' := by
  refine (laidRate gb 32 gn c [⟨128, 129, x0⟩, ⟨128, 129, x1⟩] w (by omega) (by simp) (lt_of_blk hg) (fun i d hd => ?_)).mono ?_
  · rw [cell_of_row _ _ _ _ _ _ hg, cell_of_row _ _ _ _ _ _ hg]
    match i, hd with
    | 0, hd => obtain rfl := Option.some.inj hd; exact ⟨rfl, rfl⟩
    | 1, hd => obtain rfl := Option.some.inj hd; exact ⟨rfl, rfl⟩
    | q + 2, hd => simp at hd
  · rintro e w' ⟨v, fs, rfl, hl, hS⟩
    have hl2 : fs.length = 2 := hl
    obtain ⟨a, c', hv, hr⟩ := rowsF_own hS.own
    refine ⟨a, c', fs, by rw [hv, hl2], hl2, hr, fun q f hf => ?_, hS.lo⟩
    have hq : q < 2 := by rw [← hl2]; exact (List.getElem?_eq_some_iff.1 hf).1
    match q, hq, hf with
    | 0, _, hf => exact fieldRate (hS.fld 0 f _ hf rfl) rfl hS.box (numRate pt14) ((hS.lo.block _ (lt_of_blk h0)).trans h0) rfl (by decide)
    | 1, _, hf => exact fieldRate (hS.fld 1 f _ hf rfl) rfl hS.box (numRate pt15) ((hS.lo.block _ (lt_of_blk h1)).trans h1) rfl (by decide)
    | q + 2, hq, _ => omega
end Go.Proofs.YtnhljfhpfpfniaaGreat

namespace Go.Proofs.YtnhljfhpfpfniaaGreat
open Go.RowKit Base Base2

theorem own_fromF {W : World} {B B' n k : Nat} {T : TypeId} {v : Value} {xs : List Value} (h : W.ownsRow B' T k v n xs) (hb : B ≤ B') : W.ownsRow B T k v n xs := by
  obtain ⟨e, h0⟩ := h
  refine ⟨e, ?_⟩
  rcases h0 with h0 | ⟨g, cap, cur, rfl, a1, a2⟩
  · exact .inl h0
  · exact .inr ⟨g, cap, cur, rfl, Nat.le_trans hb a1, a2⟩
theorem keepb {W W' : World} {k : Nat} {o : Obj} (h : W.heap[k]? = some o) (hb : Below W.heap.size W W') : W'.heap[k]? = some o := (hb.block k (lt_of_blk h)).trans h
/-- Some fields, as they lie. -/
structure GrpOk (B gb : Nat) (W : World) (off n : Nat) (a : Option Addr) (fs : List Fld) : Prop where
  len : fs.length = n
  row : RowsF W a fs
  ok : ∀ q f, fs[q]? = some f → FieldOk B gb W (off + q) f
theorem GrpOk.below {B gb : Nat} {W W' : World} {off n : Nat} {a : Option Addr} {fs : List Fld} (h : GrpOk B gb W off n a fs) (hb : Below W.heap.size W W') : GrpOk B gb W' off n a fs :=
  ⟨h.len, h.row.below hb, fun q f hf => (h.ok q f hf).below hb⟩
theorem grp_all {B gb : Nat} {W : World} {a0 a1 a2 a3 : Option Addr} {f0 f1 f2 f3 : List Fld} (h0 : GrpOk B gb W 0 4 a0 f0) (h1 : GrpOk B gb W 4 3 a1 f1) (h2 : GrpOk B gb W 7 6 a2 f2) (h3 : GrpOk B gb W 13 2 a3 f3) : (f0 ++ (f1 ++ (f2 ++ f3))).length = 15 ∧ ∀ q f, (f0 ++ (f1 ++ (f2 ++ f3)))[q]? = some f → FieldOk B gb W q f := by
  have l0 := h0.len
  have l1 := h1.len
  have l2 := h2.len
  have l3 := h3.len
  refine ⟨by simp only [List.length_append]; omega, fun q f hf => ?_⟩
  by_cases q0 : q < 4
  · rw [List.getElem?_append_left (by omega)] at hf
    have := h0.ok q f hf
    rwa [Nat.zero_add] at this
  · rw [List.getElem?_append_right (by omega), l0] at hf
    by_cases q1 : q < 7
    · rw [List.getElem?_append_left (by omega)] at hf
      have := h1.ok _ f hf
      rwa [show 4 + (q - 4) = q by omega] at this
    · rw [List.getElem?_append_right (by omega), l1] at hf
      by_cases q2 : q < 13
      · rw [List.getElem?_append_left (by omega)] at hf
        have := h2.ok _ f hf
        rwa [show 7 + (q - 4 - 3) = q by omega] at this
      · rw [List.getElem?_append_right (by omega), l2] at hf
        have := h3.ok _ f hf
        rwa [show 13 + (q - 4 - 3 - 6) = q by omega] at this
set_option maxRecDepth 100000 in
set_option maxHeartbeats 4000000 in
theorem fields_cat (B gb g c : Nat) (w : World) (a0 a1 a2 a3 : Option Addr) (c0 c1 c2 c3 : Nat) (f0 f1 f2 f3 : List Fld) (hg : w.heap[g]? = some (.cells #[.slice a0 4 c0, .slice a1 3 c1, .slice a2 6 c2, .slice a3 2 c3] 51 (0, 0))) (h0 : GrpOk B gb w 0 4 a0 f0) (h1 : GrpOk B gb w 4 3 a1 f1) (h2 : GrpOk B gb w 7 6 a2 f2) (h3 : GrpOk B gb w 13 2 a3 f3) :
    Calls Tryz.prog 38 #[.slice (some ⟨g, 0, none⟩) 4 c] w fun e w' => ∃ v, e = .returned v ∧ SetF w.heap.size w (f0 ++ (f1 ++ (f2 ++ f3))) v w' ∧ (f0 ++ (f1 ++ (f2 ++ f3))).length = 15 ∧ (∀ q f, (f0 ++ (f1 ++ (f2 ++ f3)))[q]? = some f → FieldOk B gb w' q f) ∧ Below w.heap.size w w' := by
  obtain ⟨hl, hf⟩ := grp_all h0 h1 h2 h3
  have hcat : catF [⟨a0, c0, f0⟩, ⟨a1, c1, f1⟩, ⟨a2, c2, f2⟩, ⟨a3, c3, f3⟩] = f0 ++ (f1 ++ (f2 ++ f3)) := by simp [catF]
  have h := concatField g c [⟨a0, c0, f0⟩, ⟨a1, c1, f1⟩, ⟨a2, c2, f2⟩, ⟨a3, c3, f3⟩] w (lt_of_blk hg) (fun i p hp => by
    rw [cell_of_row _ _ _ _ _ _ hg]
    match i, hp with
    | 0, hp => obtain rfl := Option.some.inj hp; show some _ = some (Value.slice a0 f0.length c0); rw [h0.len]; rfl
    | 1, hp => obtain rfl := Option.some.inj hp; show some _ = some (Value.slice a1 f1.length c1); rw [h1.len]; rfl
    | 2, hp => obtain rfl := Option.some.inj hp; show some _ = some (Value.slice a2 f2.length c2); rw [h2.len]; rfl
    | 3, hp => obtain rfl := Option.some.inj hp; show some _ = some (Value.slice a3 f3.length c3); rw [h3.len]; rfl
    | i + 4, hp => simp at hp) (fun p hp => by
    simp only [List.mem_cons, List.not_mem_nil, or_false] at hp
    rcases hp with rfl | rfl | rfl | rfl
    · exact h0.row
    · exact h1.row
    · exact h2.row
    · exact h3.row) (by rw [hcat, hl]; omega) (by simp)
  rw [hcat] at h
  exact h.mono fun e w' ⟨v, h1, h2⟩ => ⟨v, h1, h2, hl, fun q f hq => (hf q f hq).below h2.lo, h2.lo⟩
set_option maxRecDepth 100000 in
set_option maxHeartbeats 8000000 in
theorem fields17 (B gb : Nat) (w : World) :
    Calls Tryz.prog 17 #[.pointer (some ⟨gb, 0, none⟩)] w fun e w' => ∃ v fs, e = .returned v ∧ w'.ownsRow w.heap.size 57 3 v fs.length (flatF fs) ∧ fs.length = 15 ∧ (∀ q f, fs[q]? = some f → FieldOk B gb w' q f) ∧ Below w.heap.size w w' := by
  have HAHolder := Lib.hid (fun f W => show Calls Tryz.prog 40 #[.func (.func f) #[] #[]] W fun e w' => ∃ bx, e = .returned (.agg #[.func (.func 108) #[] #[.pointer (some ⟨bx, 0, none⟩)], .func (.func 109) #[] #[.pointer (some ⟨bx, 0, none⟩)]]) ∧ w'.heap[bx]? = some (.cells #[.func (.func f) #[] #[]] 98 (0, 0)) ∧ Below W.heap.size W w' from atHolder f W)
  have HAStake := Lib.hid (fun f W => show Calls Tryz.prog 46 #[.func (.func f) #[] #[]] W fun e w' => ∃ bx, e = .returned (.agg #[.func (.func 114) #[] #[.pointer (some ⟨bx, 0, none⟩)], .func (.func 115) #[] #[.pointer (some ⟨bx, 0, none⟩)]]) ∧ w'.heap[bx]? = some (.cells #[.func (.func f) #[] #[]] 107 (0, 0)) ∧ Below W.heap.size W w' from atStake f W)
  have HAOpen := Lib.hid (fun f W => show Calls Tryz.prog 51 #[.func (.func f) #[] #[]] W fun e w' => ∃ bx, e = .returned (.agg #[.func (.func 120) #[] #[.pointer (some ⟨bx, 0, none⟩)], .func (.func 121) #[] #[.pointer (some ⟨bx, 0, none⟩)]]) ∧ w'.heap[bx]? = some (.cells #[.func (.func f) #[] #[]] 116 (0, 0)) ∧ Below W.heap.size W w' from atOpen f W)
  have HAOpenI := Lib.hid (fun f W => show Calls Tryz.prog 55 #[.func (.func f) #[] #[]] W fun e w' => ∃ bx, e = .returned (.agg #[.func (.func 122) #[] #[.pointer (some ⟨bx, 0, none⟩)], .func (.func 123) #[] #[.pointer (some ⟨bx, 0, none⟩)]]) ∧ w'.heap[bx]? = some (.cells #[.func (.func f) #[] #[]] 119 (0, 0)) ∧ Below W.heap.size W w' from atOpenI f W)
  have HARate := Lib.hid (fun f W => show Calls Tryz.prog 60 #[.func (.func f) #[] #[]] W fun e w' => ∃ bx, e = .returned (.agg #[.func (.func 128) #[] #[.pointer (some ⟨bx, 0, none⟩)], .func (.func 129) #[] #[.pointer (some ⟨bx, 0, none⟩)]]) ∧ w'.heap[bx]? = some (.cells #[.func (.func f) #[] #[]] 128 (0, 0)) ∧ Below W.heap.size W w' from atRate f W)
  go_enter Tryz.func17, Tryz.ntmps17
  go_upto_region 1 with (fail)
  refine wp_region_held_drew (S := fun W => Below w.heap.size w W) (by kernel_rfl) (by exact (Below.refl _ w).drew) (fun hS => ?_)
  refine wpAnyH_take (i := 0) (v := .pointer (some ⟨gb, 0, none⟩)) rfl (by kernel_rfl) (by kernel_rfl) (by kernel_rfl) (fun _ _ _ h => h) (Or.inl ⟨by simp [Region.wanted], fun W _ => by go_simp⟩) hS ?_
  simp only [List.getElem_toArray, List.getElem_cons_zero, Act.put, List.setIfInBounds_toArray, List.set_cons_zero, List.set_cons_succ]
  refine wpAnyH_take (i := 1) (v := .pointer (some ⟨gb, 0, none⟩)) rfl (by kernel_rfl) (by kernel_rfl) (by kernel_rfl) (fun _ _ _ h => h) (Or.inl ⟨by simp [Region.wanted], fun W _ => by go_simp⟩) hS ?_
  simp only [List.getElem_toArray, List.getElem_cons_zero, List.getElem_cons_succ, Act.put, List.setIfInBounds_toArray, List.set_cons_zero, List.set_cons_succ]
  refine wpAnyH_take (i := 2) (v := .pointer (some ⟨gb, 0, none⟩)) rfl (by kernel_rfl) (by kernel_rfl) (by kernel_rfl) (fun _ _ _ h => h) (Or.inl ⟨by simp [Region.wanted], fun W _ => by go_simp⟩) hS ?_
  simp only [List.getElem_toArray, List.getElem_cons_zero, List.getElem_cons_succ, Act.put, List.setIfInBounds_toArray, List.set_cons_zero, List.set_cons_succ]
  refine wpAnyH_take (i := 9) (v := .pointer (some ⟨gb, 0, none⟩)) rfl (by kernel_rfl) (by kernel_rfl) (by kernel_rfl) (fun _ _ _ h => h) (Or.inl ⟨by simp [Region.wanted], fun W _ => by go_simp⟩) hS ?_
  simp only [List.getElem_toArray, List.getElem_cons_zero, List.getElem_cons_succ, Act.put, List.setIfInBounds_toArray, List.set_cons_zero, List.set_cons_succ]
  refine wpAnyH_take (i := 10) (v := .pointer (some ⟨gb, 0, none⟩)) rfl (by kernel_rfl) (by kernel_rfl) (by kernel_rfl) (fun _ _ _ h => h) (Or.inl ⟨by simp [Region.wanted], fun W _ => by go_simp⟩) hS ?_
  simp only [List.getElem_toArray, List.getElem_cons_zero, List.getElem_cons_succ, Act.put, List.setIfInBounds_toArray, List.set_cons_zero, List.set_cons_succ]
  refine wpAnyH_take (i := 11) (v := .pointer (some ⟨gb, 1, none⟩)) rfl (by kernel_rfl) (by kernel_rfl) (by kernel_rfl) (fun _ _ _ h => h) (Or.inl ⟨by simp [Region.wanted], fun W _ => by go_simp⟩) hS ?_
  simp only [List.getElem_toArray, List.getElem_cons_zero, List.getElem_cons_succ, Act.put, List.setIfInBounds_toArray, List.set_cons_zero, List.set_cons_succ]
  refine wpAnyH_take (i := 17) (v := .pointer (some ⟨gb, 0, none⟩)) rfl (by kernel_rfl) (by kernel_rfl) (by kernel_rfl) (fun _ _ _ h => h) (Or.inl ⟨by simp [Region.wanted], fun W _ => by go_simp⟩) hS ?_
  simp only [List.getElem_toArray, List.getElem_cons_zero, List.getElem_cons_succ, Act.put, List.setIfInBounds_toArray, List.set_cons_zero, List.set_cons_succ]
  refine wpAnyH_take (i := 18) (v := .pointer (some ⟨gb, 0, none⟩)) rfl (by kernel_rfl) (by kernel_rfl) (by kernel_rfl) (fun _ _ _ h => h) (Or.inl ⟨by simp [Region.wanted], fun W _ => by go_simp⟩) hS ?_
  simp only [List.getElem_toArray, List.getElem_cons_zero, List.getElem_cons_succ, Act.put, List.setIfInBounds_toArray, List.set_cons_zero, List.set_cons_succ]
  refine wpAnyH_take (i := 19) (v := .pointer (some ⟨gb, 2, none⟩)) rfl (by kernel_rfl) (by kernel_rfl) (by kernel_rfl) (fun _ _ _ h => h) (Or.inl ⟨by simp [Region.wanted], fun W _ => by go_simp⟩) hS ?_
  simp only [List.getElem_toArray, List.getElem_cons_zero, List.getElem_cons_succ, Act.put, List.setIfInBounds_toArray, List.set_cons_zero, List.set_cons_succ]
  refine wpAnyH_take (i := 28) (v := .pointer (some ⟨gb, 0, none⟩)) rfl (by kernel_rfl) (by kernel_rfl) (by kernel_rfl) (fun _ _ _ h => h) (Or.inl ⟨by simp [Region.wanted], fun W _ => by go_simp⟩) hS ?_
  simp only [List.getElem_toArray, List.getElem_cons_zero, List.getElem_cons_succ, Act.put, List.setIfInBounds_toArray, List.set_cons_zero, List.set_cons_succ]
  refine wpAnyH_take (i := 29) (v := .pointer (some ⟨gb, 0, none⟩)) rfl (by kernel_rfl) (by kernel_rfl) (by kernel_rfl) (fun _ _ _ h => h) (Or.inl ⟨by simp [Region.wanted], fun W _ => by go_simp⟩) hS ?_
  simp only [List.getElem_toArray, List.getElem_cons_zero, List.getElem_cons_succ, Act.put, List.setIfInBounds_toArray, List.set_cons_zero, List.set_cons_succ]
  refine wpAnyH_take (i := 30) (v := .pointer (some ⟨gb, 3, none⟩)) rfl (by kernel_rfl) (by kernel_rfl) (by kernel_rfl) (fun _ _ _ h => h) (Or.inl ⟨by simp [Region.wanted], fun W _ => by go_simp⟩) hS ?_
  simp only [List.getElem_toArray, List.getElem_cons_zero, List.getElem_cons_succ, Act.put, List.setIfInBounds_toArray, List.set_cons_zero, List.set_cons_succ]
  refine wpAnyH_ready (rs := [3]) (by kernel_rfl) (by simp) ?_
  refine AllReadyH.cons rfl (fun K1 hK1 => ?_) AllReadyH.nil
  refine wanted_go rfl ?_
  simp only [List.getElem_toArray, List.getElem_cons_zero, List.getElem_cons_succ]
  go_wp2_with (go_at_call 40; refine (HAHolder.out 41 _).mono ?_; rintro e w1 ⟨x0_0, rfl, hx, hb⟩; have Hx0_0 := Lib.hid hx; have HBw1 := Lib.hid ((hS).trans (hb.mono (hS).size)); clear hx hb)
  refine hK1.out _ _ (HBw1.out) (fun hS1 => ?_)
  refine wpAnyH_ready (rs := [4]) (by kernel_rfl) (by simp) ?_
  refine AllReadyH.cons rfl (fun K2 hK2 => ?_) AllReadyH.nil
  refine wanted_go rfl ?_
  simp only [List.getElem_toArray, List.getElem_cons_zero, List.getElem_cons_succ]
  go_wp2_with (go_at_call 40; refine (HAHolder.out 42 _).mono ?_; rintro e w2 ⟨x0_1, rfl, hx, hb⟩; replace Hx0_0 := Lib.hid (keepb Hx0_0.out hb); have Hx0_1 := Lib.hid hx; have HBw2 := Lib.hid ((hS1).trans (hb.mono (hS1).size)); clear hx hb)
  refine hK2.out _ _ (HBw2.out) (fun hS2 => ?_)
  refine wpAnyH_ready (rs := [5]) (by kernel_rfl) (by simp) ?_
  refine AllReadyH.cons rfl (fun K3 hK3 => ?_) AllReadyH.nil
  refine wanted_go rfl ?_
  simp only [List.getElem_toArray, List.getElem_cons_zero, List.getElem_cons_succ]
  go_wp2_with (go_at_call 40; refine (HAHolder.out 43 _).mono ?_; rintro e w3 ⟨x0_2, rfl, hx, hb⟩; replace Hx0_0 := Lib.hid (keepb Hx0_0.out hb); replace Hx0_1 := Lib.hid (keepb Hx0_1.out hb); have Hx0_2 := Lib.hid hx; have HBw3 := Lib.hid ((hS2).trans (hb.mono (hS2).size)); clear hx hb)
  refine hK3.out _ _ (HBw3.out) (fun hS3 => ?_)
  refine wpAnyH_ready (rs := [6]) (by kernel_rfl) (by simp) ?_
  refine AllReadyH.cons rfl (fun K4 hK4 => ?_) AllReadyH.nil
  refine wanted_go rfl ?_
  simp only [List.getElem_toArray, List.getElem_cons_zero, List.getElem_cons_succ]
  go_wp2_with (go_at_call 40; refine (HAHolder.out 44 _).mono ?_; rintro e w4 ⟨x0_3, rfl, hx, hb⟩; replace Hx0_0 := Lib.hid (keepb Hx0_0.out hb); replace Hx0_1 := Lib.hid (keepb Hx0_1.out hb); replace Hx0_2 := Lib.hid (keepb Hx0_2.out hb); have Hx0_3 := Lib.hid hx; have HBw4 := Lib.hid ((hS3).trans (hb.mono (hS3).size)); clear hx hb)
  refine hK4.out _ _ (HBw4.out) (fun hS4 => ?_)
  refine wpAnyH_ready (rs := [7]) (by kernel_rfl) (by simp) ?_
  refine AllReadyH.cons rfl (fun K5 hK5 => ?_) AllReadyH.nil
  refine wanted_go rfl ?_
  simp only [List.getElem_toArray, List.getElem_cons_zero, List.getElem_cons_succ]
  (go_wp2; have hb := (Below.refl w4.heap.size w4).alloc (Nat.le_refl _) (.cells #[.func (.func 108) #[] #[.pointer (some ⟨x0_0, 0, none⟩)], .func (.func 109) #[] #[.pointer (some ⟨x0_0, 0, none⟩)], .func (.func 108) #[] #[.pointer (some ⟨x0_1, 0, none⟩)], .func (.func 109) #[] #[.pointer (some ⟨x0_1, 0, none⟩)], .func (.func 108) #[] #[.pointer (some ⟨x0_2, 0, none⟩)], .func (.func 109) #[] #[.pointer (some ⟨x0_2, 0, none⟩)], .func (.func 108) #[] #[.pointer (some ⟨x0_3, 0, none⟩)], .func (.func 109) #[] #[.pointer (some ⟨x0_3, 0, none⟩)]] 94); replace Hx0_0 := Lib.hid (keepb Hx0_0.out hb); replace Hx0_1 := Lib.hid (keepb Hx0_1.out hb); replace Hx0_2 := Lib.hid (keepb Hx0_2.out hb); replace Hx0_3 := Lib.hid (keepb Hx0_3.out hb); have HN0 := Lib.hid (heap_alloc_new w4 (.cells #[.func (.func 108) #[] #[.pointer (some ⟨x0_0, 0, none⟩)], .func (.func 109) #[] #[.pointer (some ⟨x0_0, 0, none⟩)], .func (.func 108) #[] #[.pointer (some ⟨x0_1, 0, none⟩)], .func (.func 109) #[] #[.pointer (some ⟨x0_1, 0, none⟩)], .func (.func 108) #[] #[.pointer (some ⟨x0_2, 0, none⟩)], .func (.func 109) #[] #[.pointer (some ⟨x0_2, 0, none⟩)], .func (.func 108) #[] #[.pointer (some ⟨x0_3, 0, none⟩)], .func (.func 109) #[] #[.pointer (some ⟨x0_3, 0, none⟩)]] 94)); have HBn0 := Lib.hid ((hS4).trans (hb.mono (hS4).size)); clear hb)
  refine hK5.out _ _ (HBn0.out) (fun hS5 => ?_)
  refine wpAnyH_ready (rs := [8]) (by kernel_rfl) (by simp) ?_
  refine AllReadyH.cons rfl (fun K6 hK6 => ?_) AllReadyH.nil
  refine wanted_go rfl ?_
  simp only [List.getElem_toArray, List.getElem_cons_zero, List.getElem_cons_succ]
  go_wp2_with (go_at_call 39; refine (laidOkHolder B gb w4.heap.size 4 x0_0 x0_1 x0_2 x0_3 _ HN0.out Hx0_0.out Hx0_1.out Hx0_2.out Hx0_3.out).mono ?_; rintro e w5 ⟨a0, c0, f0, rfl, hl, hr, hf, hb⟩; have G0 := Lib.hid (GrpOk.mk (n := 4) hl hr hf); have HBw5 := Lib.hid ((hS5).trans (hb.mono (hS5).size)); clear hl hr hf hb HN0  Hx0_0  Hx0_1  Hx0_2  Hx0_3)
  refine hK6.out _ _ (HBw5.out) (fun hS6 => ?_)
  refine wpAnyH_ready (rs := [12]) (by kernel_rfl) (by simp) ?_
  refine AllReadyH.cons rfl (fun K7 hK7 => ?_) AllReadyH.nil
  refine wanted_go rfl ?_
  simp only [List.getElem_toArray, List.getElem_cons_zero, List.getElem_cons_succ]
  go_wp2_with (go_at_call 46; refine (HAStake.out 47 _).mono ?_; rintro e w6 ⟨x1_0, rfl, hx, hb⟩; replace G0 := Lib.hid (G0.out.below hb); have Hx1_0 := Lib.hid hx; have HBw6 := Lib.hid ((hS6).trans (hb.mono (hS6).size)); clear hx hb)
  refine hK7.out _ _ (HBw6.out) (fun hS7 => ?_)
  refine wpAnyH_ready (rs := [13]) (by kernel_rfl) (by simp) ?_
  refine AllReadyH.cons rfl (fun K8 hK8 => ?_) AllReadyH.nil
  refine wanted_go rfl ?_
  simp only [List.getElem_toArray, List.getElem_cons_zero, List.getElem_cons_succ]
  go_wp2_with (go_at_call 46; refine (HAStake.out 48 _).mono ?_; rintro e w7 ⟨x1_1, rfl, hx, hb⟩; replace Hx1_0 := Lib.hid (keepb Hx1_0.out hb); replace G0 := Lib.hid (G0.out.below hb); have Hx1_1 := Lib.hid hx; have HBw7 := Lib.hid ((hS7).trans (hb.mono (hS7).size)); clear hx hb)
  refine hK8.out _ _ (HBw7.out) (fun hS8 => ?_)
  refine wpAnyH_ready (rs := [14]) (by kernel_rfl) (by simp) ?_
  refine AllReadyH.cons rfl (fun K9 hK9 => ?_) AllReadyH.nil
  refine wanted_go rfl ?_
  simp only [List.getElem_toArray, List.getElem_cons_zero, List.getElem_cons_succ]
  go_wp2_with (go_at_call 46; refine (HAStake.out 49 _).mono ?_; rintro e w8 ⟨x1_2, rfl, hx, hb⟩; replace Hx1_0 := Lib.hid (keepb Hx1_0.out hb); replace Hx1_1 := Lib.hid (keepb Hx1_1.out hb); replace G0 := Lib.hid (G0.out.below hb); have Hx1_2 := Lib.hid hx; have HBw8 := Lib.hid ((hS8).trans (hb.mono (hS8).size)); clear hx hb)
  refine hK9.out _ _ (HBw8.out) (fun hS9 => ?_)
  refine wpAnyH_ready (rs := [15]) (by kernel_rfl) (by simp) ?_
  refine AllReadyH.cons rfl (fun K10 hK10 => ?_) AllReadyH.nil
  refine wanted_go rfl ?_
  simp only [List.getElem_toArray, List.getElem_cons_zero, List.getElem_cons_succ]
  (go_wp2; have hb := (Below.refl w8.heap.size w8).alloc (Nat.le_refl _) (.cells #[.func (.func 114) #[] #[.pointer (some ⟨x1_0, 0, none⟩)], .func (.func 115) #[] #[.pointer (some ⟨x1_0, 0, none⟩)], .func (.func 114) #[] #[.pointer (some ⟨x1_1, 0, none⟩)], .func (.func 115) #[] #[.pointer (some ⟨x1_1, 0, none⟩)], .func (.func 114) #[] #[.pointer (some ⟨x1_2, 0, none⟩)], .func (.func 115) #[] #[.pointer (some ⟨x1_2, 0, none⟩)]] 104); replace Hx1_0 := Lib.hid (keepb Hx1_0.out hb); replace Hx1_1 := Lib.hid (keepb Hx1_1.out hb); replace Hx1_2 := Lib.hid (keepb Hx1_2.out hb); replace G0 := Lib.hid (G0.out.below hb); have HN1 := Lib.hid (heap_alloc_new w8 (.cells #[.func (.func 114) #[] #[.pointer (some ⟨x1_0, 0, none⟩)], .func (.func 115) #[] #[.pointer (some ⟨x1_0, 0, none⟩)], .func (.func 114) #[] #[.pointer (some ⟨x1_1, 0, none⟩)], .func (.func 115) #[] #[.pointer (some ⟨x1_1, 0, none⟩)], .func (.func 114) #[] #[.pointer (some ⟨x1_2, 0, none⟩)], .func (.func 115) #[] #[.pointer (some ⟨x1_2, 0, none⟩)]] 104)); have HBn1 := Lib.hid ((hS9).trans (hb.mono (hS9).size)); clear hb)
  refine hK10.out _ _ (HBn1.out) (fun hS10 => ?_)
  refine wpAnyH_ready (rs := [16]) (by kernel_rfl) (by simp) ?_
  refine AllReadyH.cons rfl (fun K11 hK11 => ?_) AllReadyH.nil
  refine wanted_go rfl ?_
  simp only [List.getElem_toArray, List.getElem_cons_zero, List.getElem_cons_succ]
  go_wp2_with (go_at_call 45; refine (laidOkStake B gb w8.heap.size 3 x1_0 x1_1 x1_2 _ HN1.out Hx1_0.out Hx1_1.out Hx1_2.out).mono ?_; rintro e w9 ⟨a1, c1, f1, rfl, hl, hr, hf, hb⟩; replace G0 := Lib.hid (G0.out.below hb); have G1 := Lib.hid (GrpOk.mk (n := 3) hl hr hf); have HBw9 := Lib.hid ((hS10).trans (hb.mono (hS10).size)); clear hl hr hf hb HN1  Hx1_0  Hx1_1  Hx1_2)
  refine hK11.out _ _ (HBw9.out) (fun hS11 => ?_)
  refine wpAnyH_ready (rs := [20]) (by kernel_rfl) (by simp) ?_
  refine AllReadyH.cons rfl (fun K12 hK12 => ?_) AllReadyH.nil
  refine wanted_go rfl ?_
  simp only [List.getElem_toArray, List.getElem_cons_zero, List.getElem_cons_succ]
  go_wp2_with (go_at_call 51; refine (HAOpen.out 52 _).mono ?_; rintro e w10 ⟨x2_0, rfl, hx, hb⟩; replace G0 := Lib.hid (G0.out.below hb); replace G1 := Lib.hid (G1.out.below hb); have Hx2_0 := Lib.hid hx; have HBw10 := Lib.hid ((hS11).trans (hb.mono (hS11).size)); clear hx hb)
  refine hK12.out _ _ (HBw10.out) (fun hS12 => ?_)
  refine wpAnyH_ready (rs := [21]) (by kernel_rfl) (by simp) ?_
  refine AllReadyH.cons rfl (fun K13 hK13 => ?_) AllReadyH.nil
  refine wanted_go rfl ?_
  simp only [List.getElem_toArray, List.getElem_cons_zero, List.getElem_cons_succ]
  go_wp2_with (go_at_call 51; refine (HAOpen.out 53 _).mono ?_; rintro e w11 ⟨x2_1, rfl, hx, hb⟩; replace Hx2_0 := Lib.hid (keepb Hx2_0.out hb); replace G0 := Lib.hid (G0.out.below hb); replace G1 := Lib.hid (G1.out.below hb); have Hx2_1 := Lib.hid hx; have HBw11 := Lib.hid ((hS12).trans (hb.mono (hS12).size)); clear hx hb)
  refine hK13.out _ _ (HBw11.out) (fun hS13 => ?_)
  refine wpAnyH_ready (rs := [22]) (by kernel_rfl) (by simp) ?_
  refine AllReadyH.cons rfl (fun K14 hK14 => ?_) AllReadyH.nil
  refine wanted_go rfl ?_
  simp only [List.getElem_toArray, List.getElem_cons_zero, List.getElem_cons_succ]
  go_wp2_with (go_at_call 51; refine (HAOpen.out 54 _).mono ?_; rintro e w12 ⟨x2_2, rfl, hx, hb⟩; replace Hx2_0 := Lib.hid (keepb Hx2_0.out hb); replace Hx2_1 := Lib.hid (keepb Hx2_1.out hb); replace G0 := Lib.hid (G0.out.below hb); replace G1 := Lib.hid (G1.out.below hb); have Hx2_2 := Lib.hid hx; have HBw12 := Lib.hid ((hS13).trans (hb.mono (hS13).size)); clear hx hb)
  refine hK14.out _ _ (HBw12.out) (fun hS14 => ?_)
  refine wpAnyH_ready (rs := [23]) (by kernel_rfl) (by simp) ?_
  refine AllReadyH.cons rfl (fun K15 hK15 => ?_) AllReadyH.nil
  refine wanted_go rfl ?_
  simp only [List.getElem_toArray, List.getElem_cons_zero, List.getElem_cons_succ]
  go_wp2_with (go_at_call 55; refine (HAOpenI.out 56 _).mono ?_; rintro e w13 ⟨x2_3, rfl, hx, hb⟩; replace Hx2_0 := Lib.hid (keepb Hx2_0.out hb); replace Hx2_1 := Lib.hid (keepb Hx2_1.out hb); replace Hx2_2 := Lib.hid (keepb Hx2_2.out hb); replace G0 := Lib.hid (G0.out.below hb); replace G1 := Lib.hid (G1.out.below hb); have Hx2_3 := Lib.hid hx; have HBw13 := Lib.hid ((hS14).trans (hb.mono (hS14).size)); clear hx hb)
  refine hK15.out _ _ (HBw13.out) (fun hS15 => ?_)
  refine wpAnyH_ready (rs := [24]) (by kernel_rfl) (by simp) ?_
  refine AllReadyH.cons rfl (fun K16 hK16 => ?_) AllReadyH.nil
  refine wanted_go rfl ?_
  simp only [List.getElem_toArray, List.getElem_cons_zero, List.getElem_cons_succ]
  go_wp2_with (go_at_call 51; refine (HAOpen.out 57 _).mono ?_; rintro e w14 ⟨x2_4, rfl, hx, hb⟩; replace Hx2_0 := Lib.hid (keepb Hx2_0.out hb); replace Hx2_1 := Lib.hid (keepb Hx2_1.out hb); replace Hx2_2 := Lib.hid (keepb Hx2_2.out hb); replace Hx2_3 := Lib.hid (keepb Hx2_3.out hb); replace G0 := Lib.hid (G0.out.below hb); replace G1 := Lib.hid (G1.out.below hb); have Hx2_4 := Lib.hid hx; have HBw14 := Lib.hid ((hS15).trans (hb.mono (hS15).size)); clear hx hb)
  refine hK16.out _ _ (HBw14.out) (fun hS16 => ?_)
  refine wpAnyH_ready (rs := [25]) (by kernel_rfl) (by simp) ?_
  refine AllReadyH.cons rfl (fun K17 hK17 => ?_) AllReadyH.nil
  refine wanted_go rfl ?_
  simp only [List.getElem_toArray, List.getElem_cons_zero, List.getElem_cons_succ]
  go_wp2_with (go_at_call 51; refine (HAOpen.out 58 _).mono ?_; rintro e w15 ⟨x2_5, rfl, hx, hb⟩; replace Hx2_0 := Lib.hid (keepb Hx2_0.out hb); replace Hx2_1 := Lib.hid (keepb Hx2_1.out hb); replace Hx2_2 := Lib.hid (keepb Hx2_2.out hb); replace Hx2_3 := Lib.hid (keepb Hx2_3.out hb); replace Hx2_4 := Lib.hid (keepb Hx2_4.out hb); replace G0 := Lib.hid (G0.out.below hb); replace G1 := Lib.hid (G1.out.below hb); have Hx2_5 := Lib.hid hx; have HBw15 := Lib.hid ((hS16).trans (hb.mono (hS16).size)); clear hx hb)
  refine hK17.out _ _ (HBw15.out) (fun hS17 => ?_)
  refine wpAnyH_ready (rs := [26]) (by kernel_rfl) (by simp) ?_
  refine AllReadyH.cons rfl (fun K18 hK18 => ?_) AllReadyH.nil
  refine wanted_go rfl ?_
  simp only [List.getElem_toArray, List.getElem_cons_zero, List.getElem_cons_succ]
  (go_wp2; have hb := (Below.refl w15.heap.size w15).alloc (Nat.le_refl _) (.cells #[.func (.func 120) #[] #[.pointer (some ⟨x2_0, 0, none⟩)], .func (.func 121) #[] #[.pointer (some ⟨x2_0, 0, none⟩)], .func (.func 120) #[] #[.pointer (some ⟨x2_1, 0, none⟩)], .func (.func 121) #[] #[.pointer (some ⟨x2_1, 0, none⟩)], .func (.func 120) #[] #[.pointer (some ⟨x2_2, 0, none⟩)], .func (.func 121) #[] #[.pointer (some ⟨x2_2, 0, none⟩)], .func (.func 122) #[] #[.pointer (some ⟨x2_3, 0, none⟩)], .func (.func 123) #[] #[.pointer (some ⟨x2_3, 0, none⟩)], .func (.func 120) #[] #[.pointer (some ⟨x2_4, 0, none⟩)], .func (.func 121) #[] #[.pointer (some ⟨x2_4, 0, none⟩)], .func (.func 120) #[] #[.pointer (some ⟨x2_5, 0, none⟩)], .func (.func 121) #[] #[.pointer (some ⟨x2_5, 0, none⟩)]] 113); replace Hx2_0 := Lib.hid (keepb Hx2_0.out hb); replace Hx2_1 := Lib.hid (keepb Hx2_1.out hb); replace Hx2_2 := Lib.hid (keepb Hx2_2.out hb); replace Hx2_3 := Lib.hid (keepb Hx2_3.out hb); replace Hx2_4 := Lib.hid (keepb Hx2_4.out hb); replace Hx2_5 := Lib.hid (keepb Hx2_5.out hb); replace G0 := Lib.hid (G0.out.below hb); replace G1 := Lib.hid (G1.out.below hb); have HN2 := Lib.hid (heap_alloc_new w15 (.cells #[.func (.func 120) #[] #[.pointer (some ⟨x2_0, 0, none⟩)], .func (.func 121) #[] #[.pointer (some ⟨x2_0, 0, none⟩)], .func (.func 120) #[] #[.pointer (some ⟨x2_1, 0, none⟩)], .func (.func 121) #[] #[.pointer (some ⟨x2_1, 0, none⟩)], .func (.func 120) #[] #[.pointer (some ⟨x2_2, 0, none⟩)], .func (.func 121) #[] #[.pointer (some ⟨x2_2, 0, none⟩)], .func (.func 122) #[] #[.pointer (some ⟨x2_3, 0, none⟩)], .func (.func 123) #[] #[.pointer (some ⟨x2_3, 0, none⟩)], .func (.func 120) #[] #[.pointer (some ⟨x2_4, 0, none⟩)], .func (.func 121) #[] #[.pointer (some ⟨x2_4, 0, none⟩)], .func (.func 120) #[] #[.pointer (some ⟨x2_5, 0, none⟩)], .func (.func 121) #[] #[.pointer (some ⟨x2_5, 0, none⟩)]] 113)); have HBn2 := Lib.hid ((hS17).trans (hb.mono (hS17).size)); clear hb)
  refine hK18.out _ _ (HBn2.out) (fun hS18 => ?_)
  refine wpAnyH_ready (rs := [27]) (by kernel_rfl) (by simp) ?_
  refine AllReadyH.cons rfl (fun K19 hK19 => ?_) AllReadyH.nil
  refine wanted_go rfl ?_
  simp only [List.getElem_toArray, List.getElem_cons_zero, List.getElem_cons_succ]
  go_wp2_with (go_at_call 50; refine (laidOkOpen B gb w15.heap.size 6 x2_0 x2_1 x2_2 x2_3 x2_4 x2_5 _ HN2.out Hx2_0.out Hx2_1.out Hx2_2.out Hx2_3.out Hx2_4.out Hx2_5.out).mono ?_; rintro e w16 ⟨a2, c2, f2, rfl, hl, hr, hf, hb⟩; replace G0 := Lib.hid (G0.out.below hb); replace G1 := Lib.hid (G1.out.below hb); have G2 := Lib.hid (GrpOk.mk (n := 6) hl hr hf); have HBw16 := Lib.hid ((hS18).trans (hb.mono (hS18).size)); clear hl hr hf hb HN2  Hx2_0  Hx2_1  Hx2_2  Hx2_3  Hx2_4  Hx2_5)
  refine hK19.out _ _ (HBw16.out) (fun hS19 => ?_)
  refine wpAnyH_ready (rs := [31]) (by kernel_rfl) (by simp) ?_
  refine AllReadyH.cons rfl (fun K20 hK20 => ?_) AllReadyH.nil
  refine wanted_go rfl ?_
  simp only [List.getElem_toArray, List.getElem_cons_zero, List.getElem_cons_succ]
  go_wp2_with (go_at_call 60; refine (HARate.out 61 _).mono ?_; rintro e w17 ⟨x3_0, rfl, hx, hb⟩; replace G0 := Lib.hid (G0.out.below hb); replace G1 := Lib.hid (G1.out.below hb); replace G2 := Lib.hid (G2.out.below hb); have Hx3_0 := Lib.hid hx; have HBw17 := Lib.hid ((hS19).trans (hb.mono (hS19).size)); clear hx hb)
  refine hK20.out _ _ (HBw17.out) (fun hS20 => ?_)
  refine wpAnyH_ready (rs := [32]) (by kernel_rfl) (by simp) ?_
  refine AllReadyH.cons rfl (fun K21 hK21 => ?_) AllReadyH.nil
  refine wanted_go rfl ?_
  simp only [List.getElem_toArray, List.getElem_cons_zero, List.getElem_cons_succ]
  go_wp2_with (go_at_call 60; refine (HARate.out 62 _).mono ?_; rintro e w18 ⟨x3_1, rfl, hx, hb⟩; replace Hx3_0 := Lib.hid (keepb Hx3_0.out hb); replace G0 := Lib.hid (G0.out.below hb); replace G1 := Lib.hid (G1.out.below hb); replace G2 := Lib.hid (G2.out.below hb); have Hx3_1 := Lib.hid hx; have HBw18 := Lib.hid ((hS20).trans (hb.mono (hS20).size)); clear hx hb)
  refine hK21.out _ _ (HBw18.out) (fun hS21 => ?_)
  refine wpAnyH_ready (rs := [33]) (by kernel_rfl) (by simp) ?_
  refine AllReadyH.cons rfl (fun K22 hK22 => ?_) AllReadyH.nil
  refine wanted_go rfl ?_
  simp only [List.getElem_toArray, List.getElem_cons_zero, List.getElem_cons_succ]
  (go_wp2; have hb := (Below.refl w18.heap.size w18).alloc (Nat.le_refl _) (.cells #[.func (.func 128) #[] #[.pointer (some ⟨x3_0, 0, none⟩)], .func (.func 129) #[] #[.pointer (some ⟨x3_0, 0, none⟩)], .func (.func 128) #[] #[.pointer (some ⟨x3_1, 0, none⟩)], .func (.func 129) #[] #[.pointer (some ⟨x3_1, 0, none⟩)]] 125); replace Hx3_0 := Lib.hid (keepb Hx3_0.out hb); replace Hx3_1 := Lib.hid (keepb Hx3_1.out hb); replace G0 := Lib.hid (G0.out.below hb); replace G1 := Lib.hid (G1.out.below hb); replace G2 := Lib.hid (G2.out.below hb); have HN3 := Lib.hid (heap_alloc_new w18 (.cells #[.func (.func 128) #[] #[.pointer (some ⟨x3_0, 0, none⟩)], .func (.func 129) #[] #[.pointer (some ⟨x3_0, 0, none⟩)], .func (.func 128) #[] #[.pointer (some ⟨x3_1, 0, none⟩)], .func (.func 129) #[] #[.pointer (some ⟨x3_1, 0, none⟩)]] 125)); have HBn3 := Lib.hid ((hS21).trans (hb.mono (hS21).size)); clear hb)
  refine hK22.out _ _ (HBn3.out) (fun hS22 => ?_)
  refine wpAnyH_ready (rs := [34]) (by kernel_rfl) (by simp) ?_
  refine AllReadyH.cons rfl (fun K23 hK23 => ?_) AllReadyH.nil
  refine wanted_go rfl ?_
  simp only [List.getElem_toArray, List.getElem_cons_zero, List.getElem_cons_succ]
  go_wp2_with (go_at_call 59; refine (laidOkRate B gb w18.heap.size 2 x3_0 x3_1 _ HN3.out Hx3_0.out Hx3_1.out).mono ?_; rintro e w19 ⟨a3, c3, f3, rfl, hl, hr, hf, hb⟩; replace G0 := Lib.hid (G0.out.below hb); replace G1 := Lib.hid (G1.out.below hb); replace G2 := Lib.hid (G2.out.below hb); have G3 := Lib.hid (GrpOk.mk (n := 2) hl hr hf); have HBw19 := Lib.hid ((hS22).trans (hb.mono (hS22).size)); clear hl hr hf hb HN3  Hx3_0  Hx3_1)
  refine hK23.out _ _ (HBw19.out) (fun hS23 => ?_)
  refine wpAnyH_ready (rs := [35]) (by kernel_rfl) (by simp) ?_
  refine AllReadyH.cons rfl (fun K24 hK24 => ?_) AllReadyH.nil
  refine wanted_go rfl ?_
  simp only [List.getElem_toArray, List.getElem_cons_zero, List.getElem_cons_succ]
  (go_wp2; have hb := (Below.refl w19.heap.size w19).alloc (Nat.le_refl _) (.cells #[.slice a0 4 c0, .slice a1 3 c1, .slice a2 6 c2, .slice a3 2 c3] 51); replace G0 := Lib.hid (G0.out.below hb); replace G1 := Lib.hid (G1.out.below hb); replace G2 := Lib.hid (G2.out.below hb); replace G3 := Lib.hid (G3.out.below hb); have HNN := Lib.hid (heap_alloc_new w19 (.cells #[.slice a0 4 c0, .slice a1 3 c1, .slice a2 6 c2, .slice a3 2 c3] 51)); have HBnn := Lib.hid ((hS23).trans (hb.mono (hS23).size)); clear hb)
  refine hK24.out _ _ (HBnn.out) (fun hS24 => ?_)
  refine wpAnyH_ready (rs := [36]) (by kernel_rfl) (by simp) ?_
  refine AllReadyH.cons rfl (fun K25 hK25 => ?_) AllReadyH.nil
  refine wanted_go rfl ?_
  simp only [List.getElem_toArray, List.getElem_cons_zero, List.getElem_cons_succ]
  go_wp2_with (go_at_call 38; refine (fields_cat B gb _ _ _ a0 a1 a2 a3 c0 c1 c2 c3 f0 f1 f2 f3 HNN.out G0.out G1.out G2.out G3.out).mono ?_; rintro e wz ⟨vz, rfl, hset, hl, hf, hb⟩; have HSET := Lib.hid hset; have HLEN := Lib.hid hl; have HF := Lib.hid hf; have HBz := Lib.hid ((hS24).trans (hb.mono (hS24).size)); clear hset hl hf hb)
  refine hK25.out _ _ (HBz.out) (fun hS25 => ?_)
  refine wpAnyH_take (i := 37) (v := vz) rfl (by kernel_rfl) (by kernel_rfl) (by kernel_rfl) (fun _ _ _ h => h) (Or.inl ⟨by simp [Region.wanted], fun W _ => by go_simp⟩) hS25 ?_
  simp only [List.getElem_toArray, List.getElem_cons_zero, List.getElem_cons_succ, Act.put, List.setIfInBounds_toArray, List.set_cons_zero, List.set_cons_succ]
  refine wpAnyH_done (by kernel_rfl) ?_ _
  go_wp2
  go_ret
  exact ⟨vz, _, rfl, own_fromF HSET.out.row HBnn.out.size, HLEN.out, HF.out, HBz.out⟩
end Go.Proofs.YtnhljfhpfpfniaaGreat

namespace Go.Proofs.YtnhljfhpfpfniaaGreat
open Go.RowKit Base Base2

/-- The next column, what is left, the fault. -/
def nextS (s : ByteArray) (e : Int) (m : Nat) : List Int × ByteArray × Int :=
  if e ≠ 0 then ([], s, e) else ((getS s.data.toList m).1, orZ (getS s.data.toList m).2.2 (s.extract (getS s.data.toList m).2.1 s.size) s, (getS s.data.toList m).2.2)
theorem getS_err {s : List UInt8} {m : Nat} (h : (getS s m).2.2 ≠ 0) : (getS s m).1 = [] := by
  unfold getS at h ⊢
  split
  · rfl
  · rename_i h1
    rw [if_neg h1] at h
    split
    · rfl
    · rename_i h2
      rw [if_neg h2] at h
      exact absurd rfl h
/-- What next answers, of its letters. -/
def NextA (w : World) (p : Nat) (R : List Int × ByteArray × Int) (e : Ending) (w' : World) : Prop :=
  (∃ a c, e = .returned (.slice a R.1.length c) ∧ I64s w' a R.1 ∧ FreshA w a) ∧ RdX w' p R.2.1 R.2.2 ∧ w.grownBy w' (some p)
set_option maxRecDepth 100000 in
set_option maxHeartbeats 4000000 in
theorem next24 (S s : ByteArray) (p : Nat) (e : Int) (m : Nat) (w : World) (hX : RdX w p s e) (hS : S.size ≤ 1000000) (hs : s.size ≤ S.size) (hsx : S.extract (S.size - s.size) S.size = s) (hm : m ≤ 65536) :
    Calls Tryz.prog 24 #[.string S, .pointer (some ⟨p, 0, none⟩), .int .i64 (m : Int)] w fun x w' => NextA w p (nextS s e m) x w' := by
  have hp := hX.lt
  by_cases he : e = 0
  · subst he
    obtain ⟨R, hR⟩ : ∃ R, nextS s 0 m = R := ⟨_, rfl⟩
    have HF := Lib.hid (fault22 p s 0 w hX)
    have HL := Lib.hid (left23 p s 0 w hX)
    obtain ⟨l, k, er, hg⟩ : ∃ l k er, getS s.data.toList m = (l, k, er) := ⟨_, _, _, rfl⟩
    have HG := Lib.hid (get11 (S.extract (S.size - s.size) S.size) m w (by simp [ByteArray.size_extract]; omega) hm)
    have hR2 : R = (l, orZ er (s.extract k s.size) s, er) := by rw [← hR]; unfold nextS; rw [if_neg (by simp), hg]
    have HFL := Lib.hid (fun W (h : RdX W p s 0) => (fail30 p s 0 er W h))
    rw [orZ_ok] at HFL
    have HTK := Lib.hid (show ∀ W, RdX W p s er → Calls Tryz.prog 72 #[.pointer (some ⟨p, 0, none⟩), .int .i64 (k : Int)] W fun x w' => (∃ v, x = .returned v) ∧ RdX w' p (orZ er (s.extract k s.size) s) er ∧ W.grownBy w' (some p) from fun W h => by
      refine (take24 p s er (k : Int) W (by omega) h).mono ?_
      rintro x w' ⟨rfl, h2, h3⟩
      refine ⟨⟨_, rfl⟩, ?_, h3⟩
      by_cases h0 : er = 0
      · subst h0
        have hk := (put_get hg).2.1
        have hks : k ≤ s.size := by rw [Lib.size_eq]; exact hk
        have ht : takeR s (k : Int) = (s.extract 0 k, 0) := by
          unfold takeR
          rw [if_neg (by omega), if_neg (by omega), Int.toNat_natCast]
        rw [ht] at h2
        have hz : (s.extract 0 k).size = k := by simp [ByteArray.size_extract]; omega
        unfold AfterX at h2
        rw [if_pos rfl, if_pos rfl, hz, Int.toNat_natCast] at h2
        rw [orZ_ok]
        exact h2
      · unfold AfterX at h2
        rw [if_neg h0] at h2
        rw [orZ_no _ _ _ h0]
        exact h2)
    rw [hR]
    rw [hsx, hg] at HG
    obtain ⟨P, hP⟩ : ∃ P, S.size - s.size = P := ⟨_, rfl⟩
    rw [hP] at hsx
    obtain ⟨z, hz⟩ : ∃ z, s.size = z := ⟨_, rfl⟩
    rw [hz] at hP hs HL
    have hPz : (S.size : Int) - (z : Int) = (P : Int) := by omega
    have hPS : P ≤ S.size := by omega
    have HX := Lib.hid hX
    have HR2 := Lib.hid hR2
    rw [← hsx] at HG
    clear hX hR hR2 hg hsx hz hP
    go_enter Tryz.func24, Tryz.ntmps24
    go_wp2_with (first
      | (go_at_call 72; refine (HTK.out _ HX3.out).mono ?_; rintro x w4 ⟨⟨vt, rfl⟩, hx4, hg4⟩; have HX4 := Lib.hid hx4; have HG4 := Lib.hid hg4; clear hx4 hg4)
      | (go_at_call 26; refine (HFL.out _ HX2.out).mono ?_; rintro x w3 ⟨rfl, hx3, hg3⟩; have HX3 := Lib.hid hx3; have HG3 := Lib.hid hg3; clear hx3 hg3)
      | (go_at_call 71; refine HG.out.mono ?_; rintro x w2 ⟨⟨a, c, rfl, hI, hfr⟩, hb2⟩; have HX2 := Lib.hid (HX.out.below hb2 hp); have HI := Lib.hid hI; have HFR := Lib.hid hfr; have HB2 := Lib.hid hb2; clear hI hfr hb2)
      | (go_at_call 25; refine HL.out.mono ?_; rintro x w' ⟨rfl, rfl⟩)
      | (go_at_call 27; refine HF.out.mono ?_; rintro x w' ⟨rfl, rfl⟩))
    go_ret
    rw [HR2.out]
    have hg := grown_transN HG3.out HG4.out
    exact ⟨⟨a, c, rfl, HI.out.kept hg.size (fun q off e hq => hg.block q hq (fun e2 => by have := HFR.out q off e; have := Option.some.inj e2; omega)), HFR.out⟩, HX4.out, grown_transN (below_grown HB2.out _) hg⟩
  · have HF := Lib.hid (fault22 p s e w hX)
    have hne : (e != 0) = true := by simpa using he
    have hR : nextS s e m = ([], s, e) := by unfold nextS; rw [if_pos he]
    rw [hR]
    have HX := Lib.hid hX
    clear hX he hR hsx hs
    go_enter Tryz.func24, Tryz.ntmps24
    go_wp2_with (go_at_call 27; refine HF.out.mono ?_; rintro x w' ⟨rfl, rfl⟩)
    go_ret
    exact ⟨⟨none, 0, rfl, .inl rfl, FreshA.none _⟩, HX.out, grownF_refl _ _⟩
end Go.Proofs.YtnhljfhpfpfniaaGreat

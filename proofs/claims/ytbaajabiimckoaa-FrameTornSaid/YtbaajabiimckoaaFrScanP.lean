/- Contracts of the program's Scan and Sizes: what their closures gather of the frames that stand. -/
import Derived.Maps.AppendAt
import Derived.Test.YtbaajabiimckoaaFrGather
import Derived.Test.YtbaajabiimckoaaFrTornW
namespace Go.Proofs.Ytbaajabiimckoaa
open Go.RowKit Go.Shelf Base

theorem boxed_ne {W : World} {A C : Nat} {t e : TypeId} {u v : Value} (h : Boxed W A t u) (k : Boxed W C e v) (hte : t ≠ e) : A ≠ C := by
  rintro rfl
  have := (show W.heap[A]? = _ from h).symm.trans k
  simp at this
  exact hte this.2

set_option maxRecDepth 100000 in
set_option maxHeartbeats 2000000 in
theorem scan28 (n₀ A C : Nat) (v : Value) (tot : Int) (pre : List (ByteArray × Nat)) (x : ByteArray × Nat) (W : World) (hlen : pre.length < 1000000) (hv : Boxed W A 30 v) (hC : Boxed W C 3 (.int .i64 tot))
    (hA : n₀ ≤ A) (hC0 : n₀ ≤ C) (hle : n₀ ≤ W.heap.size) (hrow : W.ownsRow n₀ 9 1 v pre.length (pre.map fun p => Value.string p.1)) :
    Calls Try.prog 28 (encP x ++ #[.pointer (some ⟨A, 0, none⟩), .pointer (some ⟨C, 0, none⟩)]) W fun e W' => e = .returned (.tuple #[]) ∧ KeepsOthers W W' ∧
      (∃ v', Boxed W' A 30 v' ∧ W'.ownsRow n₀ 9 1 v' (pre.length + 1) (pre.map (fun p => Value.string p.1) ++ [.string x.1])) ∧ Boxed W' C 3 (.int .i64 (wrap64 (tot + (x.2 : Int)))) ∧ Below n₀ W W' ∧ (∀ g u, Boxed W g 57 u → Boxed W' g 57 u) := by
  obtain ⟨i0, hi, hz0, hz1, hz2⟩ := info_parts infoS
  have hc := hv.cell
  have b1 : pre.length + 1 ≤ maxLen := by unfold maxLen; omega
  have b2 : (pre.length + 1) * 16 ≤ 140737488355328 := by omega
  have HV := Lib.hid hv
  have HC := Lib.hid hC
  have HR := Lib.hid hrow
  have HLE := Lib.hid hle
  clear hv hC hrow
  dsimp only [encP]
  obtain ⟨row, k⟩ := x
  simp only [List.append_toArray, List.cons_append, List.nil_append]
  go_enter Try.func28, Try.ntmps28
  go_wp2_with (at_builtin; refine wpList_append_own _ rfl _ _ 30 rfl n₀ 9 i0 (.string ⟨#[]⟩) 1 16 Try.underlying30 hi hz0 hz1 hz2 rfl (by decide) _ _ _ rfl (HR.out.alloc _) ⟨W.heap.size, 0, none⟩ 1 1 [.string row] rfl rfl (new_one _ _ _) (one_str _) b1 b2 (by simp; omega) ?_; intro v' w2 hown' hgrow _; obtain ⟨g', cap', rfl⟩ := ownsRow_succ hown'; have HAP := Lib.hid (HV.out.appended (by decide) HR.out hle hA hown' hgrow); have hc1 := HAP.out.1.cell; have hf1 := HAP.out.1.frozen; have HG := Lib.hid hgrow; have HO := Lib.hid hown'; have hC2 := (HC.out.alloc (.cells #[.string row] 9)).kept hgrow (HC.out.not_row (by decide) HR.out); have hC3 := hC2.other (boxed_ne HC.out HV.out (by decide)) (.slice (some ⟨g', 0, none⟩) (pre.length + 1) cap'); have hcc := hC3.cell; have hfc := hC3.frozen; have HC3 := Lib.hid hC3; clear hown' hgrow hC2 hC3)
  go_end0
  refine ⟨rfl, HAP.out.2.2.2.1.trans (KeepsOthers.setCell _ _ _), ⟨_, HAP.out.2.1.other (boxed_ne HV.out HC.out (by decide)) _, HAP.out.2.2.1.kept (grownBy_setCell' _ C _) (.inr (HC3.out.not_row (by decide) HAP.out.2.2.1).symm)⟩, HC3.out.set _, HAP.out.2.2.2.2.setCell (p := ⟨C, 0, none⟩) hC0 _, ?_⟩
  intro g u h
  exact (((h.alloc _).kept HG.out (h.not_row (by decide) HR.out)).other (boxed_ne h HV.out (by decide)) _).other (boxed_ne h HC.out (by decide)) _

set_option maxRecDepth 100000 in
set_option maxHeartbeats 2000000 in
theorem sizes29 (n₀ A : Nat) (v : Value) (pre : List (ByteArray × Nat)) (x : ByteArray × Nat) (W : World) (hlen : pre.length < 1000000) (hv : Boxed W A 33 v)
    (hA : n₀ ≤ A) (hle : n₀ ≤ W.heap.size) (hrow : W.ownsRow n₀ 3 1 v pre.length (pre.map fun p => Value.int .i64 (p.2 : Int))) :
    Calls Try.prog 29 (encP x ++ #[.pointer (some ⟨A, 0, none⟩)]) W fun e W' => e = .returned (.tuple #[]) ∧ KeepsOthers W W' ∧
      (∃ v', Boxed W' A 33 v' ∧ W'.ownsRow n₀ 3 1 v' (pre.length + 1) (pre.map (fun p => Value.int .i64 (p.2 : Int)) ++ [.int .i64 (x.2 : Int)])) ∧ Below n₀ W W' ∧ (∀ g u, Boxed W g 57 u → Boxed W' g 57 u) := by
  obtain ⟨i0, hi, hz0, hz1, hz2⟩ := info_parts infoI
  have hc := hv.cell
  have b1 : pre.length + 1 ≤ maxLen := by unfold maxLen; omega
  have b2 : (pre.length + 1) * 8 ≤ 140737488355328 := by omega
  have HV := Lib.hid hv
  have HR := Lib.hid hrow
  clear hv hrow
  dsimp only [encP]
  obtain ⟨row, k⟩ := x
  simp only [List.append_toArray, List.cons_append, List.nil_append]
  go_enter Try.func29, Try.ntmps29
  go_wp2_with (at_builtin; refine wpList_append_own _ rfl _ _ 33 rfl n₀ 3 i0 (.int .i64 0) 1 8 Try.underlying33 hi hz0 hz1 hz2 rfl (by decide) _ _ _ rfl (HR.out.alloc _) ⟨W.heap.size, 0, none⟩ 1 1 [.int .i64 (k : Int)] rfl rfl (new_one _ _ _) (one_int _) b1 b2 (by simp; omega) ?_; intro v' w2 hown' hgrow _; obtain ⟨g', cap', rfl⟩ := ownsRow_succ hown'; have HAP := Lib.hid (HV.out.appended (by decide) HR.out hle hA hown' hgrow); have hc1 := HAP.out.1.cell; have hf1 := HAP.out.1.frozen; have HG := Lib.hid hgrow; clear hown' hgrow)
  go_end0
  refine ⟨rfl, HAP.out.2.2.2.1, ⟨_, HAP.out.2.1, HAP.out.2.2.1⟩, HAP.out.2.2.2.2, ?_⟩
  intro g u h
  exact ((h.alloc _).kept HG.out (h.not_row (by decide) HR.out)).other (boxed_ne h HV.out (by decide)) _

/-- The sizes in all, as the machine adds them. -/
def totW (L : List (ByteArray × Nat)) : Int := L.foldl (fun a x => wrap64 (a + (x.2 : Int))) 0
theorem totW_snoc (L : List (ByteArray × Nat)) (x : ByteArray × Nat) : totW (L ++ [x]) = wrap64 (totW L + (x.2 : Int)) := by simp [totW]
theorem totW_from (L : List (ByteArray × Nat)) : ∀ a : Nat, a + totS L ≤ 1000000 → L.foldl (fun a x => wrap64 (a + (x.2 : Int))) (a : Int) = ((a + totS L : Nat) : Int) := by
  induction L with
  | nil => intro a _; simp [totS]
  | cons x L ih =>
    intro a h
    have e : totS (x :: L) = x.2 + totS L := by simp [totS]
    rw [e] at h ⊢
    rw [List.foldl_cons, IntWalk.wrap64_in _ (by omega), show (a : Int) + (x.2 : Int) = ((a + x.2 : Nat) : Int) by omega, ih (a + x.2) (by omega)]
    congr 1; omega
theorem totW_eq (L : List (ByteArray × Nat)) (h : totS L ≤ 1000000) : totW L = (totS L : Int) := by
  have := totW_from L 0 (by omega)
  simpa [totW] using this
theorem scanF_tot (f : Nat) : ∀ s : ByteArray, totS (scanF f s) ≤ s.size ∧ (scanF f s).length ≤ s.size := by
  induction f with
  | zero => intro s; exact ⟨Nat.zero_le _, Nat.zero_le _⟩
  | succ f ih =>
    intro s
    unfold scanF
    by_cases h : (nextS s).2.2 = 0
    · rw [if_pos h]
      obtain ⟨h1, h2⟩ := nextS_ok s h
      have hz : (s.extract (nextS s).2.1 s.size).size = s.size - (nextS s).2.1 := by simp [ByteArray.size_extract]
      have h3 := ih (s.extract (nextS s).2.1 s.size)
      rw [hz] at h3
      have e : totS (((nextS s).1, (nextS s).2.1) :: scanF f (s.extract (nextS s).2.1 s.size)) = (nextS s).2.1 + totS (scanF f (s.extract (nextS s).2.1 s.size)) := by simp [totS]
      rw [e, List.length_cons]
      omega
    · rw [if_neg h]; exact ⟨Nat.zero_le _, Nat.zero_le _⟩
theorem scanS_tot (s : ByteArray) : totS (scanS s) ≤ s.size ∧ (scanS s).length ≤ s.size := scanF_tot s.size s

theorem enters28 (args : Array Value) (w : World) : (callFunc 28 args).run Try.prog w = .ok (.enter 28 args) w := by kernel_rfl
theorem enters29 (args : Array Value) (w : World) : (callFunc 29 args).run Try.prog w = .ok (.enter 29 args) w := by kernel_rfl

/-- What Scan's closure holds. -/
def ScanI (w : World) (pre : List (ByteArray × Nat)) (W : World) : Prop :=
  (∃ v, Boxed W w.heap.size 30 v ∧ W.ownsRow w.heap.size 9 1 v pre.length (pre.map fun p => Value.string p.1) ∧ True) ∧ Boxed W (w.heap.size + 1) 3 (.int .i64 (totW pre)) ∧ Below w.heap.size w W
theorem scanI_own (w : World) (B : Nat) (h : w.heap.size ≤ B) : OwnFrom B (ScanI w) :=
  OwnFrom.and (Own.from (holdsRow_own w.heap.size w.heap.size 30 9 1 (fun pre : List (ByteArray × Nat) => pre.length) (fun pre => pre.map fun p => Value.string p.1) (fun _ _ => True)) _)
    (OwnFrom.and (Own.from (boxed_own _ _ (fun pre : List (ByteArray × Nat) => .int .i64 (totW pre))) _) (ownFrom_below (Nat.le_refl _) h))
theorem scanI_step (w : World) (pre : List (ByteArray × Nat)) (x : ByteArray × Nat) (W : World) (h : ScanI w pre W) (hlen : pre.length < 1000000) :
    Calls Try.prog 28 (encP x ++ #[.pointer (some ⟨w.heap.size, 0, none⟩), .pointer (some ⟨w.heap.size + 1, 0, none⟩)]) W fun e W' => e = .returned (.tuple #[]) ∧ KeepsFrom (w.heap.size + 1 + 1) W W' ∧ ScanI w (pre ++ [x]) W' ∧ (∀ g v, Boxed W g 57 v → Boxed W' g 57 v) := by
  obtain ⟨⟨v, hv, hr, _⟩, hC, hb⟩ := h
  refine (scan28 w.heap.size w.heap.size (w.heap.size + 1) v (totW pre) pre x W hlen hv hC (Nat.le_refl _) (by omega) hb.size hr).mono ?_
  rintro e W' ⟨rfl, hk, ⟨v', hv', hr'⟩, hC', hb', h57⟩
  refine ⟨rfl, hk.from _, ⟨⟨v', hv', ?_, trivial⟩, ?_, hb.trans hb'⟩, h57⟩
  · simpa using hr'
  · rw [totW_snoc]; exact hC'

theorem scanI_start (w : World) : ScanI w [] ((w.alloc (.cells #[.slice none 0 0] 30)).alloc (.cells #[.int .i64 0] 3)) := by
  have hn := Boxed.new (w.alloc (.cells #[.slice none 0 0] 30)) 3 (.int .i64 0)
  rw [World.size_alloc] at hn
  exact ⟨⟨_, (Boxed.new w 30 _).alloc _, World.ownsRow_nil _ _ _ _, trivial⟩, hn, ((Below.refl _ w).alloc (Nat.le_refl _) _).alloc (by simp) _⟩

set_option maxRecDepth 100000 in
set_option maxHeartbeats 2000000 in
theorem scan11 (S : ByteArray) (w : World) (hs : S.size ≤ 100000) : Calls Try.prog 11 #[.string S] w fun e w' => (∃ v, e = .returned (.tuple #[v, .int .i64 (totS (scanS S) : Int)]) ∧ w'.ownsRow w.heap.size 9 1 v (scanS S).length ((scanS S).map fun p => Value.string p.1)) ∧ Below w.heap.size w w' := by
  have ht := scanS_tot S
  have HT := Lib.hid (totW_eq (scanS S) (by omega))
  have hG := fun (W : World) (hW : W.heap.size = w.heap.size + 1 + 1) (h0 : ScanI w [] W) => gather27 28 #[.pointer (some ⟨w.heap.size, 0, none⟩), .pointer (some ⟨w.heap.size + 1, 0, none⟩)] S W (ScanI w) (by omega) enters28 (scanI_own w _ (by omega)) h0
    (fun pre x W' h hl => by rw [hW]; exact scanI_step w pre x W' h (by omega))
  have HG := Lib.hid hG
  clear hG
  go_enter Try.func11, Try.ntmps11
  have HS := Lib.hid (scanI_start w)
  go_wp2_with (go_at_call 27; refine (HG.out _ (by simp) HS.out).mono ?_; rintro e w1 ⟨rfl, ⟨v, hv, hr, _⟩, hC, hb⟩; have cv := hv.cell; have cc := hC.cell; rw [HT.out] at cc; have HR := Lib.hid hr; have HB := Lib.hid hb; clear hr hb hv hC)
  go_quiet (fail)
  go_wp2
  go_ret2
  exact ⟨⟨v, rfl, own_below' HR.out (below_drews _)⟩, below_drewN' HB.out _⟩

/-- What Sizes' closure holds. -/
def SizesI (w : World) (pre : List (ByteArray × Nat)) (W : World) : Prop :=
  (∃ v, Boxed W w.heap.size 33 v ∧ W.ownsRow w.heap.size 3 1 v pre.length (pre.map fun p => Value.int .i64 (p.2 : Int)) ∧ True) ∧ Below w.heap.size w W
theorem sizesI_own (w : World) (B : Nat) (h : w.heap.size ≤ B) : OwnFrom B (SizesI w) :=
  OwnFrom.and (Own.from (holdsRow_own w.heap.size w.heap.size 33 3 1 (fun pre : List (ByteArray × Nat) => pre.length) (fun pre => pre.map fun p => Value.int .i64 (p.2 : Int)) (fun _ _ => True)) _) (ownFrom_below (Nat.le_refl _) h)
theorem sizesI_step (w : World) (pre : List (ByteArray × Nat)) (x : ByteArray × Nat) (W : World) (h : SizesI w pre W) (hlen : pre.length < 1000000) :
    Calls Try.prog 29 (encP x ++ #[.pointer (some ⟨w.heap.size, 0, none⟩)]) W fun e W' => e = .returned (.tuple #[]) ∧ KeepsFrom (w.heap.size + 1) W W' ∧ SizesI w (pre ++ [x]) W' ∧ (∀ g v, Boxed W g 57 v → Boxed W' g 57 v) := by
  obtain ⟨⟨v, hv, hr, _⟩, hb⟩ := h
  refine (sizes29 w.heap.size w.heap.size v pre x W hlen hv (Nat.le_refl _) hb.size hr).mono ?_
  rintro e W' ⟨rfl, hk, ⟨v', hv', hr'⟩, hb', h57⟩
  refine ⟨rfl, hk.from _, ⟨⟨v', hv', ?_, trivial⟩, hb.trans hb'⟩, h57⟩
  simpa using hr'
theorem sizesI_start (w : World) : SizesI w [] (w.alloc (.cells #[.slice none 0 0] 33)) :=
  ⟨⟨_, Boxed.new w 33 _, World.ownsRow_nil _ _ _ _, trivial⟩, (Below.refl _ w).alloc (Nat.le_refl _) _⟩

set_option maxRecDepth 100000 in
set_option maxHeartbeats 2000000 in
theorem sizes13 (S : ByteArray) (w : World) (hs : S.size ≤ 100000) : Calls Try.prog 13 #[.string S] w fun e w' => (∃ v, e = .returned v ∧ w'.ownsRow w.heap.size 3 1 v (scanS S).length ((scanS S).map fun p => Value.int .i64 (p.2 : Int))) ∧ Below w.heap.size w w' := by
  have ht := scanS_tot S
  have hG := fun (W : World) (hW : W.heap.size = w.heap.size + 1) (h0 : SizesI w [] W) => gather27 29 #[.pointer (some ⟨w.heap.size, 0, none⟩)] S W (SizesI w) (by omega) enters29 (sizesI_own w _ (by omega)) h0
    (fun pre x W' h hl => by rw [hW]; exact sizesI_step w pre x W' h (by omega))
  have HG := Lib.hid hG
  clear hG
  have HS := Lib.hid (sizesI_start w)
  go_enter Try.func13, Try.ntmps13
  go_wp2_with (go_at_call 27; refine (HG.out _ (by simp) HS.out).mono ?_; rintro e w1 ⟨rfl, ⟨v, hv, hr, _⟩, hb⟩; have cv := hv.cell; have HR := Lib.hid hr; have HB := Lib.hid hb; clear hr hb hv)
  go_ret
  exact ⟨⟨v, rfl, HR.out⟩, HB.out⟩
end Go.Proofs.Ytbaajabiimckoaa

/- The program's Put: how many numbers, then each run that its iterator tells, written into a Builder. -/
import Derived.Test.YtnhljfhpfpfniaaGreatClP2
import Derived.Test.YtnhljfhpfpfniaaGreatClP3
namespace Go.Proofs.YtnhljfhpfpfniaaGreat
open Go.RowKit Go.Shelf Base Base2
attribute [local go_sem] Oper.semAt_some

theorem isB_newC (w : World) : Lib.IsBuilder 44 5 w.heap.size w.heap.size (Lib.byteCells []) (w.alloc (.cells #[.pointer none, .slice none 0 0] 44)) :=
  .inl ⟨Nat.le_refl _, .slice none 0 0, heap_alloc_new w _, ⟨rfl, .inl ⟨rfl, rfl⟩⟩, by simp [Value.ownBlock]⟩
theorem isB_belowC {B b : Nat} {bs : List Value} {W W' : World} (h : Lib.IsBuilder 44 5 B b bs W) (hb : Below W.heap.size W W') : Lib.IsBuilder 44 5 B b bs W' := by
  rcases h with ⟨h1, v, h2, h3, h4⟩ | ⟨h1, v, h2, h3, h4⟩
  · exact .inl ⟨h1, v, (hb.block b (lt_of_blk h2)).trans h2, own_below' h3 hb, h4⟩
  · exact .inr ⟨h1, v, (hb.block b (lt_of_blk h2)).trans h2, own_below' h3 hb, h4⟩
theorem own_kept {X Y : World} {row : Option Nat} {B n : Nat} {v : Value} {xs : List Value} {e : TypeId} (h : X.ownsRow B e 1 v n xs) (hg : X.grownBy Y row) (hr : ∀ r, row = some r → ∃ o : Obj, X.heap[r]? = some o ∧ o.isCells = false) : Y.ownsRow B e 1 v n xs := by
  refine h.kept hg ?_
  rcases h.2 with ⟨rfl, _⟩ | ⟨g, cap, cur, rfl, _, hgb, _⟩
  · exact .inl rfl
  · refine .inr fun e' => ?_
    obtain ⟨o, ho, hc⟩ := hr g (by simpa [Value.ownBlock] using e'.symm)
    rw [hgb] at ho; cases ho; cases hc
theorem isB_own {β : Type} (B b : Nat) (f : β → List Value) : Own (fun s W => Lib.IsBuilder 44 5 B b (f s) W) := by
  rintro s X Y row (⟨h1, v, h2, h3, h4⟩ | ⟨h1, v, h2, h3, h4⟩) hg hr
  · exact .inl ⟨h1, v, (grownBy_keeps_cells hg hr h2 rfl).trans h2, own_kept h3 hg hr, h4⟩
  · exact .inr ⟨h1, v, (grownBy_keeps_cells hg hr h2 rfl).trans h2, own_kept h3 hg hr, h4⟩
/-- The bytes in the Builder behind runs. -/
def putA (N1 : Nat) (pre : List RunT) : List UInt8 := M.enc N1 ++ encR pre
theorem putA_len (N1 : Nat) (pre : List RunT) : (putA N1 pre).length ≤ 10 + 20 * pre.length := by
  have := encR_len pre
  have := (M.enc_len N1).2
  simp [putA]; omega
theorem cells_snoc (L : List UInt8) (s : ByteArray) : Lib.byteCells L ++ Lib.strCells s = Lib.byteCells (L ++ s.data.toList) := by rw [Lib.byteCells_append]; rfl
theorem writeB (B b : Nat) (L : List UInt8) (s : ByteArray) (w : World) (h : Lib.IsBuilder 44 5 B b (Lib.byteCells L) w) (hlen : L.length + s.size ≤ 140737488355328) (hBw : B ≤ w.heap.size) :
    Calls Tryz.prog 15 #[.pointer (some ⟨b, 0, none⟩), .string s] w fun e w' => e = .returned (.tuple #[.int .i64 s.size, .nilIface]) ∧ Lib.IsBuilder 44 5 B b (Lib.byteCells (L ++ s.data.toList)) w' ∧ Below B w w' ∧ KeepB w w' := by
  refine (writeK B b _ s w h (by rw [Lib.byteCells_length]; exact hlen) hBw).mono ?_
  rintro e w1 ⟨rfl, ⟨h1, h2⟩, h3⟩
  exact ⟨rfl, by rw [← cells_snoc]; exact .inr h1, h2, h3⟩
theorem putV_many (l : List Int) (h : ¬ l.length ≤ 65536) : putV l = (⟨#[]⟩, 4) := by unfold putV; rw [if_neg h]
theorem putV_all (l : List Int) (h : l.length ≤ 65536) : putV l = (⟨(putA l.length (runsS l)).toArray⟩, 0) := by unfold putV; rw [if_pos h]; rfl

theorem below_between {n : Nat} {A B C : World} (h : Below n A B) (k : Below n A C) (hs : B.heap.size ≤ C.heap.size) : Below n B C := ⟨k.os.trans h.os.symm, k.tape.trans h.tape.symm, k.output.trans h.output.symm, hs, fun i hi => (k.block i hi).trans (h.block i hi).symm⟩

set_option maxRecDepth 100000 in
set_option maxHeartbeats 4000000 in
theorem put7_many (a : Option Addr) (c n : Nat) (w : World) (hl : n ≤ maxLen) (hn : 65536 < n) :
    Calls Tryz.prog 18 #[.slice a n c] w fun e w' => e = .returned (.tuple #[.string ⟨#[]⟩, .int .i64 4]) ∧ Below w.heap.size w w' := by
  unfold maxLen at hl
  have h : (65536 : Int) < (n : Int) := by omega
  go_enter Tryz.func18, Tryz.ntmps18
  go_wp2
  go_ret2
  exact ⟨rfl, Below.refl _ _⟩

set_option maxRecDepth 100000 in
set_option maxHeartbeats 4000000 in
theorem put7 (a : Option Addr) (c : Nat) (l : List Int) (w : World) (hr : I64s w a l) (hl : l.length ≤ 65536) (hin : ∀ x ∈ l, in64 x) :
    Calls Tryz.prog 18 #[.slice a l.length c] w fun e w' => e = .returned (.tuple #[.string ⟨(putA l.length (runsS l)).toArray⟩, .int .i64 0]) ∧ Below w.heap.size w w' := by
  refine (callsIn_wide (n := 10)).1 ?_
  have HS := Lib.hid (fun Bn w0 hV hB => runs_seq 9 (by omega) Bn a c l w hr hin (by omega) w0 hV hB)
  obtain ⟨R, hR⟩ : ∃ R, runsS l = R := ⟨_, rfl⟩
  have HRL := Lib.hid (show R.length ≤ 65536 by rw [← hR]; have := runsS_len l; omega)
  rw [hR] at HS ⊢
  obtain ⟨N1, hM⟩ : ∃ N1, l.length = N1 := ⟨_, rfl⟩
  rw [hM] at HS hl
  rw [hM]
  clear hr hin hR
  have HN := Lib.hid (fun W => num8 (N1 : Int) W (by omega) (by omega))
  rw [Int.toNat_natCast] at HN
  have hnle : ¬ (65536 : Int) < (N1 : Int) := by omega
  have hs0 : (M.encB N1).size ≤ 10 := by have := (M.enc_len N1).2; rw [Lib.size_eq]; exact this
  have HL0 := Lib.hid (show Lib.byteCells ([] ++ (M.encB N1).data.toList) = Lib.byteCells (putA N1 []) by simp [putA, encR, M.encB])
  generalize hE : M.encB N1 = E at *
  clear hE
  have hIB := isB_newC w
  have hB0 : Below w.heap.size w (w.alloc (.cells #[.pointer none, .slice none 0 0] 44)) := (Below.refl _ w).alloc (Nat.le_refl _) _
  have HIB := Lib.hid hIB
  have HB0 := Lib.hid hB0
  clear hIB hB0
  refine callsIn_of_wp_marks Tryz.func18 rfl trivial ?_ rfl
  simp only [Tryz.ntmps18, List.size_toArray, List.length_cons, List.length_nil, Nat.reduceAdd, Nat.reduceSub, Array.replicate_succ, Array.replicate_zero, List.push_toArray, List.append_toArray, List.nil_append, List.cons_append]
  gi_wp2_with (first
    | (refine ⟨trivial, ?_⟩; gi_at_call 16; refine (callsIn_wide.2 (HN.out _)).mono ?_; rintro e w1 ⟨rfl, hb1⟩; have HIB1 := Lib.hid (isB_belowC HIB.out hb1); have HB1 := Lib.hid (HB0.out.trans (hb1.mono HB0.out.size)); clear hb1 HN)
    | (refine ⟨trivial, ?_⟩; gi_at_call 15; refine (callsIn_wide.2 (writeB _ _ _ _ _ HIB1.out (by simp; omega) HB1.out.size)).mono ?_; rintro e w2 ⟨rfl, hib2, hlo2, _⟩; rw [HL0.out] at hib2; have HIB2 := Lib.hid hib2; have HB2 := Lib.hid (HB1.out.trans hlo2); clear hib2 hlo2 HIB1 HB1)
    | (refine ⟨trivial, ?_⟩; gi_at_call 63; refine (runs16 a N1 c _).mono ?_; rintro e w' ⟨rfl, rfl⟩))
  have bS := Boxed.new w2 59 (.slice a N1 c)
  have hB3 : Below w.heap.size w (w2.alloc (.cells #[.slice a N1 c] 59)) := HB2.out.alloc HB2.out.size _
  have hI3 := isB_belowC HIB2.out ((Below.refl _ w2).alloc (Nat.le_refl _) (.cells #[.slice a N1 c] 59))
  have hge := HB2.out.size
  refine range_turns rfl (by omega) (gf := 130) (lb := #[.pointer (some ⟨w2.heap.size, 0, none⟩)]) rfl trivial (enters_of Tryz.func130 (by kernel_rfl) rfl)
    (HS.out w2.heap.size _ hB3 bS) (fun _ h => h.elim) kpR_t (kpR_b (by simp; omega) (by simp)) (Below.refl _ _) (fun _ => rfl) (fun _ _ _ _ h _ _ => h) (fun _ _ _ _ h _ _ => h)
    (fun pre W => (Lib.IsBuilder 44 5 w.heap.size w.heap.size (Lib.byteCells (putA N1 pre)) W ∧ Boxed W w2.heap.size 59 (.slice a N1 c)) ∧ Below w.heap.size w W)
    (fun _ _ _ => False)
    (OwnFrom.and (OwnFrom.and (Own.from (isB_own _ _ _) _) (Own.from (boxed_own _ _ (fun _ => .slice a N1 c)) _)) (ownFrom_below (Nat.le_refl _) (by simp; omega)))
    (fun _ _ _ _ _ h _ _ => h)
    (fun s A B ⟨⟨h1, h4⟩, h5⟩ ht => ⟨⟨isB_belowC h1 (turns_below ht), ht.at h4 id⟩, h5.trans ((turns_below ht).mono h5.size)⟩)
    (fun _ _ _ _ h _ => h)
    ⟨⟨hI3, bS⟩, hB3⟩
    (fun x => { tmps := #[.slice a N1 c, undef, .string ⟨#[]⟩, .int .i64 0, .pointer (some ⟨w.heap.size, 0, none⟩), .int .i64 x.1, .int .u64 (x.2 : Int), .slice a N1 c, .int .i64 (N1 : Int), .bool false, .slice a N1 c, .int .i64 (N1 : Int), .int .u64 (N1 : Int), .string E, .tuple #[.int .i64 (E.size : Int), .nilIface], .slice a N1 c, .func (.func 130) #[] #[.pointer (some ⟨w2.heap.size, 0, none⟩)], .int .i64 x.1, .int .u64 (x.2 : Int), undef, undef, undef, undef, undef, undef, undef], defers := [] }) ?assign ?body ?done ?stop
  case assign =>
    intro l x W K hK
    dsimp only [encT]
    gi_wp2
    exact hK
  case body =>
    clear bS hI3 hB3 HIB2 HIB HB0 HS HL0
    rintro lo pre ⟨d, k⟩ W ⟨⟨hib, hS⟩, hB⟩ htl
    obtain ⟨g1, g2, g3⟩ := runs_lens htl
    dsimp only at g2 g3 ⊢
    have hlo := hB.size
    have hpl := putA_len N1 pre
    have z1 := M.zig_bd d g3.1 g3.2
    have HNI := Lib.hid (fun W => int10 d W g3.1 g3.2)
    have HNN := Lib.hid (fun W => num8 (k : Int) W (by omega) (by omega))
    rw [Int.toNat_natCast] at HNN
    have s1 : (M.encB (M.zig d).toNat).size ≤ 10 := by have := (M.enc_len (M.zig d).toNat).2; rw [Lib.size_eq]; exact this
    have s2 : (M.encB k).size ≤ 10 := by have := (M.enc_len k).2; rw [Lib.size_eq]; exact this
    have HL4 := Lib.hid (show Lib.byteCells (putA N1 pre ++ (M.encB (M.zig d).toNat).data.toList ++ (M.encB k).data.toList) = Lib.byteCells (putA N1 (pre ++ [(d, k)])) by simp [putA, encR_app, encR, M.encB])
    have t1 := Lib.size_eq (M.encB (M.zig d).toNat)
    generalize M.encB (M.zig d).toNat = E1 at *
    generalize M.encB k = E2 at *
    generalize putA N1 pre = P0 at *
    have HIB := Lib.hid hib
    have HB := Lib.hid hB
    have HSB := Lib.hid hS
    clear htl g2 g3 z1 hib hB hS
    gi_wp2_with (first
      | (refine ⟨trivial, ?_⟩; gi_at_call 15; refine (CallsIn.inRound lo (callsIn_wide.2 (writeB _ _ _ E2 _ HIB3.out (by rw [List.length_append, ← t1]; omega) HB3.out.size))).mono ?_; rintro e w4 ⟨rfl, hib4, hlo4, hk4⟩; rw [HL4.out] at hib4; have HIB4 := Lib.hid hib4; have HB4 := Lib.hid (HB3.out.trans hlo4); have HK4 := Lib.hid (HK3.out.trans hk4); clear hib4 hlo4 hk4)
      | (refine ⟨trivial, ?_⟩; gi_at_call 64; refine (CallsIn.inRound lo (callsIn_wide.2 (HNI.out _))).mono ?_; rintro e w1 ⟨rfl, hb1⟩; have HIB1 := Lib.hid (isB_belowC HIB.out hb1); have HB1 := Lib.hid (HB.out.trans (hb1.mono HB.out.size)); have HK1 := Lib.hid (KeepB.below hb1); clear hb1 HNI)
      | (refine ⟨trivial, ?_⟩; gi_at_call 16; refine (CallsIn.inRound lo (callsIn_wide.2 (HNN.out _))).mono ?_; rintro e w3 ⟨rfl, hb3⟩; have HIB3 := Lib.hid (isB_belowC HIB2.out hb3); have HB3 := Lib.hid (HB2.out.trans (hb3.mono HB2.out.size)); have HK3 := Lib.hid (HK2.out.trans (KeepB.below hb3)); clear hb3 HNN)
      | (refine ⟨trivial, ?_⟩; gi_at_call 15; refine (CallsIn.inRound lo (callsIn_wide.2 (writeB _ _ _ E1 _ HIB1.out (by omega) HB1.out.size))).mono ?_; rintro e w2' ⟨rfl, hib2, hlo2, hk2⟩; have HIB2 := Lib.hid hib2; have HB2 := Lib.hid (HB1.out.trans hlo2); have HK2 := Lib.hid (HK1.out.trans hk2); clear hib2 hlo2 hk2))
    have hS4 : Boxed w4 w2.heap.size 59 (.slice a N1 c) := HK4.out.same _ _ HSB.out (by simp [isBB])
    exact ⟨HK4.out.from _, ⟨below_between HB.out HB4.out HK4.out.size, hS4.trans HSB.out.symm⟩, ⟨⟨HIB4.out, hS4⟩, HB4.out⟩⟩
  case done =>
    rintro D ys W hD rfl ⟨⟨hib, _⟩, hB⟩ hK
    have hne : putA N1 ys ≠ [] := fun e => by have := (M.enc_len N1).1; have h2 := congrArg List.length e; rw [putA, List.length_append, List.length_nil] at h2; omega
    clear bS hI3 hB3 HIB2 HIB HB0 HS HL0
    have HST := Lib.hid (stringK _ _ _ _ hib hne)
    obtain ⟨P0, hP0⟩ : ∃ P, putA N1 ys = P := ⟨_, rfl⟩
    rw [hP0] at HST
    have HP := Lib.hid hP0
    have HB := Lib.hid hB
    clear hP0 hib hB hne
    gi_wp2_with (refine ⟨trivial, ?_⟩; gi_at_call 19; refine (callsIn_wide.2 HST.out).mono ?_; rintro e w5 ⟨rfl, hb5, hk5⟩; have HB5 := Lib.hid (HB.out.trans hb5); have HK5 := Lib.hid (hk5.same D _ hK rfl); clear hb5 hk5)
    refine ⟨by simp, .inl ⟨_, _, rfl, run_takeDeferred HK5.out, ?_⟩⟩
    exact ⟨_, results_tmp2 rfl _ _ _, by rw [HP.out]; rfl, HB5.out.trans (belowK_b (w := w) (Nat.le_refl _) w5 D _ _ (by simp at hD; omega) HK5.out rfl rfl)⟩
  case stop =>
    rintro D c pre W _ _ h _
    exact h.elim
end Go.Proofs.YtnhljfhpfpfniaaGreat

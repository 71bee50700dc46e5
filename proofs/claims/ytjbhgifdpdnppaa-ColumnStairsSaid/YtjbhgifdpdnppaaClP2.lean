/- The program's Runs: the runs that its iterator tells, gathered. -/
import Derived.Test.YtjbhgifdpdnppaaClP1
namespace Go.Proofs.Ytjbhgifdpdnppaa
open Go.RowKit Go.Shelf Base Base2
attribute [local go_sem] Oper.semAt_some

theorem turns_below {W W' : World} (h : Turns (fun _ => False) W W') : Below W.heap.size W W' := h.lo (Nat.le_refl _) (fun _ _ a => a)
theorem runs_seq (n : Nat) (hn : 1 ≤ n) (Bn : Nat) (a : Option Addr) (c : Nat) (l : List Int) (V : World) (hr : I64s V a l) (hin : ∀ x ∈ l, in64 x) (hl : l.length ≤ 1000000) (w0 : World) (hV : Below V.heap.size V w0) (hBn : w0.heap[Bn]? = some (.cells #[.slice a l.length c] 22 (0, 0))) :
    SeqT Fence.wide n Try.prog 31 #[.pointer (some ⟨Bn, 0, none⟩)] encT (fun _ => False) (KpR V.heap.size Bn) (TlR l.length) (fun ys _ => ys = runsS l) (fun _ _ => True) w0 := fun lo J Jx W hW hJ _ hY h0 =>
  run31 n hn lo Bn a c l V hr hin hl J Jx hJ hY W (hV.trans (hW.mono hV.size)) ((hW.block Bn (lt_of_blk hBn)).trans hBn) h0
theorem kpR_t {n b : Nat} {A B C : World} (h : KpR n b A B) (k : KpR n b B C) : KpR n b A C := ⟨h.1.trans k.1, k.2.trans h.2⟩
theorem kpR_b {n b s : Nat} (hn : n ≤ s) (hb : b < s) (W : World) (l : Nat) (o : Obj) (hl : s < l) : KpR n b W (W.putObj l o) :=
  ⟨⟨rfl, rfl, rfl, by simp, fun k hk => World.putObj_heap_other (by omega)⟩, World.putObj_heap_other (by omega)⟩
theorem runs_lens {M : Nat} {pre : List RunT} {x : RunT} (h : TlR M pre x) : pre.length < M ∧ x.2 ≤ M ∧ in64 x.1 := by
  obtain ⟨h1, h2, h3⟩ := h
  have h4 := canon_len _ _ h1
  have h5 := total_mem (pre ++ [x]) x (by simp)
  rw [List.length_append, List.length_singleton] at h4
  exact ⟨by omega, by omega, h3⟩

set_option maxRecDepth 100000 in
set_option maxHeartbeats 4000000 in
theorem runs8 (a : Option Addr) (c : Nat) (l : List Int) (w : World) (hr : I64s w a l) (hl : l.length ≤ 65536) (hin : ∀ x ∈ l, in64 x) :
    Calls Try.prog 8 #[.slice a l.length c] w fun e w' => (∃ a' c', e = .returned (.slice a' (runsS l).length c') ∧ RunsIn w' a' (runsS l)) ∧ Below w.heap.size w w' := by
  refine (callsIn_wide (n := 10)).1 ?_
  obtain ⟨i0, hi0, hz0, hz1, hz2⟩ := info_parts infoRun
  have HS := Lib.hid (fun w0 hV hB => runs_seq 9 (by omega) (w.heap.size + 1) a c l w hr hin (by omega) w0 hV hB)
  obtain ⟨M, hM⟩ : ∃ M, l.length = M := ⟨_, rfl⟩
  rw [hM] at HS hl
  rw [hM]
  clear hr hin
  refine callsIn_of_wp_marks Try.func8 rfl trivial ?_ rfl
  simp only [Try.ntmps8, List.size_toArray, List.length_cons, List.length_nil, Nat.reduceAdd, Nat.reduceSub, Array.replicate_succ, Array.replicate_zero, List.push_toArray, List.append_toArray, List.nil_append, List.cons_append]
  gi_wp2_with (refine ⟨trivial, ?_⟩; gi_at_call 16; refine (runs16 a M c _).mono ?_; rintro e w' ⟨rfl, rfl⟩)
  have bO := Boxed.new w 27 (.slice none 0 0)
  have bS := Boxed.new (w.alloc (.cells #[.slice none 0 0] 27)) 22 (.slice a M c)
  rw [World.size_alloc] at bS
  have hB0 : Below w.heap.size w ((w.alloc (.cells #[.slice none 0 0] 27)).alloc (.cells #[.slice a M c] 22)) := ((Below.refl _ w).alloc (Nat.le_refl _) _).alloc (by simp) _
  refine range_turns rfl (by omega) (gf := 31) (lb := #[.pointer (some ⟨w.heap.size + 1, 0, none⟩)]) rfl trivial (enters_of Try.func31 (by kernel_rfl) rfl)
    (HS.out _ hB0 bS) (fun _ h => h.elim) kpR_t (kpR_b (by simp; omega) (by simp)) (Below.refl _ _) (fun _ => rfl) (fun _ _ _ _ h _ _ => h) (fun _ _ _ _ h _ _ => h)
    (fun pre W => ((∃ v, Boxed W w.heap.size 27 v ∧ W.ownsRow w.heap.size 30 2 v pre.length (flatR pre) ∧ True) ∧ Boxed W (w.heap.size + 1) 22 (.slice a M c)) ∧ Below w.heap.size w W)
    (fun _ _ _ => False)
    (OwnFrom.and (OwnFrom.and (Own.from (holdsRow_own w.heap.size w.heap.size 27 30 2 (fun pre => pre.length) flatR (fun _ _ => True)) _) (Own.from (boxed_own _ _ (fun _ => .slice a M c)) _)) (ownFrom_below (Nat.le_refl _) (by simp; omega)))
    (fun _ _ _ _ _ h _ _ => h)
    (fun s A B ⟨⟨⟨v, h1, h2, h3⟩, h4⟩, h5⟩ ht => ⟨⟨⟨v, ht.at h1 id, own_below' h2 (turns_below ht), h3⟩, ht.at h4 id⟩, h5.trans ((turns_below ht).mono h5.size)⟩)
    (fun _ _ _ _ h _ => h)
    ⟨⟨⟨_, bO.alloc _, World.ownsRow_nil _ _ _ _, trivial⟩, bS⟩, hB0⟩
    (fun x => { tmps := #[.slice a M c, undef, .slice none 0 0, .pointer (some ⟨w.heap.size, 0, none⟩), .int .i64 x.1, .int .u64 (x.2 : Int), .slice a M c, .func (.func 31) #[] #[.pointer (some ⟨w.heap.size + 1, 0, none⟩)], .int .i64 x.1, .int .u64 (x.2 : Int), undef, undef, undef, undef, undef, undef, undef, undef], defers := [] }) ?assign ?body ?done ?stop
  case assign =>
    intro l x W K hK
    dsimp only [encT]
    gi_wp2
    exact hK
  case body =>
    rintro lo pre ⟨d, k⟩ W ⟨⟨⟨v, hv, hrow, _⟩, hS⟩, hB⟩ htl
    obtain ⟨g1, g2, g3⟩ := runs_lens htl
    dsimp only at g2 g3 ⊢
    have hc := hv.cell
    have hkz : (k : Int) ≤ 65536 := by omega
    have hlo := hB.size
    have b1 : pre.length + 1 ≤ maxLen := by unfold maxLen; omega
    have b2 : (pre.length + 1) * 16 ≤ 140737488355328 := by omega
    clear htl g2 g3 hB0 bO bS
    gi_wp2_with (gi_at_builtin; refine wpListIn_append_own _ rfl _ _ 27 rfl w.heap.size 30 i0 (.agg #[.int .i64 0, .int .i64 0]) 2 16 Try.underlying27 hi0 hz0 hz1 hz2 rfl (by decide) _ _ _ rfl (hrow.alloc _) ⟨W.heap.size, 0, none⟩ 1 1 [.int .i64 d, .int .i64 (k : Int)] rfl rfl (new_twoC _ _ _ _) (one_run _ _) b1 b2 (by simp; omega) ?_; intro v' w1 hown' hgrow _; obtain ⟨g', cap', rfl⟩ := ownsRow_succ hown'; obtain ⟨hv1, hv2, hr2, hk2, hb2⟩ := hv.appended (by decide) hrow hB.size (Nat.le_refl _) hown' hgrow; have hc1 := hv1.cell; have hf1 := hv1.frozen; have hS2 : Boxed (w1.setCell ⟨w.heap.size, 0, none⟩ (.slice (some ⟨g', 0, none⟩) (pre.length + 1) cap')) (w.heap.size + 1) 22 (.slice a M c) := ((hS.alloc _).kept hgrow (hS.not_row (by decide) hrow)).other (by omega) _)
    exact ⟨hk2.from _, ⟨hb2, hS2.trans hS.symm⟩, ⟨⟨_, hv2, by rw [flatR_app, List.length_append]; exact hr2, trivial⟩, hS2⟩, hB.trans hb2⟩
  case done =>
    rintro D ys W hD rfl ⟨⟨⟨v, hv, hrow, _⟩, _⟩, hB⟩ hK
    have hc := hv.cell
    clear HS bO bS hB0
    gi_wp2
    refine ⟨by simp, .inl ⟨_, _, rfl, run_takeDeferred hK, ?_⟩⟩
    obtain ⟨a', c', rfl, hri⟩ := runs_own (ownsRow_putObj hrow (.deferred none) hK rfl)
    exact ⟨_, results_tmp rfl _ _ _, ⟨a', c', rfl, hri⟩, hB.trans (belowK_b (w := w) (Nat.le_refl _) W D _ _ (by simp at hD; omega) hK rfl rfl)⟩
  case stop =>
    rintro D c pre W _ _ h _
    exact h.elim
end Go.Proofs.Ytjbhgifdpdnppaa

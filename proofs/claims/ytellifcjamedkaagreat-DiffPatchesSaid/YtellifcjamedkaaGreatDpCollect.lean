/- The library's Collect over an iterator of rows: the contract. -/
import Derived.Test.YtellifcjamedkaaGreatMEa
namespace Go.Proofs.YtellifcjamedkaaGreat
open Go.RowKit Go.Shelf Base Base2
attribute [local go_sem] Oper.semAt_some
theorem row_max {FULL : List RowT} (h : FULL.length ≤ 8001) {pre : List RowV} {x : RowV} (hs : ∃ s, (pre ++ [x]).map RowV.r ++ s = FULL) : pre.length + 1 ≤ 8001 := by
  obtain ⟨s, e⟩ := hs
  rw [← e] at h
  simp only [List.length_append, List.length_map, List.length_singleton] at h
  omega
/-- What gathering turns. -/
def RCol (B : Nat) (k : Nat) (o : Obj) : Prop := B ≤ k ∧ ((∃ cs fz, o = .cells cs 86 fz) ∨ ∃ cs fz, o = .cells cs 58 fz)
theorem RCol.cells {B k : Nat} {o : Obj} (h : RCol B k o) : o.isCells = true := by rcases h.2 with ⟨cs, fz, rfl⟩ | ⟨cs, fz, rfl⟩ <;> rfl
theorem not_cells {ts : List TypeId} {T : Nat → Obj → Prop} (h : ∀ k o, T k o → o.isCells = false) : NoT ts T := fun k cs t fz a => by have := h _ _ a; cases this
set_option maxRecDepth 100000 in
set_option maxHeartbeats 8000000 in
theorem appendSeq (gf : Nat) (lb : Array Value) (eg : ∀ args w, (callFunc gf args).run Tryz.prog w = .ok (.enter gf args) w) (FULL : List RowT) (hN : FULL.length ≤ 8001) (w : World) (hseq : SeqK Tryz.prog gf lb encRv (fun _ => False) (RCol w.heap.size) (TlRow FULL) (fun xs => xs.map RowV.r = FULL) w) :
    Calls Tryz.prog 69 #[.slice none 0 0, .func (.func gf) #[] lb] w fun e w' => ∃ vo o, e = .returned vo ∧ RpS w.heap.size w o vo w' ∧ o.map RowV.r = FULL := by
  refine (callsIn_wide (n := 10)).1 ?_
  obtain ⟨i0, hi0, hz0, hz1, hz2⟩ := info_parts infoRp
  have HS := Lib.hid hseq
  have HE := Lib.hid eg
  have HN := Lib.hid hN
  clear hseq eg hN
  refine callsIn_of_wp_marks Tryz.func69 rfl trivial ?_ rfl
  simp only [Tryz.ntmps69, List.size_toArray, List.length_cons, List.length_nil, Nat.reduceAdd, Nat.reduceSub, Array.replicate_succ, Array.replicate_zero, List.push_toArray, List.append_toArray, List.nil_append, List.cons_append]
  gi_wp2
  have bB := Boxed.new w 86 (.slice none 0 0)
  obtain ⟨w1, hw1⟩ : ∃ x, w.alloc (.cells #[.slice none 0 0] 86) = x := ⟨_, rfl⟩
  rw [hw1] at bB
  have hb1 : Below w.heap.size w w1 := by rw [← hw1]; exact (Below.refl _ w).alloc (Nat.le_refl _) _
  have hs1 : w.heap.size + 1 = w1.heap.size := by rw [← hw1]; simp
  refine range_kinds (gf := gf) (lb := lb) (w := _) rfl HE.out HS.out (fun _ _ h => .inl h.cells) (by rw [hw1]; exact hb1) (fun _ => rfl)
    (fun pre W => ∃ v, Boxed W w.heap.size 86 v ∧ RpS w.heap.size w pre v W) (fun _ _ _ => False) ?bi ?bx ?h0
    (fun pre x a' W => TlRow FULL pre x W ∧ ∃ v, Boxed W w.heap.size 86 v ∧ RpS w.heap.size w pre v W ∧ ∃ b0, W.heap[b0]? = some (.cells x.cells.toArray 58 (0, 0)) ∧ w1.heap.size ≤ b0 ∧ a' = ⟨#[.slice none 0 0, .func (.func gf) #[] lb, .pointer (some ⟨w.heap.size, 0, none⟩), undef, .slice none 0 0, .pointer (some ⟨b0, 0, none⟩), .func (.func gf) #[] lb, .agg x.cells.toArray, undef, undef, undef, undef, undef], []⟩) ?bax ?assign ?body ?done ?stop
  case bi =>
    rintro pre A W ⟨v, h1, h2⟩ ht
    have hn : ∀ ts, NoT ts (fun k o => (w.alloc (.cells #[.slice none 0 0] 86)).heap.size ≤ k ∧ (False ∨ o.isCells = false)) := fun ts => not_cells (fun k o h => h.2.elim False.elim id)
    exact ⟨v, boxed_turn h1 (hn _) ht, h2.turn (hn _) (fun k o h => by have := h.1; rw [hw1] at this; omega) ht⟩
  case bx => exact fun _ _ _ _ h _ => h
  case h0 =>
    rw [hw1]
    exact ⟨_, bB, (RpS.nil (Nat.le_refl _)).below hb1⟩
  case bax =>
    rintro pre x a' s A W ⟨⟨hp, hv⟩, v, h1, h2, b0, h3, h4, h5⟩ ht
    have hn : ∀ ts, NoT ts (fun k o => (w.alloc (.cells #[.slice none 0 0] 86)).heap.size ≤ k ∧ o.isCells = false) := fun ts => not_cells (fun k o h => h.2)
    exact ⟨⟨hp, hv.turn (hn _) ht⟩, v, boxed_turn h1 (hn _) ht, h2.turn (hn _) (fun k o h => by have := h.1; rw [hw1] at this; omega) ht, b0, (hn _).at ht h3 (List.mem_singleton.2 rfl), h4, h5⟩
  case assign =>
    rintro l pre ⟨⟨xl, xa, xb, xv⟩, A, C⟩ W K ⟨v, hv, hr⟩ ⟨hp, hx⟩ hK
    have HK := Lib.hid hK
    have HA := Lib.hid (show ∀ o, Below W.heap.size W (W.alloc o) from fun o => (Below.refl _ W).alloc (Nat.le_refl _) o)
    have HV := Lib.hid (fun o => show Boxed (W.alloc o) w.heap.size 86 v from (HA.out o |>.block _ hv.lt).trans hv)
    have HR := Lib.hid (fun o => hr.below (HA.out o))
    have HX := Lib.hid (fun o => hx.below (HA.out o))
    have HP := Lib.hid hp
    have HZ := Lib.hid (show w1.heap.size ≤ W.heap.size by have := hr.sz; have := hv.lt; omega)
    clear hK hv hr hp hx
    dsimp only [encRv, RowV.cells]
    gi_wp2
    exact HK.out _ _ (.below (HA.out _)) ⟨⟨HP.out, HX.out _⟩, v, HV.out _, HR.out _, W.heap.size, heap_alloc_new W _, HZ.out, rfl⟩
  case body =>
    rintro l pre ⟨⟨xl, xa, xb, xv⟩, A, C⟩ a' W ⟨⟨hp, hx⟩, v, hv, hr, b0, hb0, hlt, rfl⟩
    have hc := hv.cell
    have hb : W.heap[b0]? = some (.cells #[.int .i64 xl, .int .i64 xa, .int .i64 xb, .slice A xv.length C] 58 (0, 0)) := hb0
    have c0 : W.cell? ⟨b0, 0, none⟩ = some (.int .i64 xl) := by rw [cell_of_row _ _ _ _ _ _ hb]; rfl
    have c1 : W.cell? ⟨b0, 1, none⟩ = some (.int .i64 xa) := by rw [cell_of_row _ _ _ _ _ _ hb]; rfl
    have c2 : W.cell? ⟨b0, 2, none⟩ = some (.int .i64 xb) := by rw [cell_of_row _ _ _ _ _ _ hb]; rfl
    have c3 : W.cell? ⟨b0, 3, none⟩ = some (.slice A xv.length C) := by rw [cell_of_row _ _ _ _ _ _ hb]; rfl
    have hm := row_max HN.out hp
    have b1 : pre.length + 1 ≤ maxLen := by unfold maxLen; omega
    have b2 : (pre.length + 1) * 48 ≤ 140737488355328 := by omega
    have HR := Lib.hid hr
    have hv0 := Lib.hid hv
    have HX := Lib.hid hx
    clear hp hm hb hb0 hr hv hx
    dsimp only [RowV.cells]
    gi_wp2_with (first | (gi_at_builtin; refine wpListIn_append_own _ rfl _ _ 86 rfl w.heap.size 58 i0 (.agg #[.int .i64 0, .int .i64 0, .int .i64 0, .slice none 0 0]) 4 48 Tryz.underlying86 hi0 hz0 hz1 hz2 rfl (by decide) _ _ _ rfl (HR.out.row.alloc _) ⟨W.heap.size, 0, none⟩ 1 1 [.int .i64 xl, .int .i64 xa, .int .i64 xb, .slice A xv.length C] rfl rfl (new_run _ _ _) (one_rowV ⟨⟨xl, xa, xb, xv⟩, A, C⟩) b1 b2 (by have := HR.out.sz; simp; omega) ?_; intro v' w9 hown hgrow _; obtain ⟨g', cap', rfl⟩ := ownsRow_succ hown; have hvt := (hv0.out.alloc (o := .cells #[.int .i64 xl, .int .i64 xa, .int .i64 xb, .slice A xv.length C] 58)).kept hgrow (hv0.out.not_row (by decide) HR.out.row); have hc2 := hvt.cell; have hf2 := hvt.frozen; have HB2 := Lib.hid hvt; have HA := Lib.hid (HR.out.app (x := ⟨⟨xl, xa, xb, xv⟩, A, C⟩) HX.out hown hgrow); have HT := Lib.hid (HR.out.app_turn hgrow); clear hown hgrow hvt))
    have hn : ∀ t, t ≠ 86 → NoT [t] (fun k o => k = w.heap.size ∧ ∃ cs, o = .cells cs 86 (0, 0)) := fun t ht k cs t' fz h hm => by
      obtain ⟨_, cs', h⟩ := h
      cases h
      exact ht (List.mem_singleton.1 hm).symm
    have hT2 : TurnsK (fun k o => k = w.heap.size ∧ ∃ cs, o = .cells cs 86 (0, 0)) w9 (w9.setCell ⟨w.heap.size, 0, none⟩ (.slice (some ⟨g', 0, none⟩) (pre.length + 1) cap')) := (TurnsK.refl _ w9).setCell (p := ⟨w.heap.size, 0, none⟩) (o := .cells #[v] 86 (0, 0)) HB2.out ⟨rfl, _, rfl⟩ _
    refine ⟨(HT.out.mono ?_).trans (hT2.mono ?_), _, HB2.out.set _, HA.out.turn ?_ ?_ hT2⟩
    · rintro k o ⟨h1, cs, rfl⟩; exact ⟨h1, .inr ⟨cs, _, rfl⟩⟩
    · rintro k o ⟨rfl, cs, rfl⟩; exact ⟨Nat.le_refl _, .inl ⟨cs, _, rfl⟩⟩
    · intro k cs t fz h hm
      obtain ⟨_, cs', h⟩ := h
      cases h
      revert hm; decide
    · rintro k o ⟨rfl, _⟩; exact Nat.le_refl _
  case done =>
    rintro D xs W hD hf ⟨v, hv, hr⟩ hK
    have hc := hv.cell
    have HR := Lib.hid hr
    have HF := Lib.hid hf
    have HKD := Lib.hid hK
    clear hr hf hv hK
    gi_wp2
    refine ⟨by simp, .inl ⟨_, _, rfl, run_takeDeferred HKD.out, ?_⟩⟩
    exact ⟨_, results_tmp rfl _ _ _, v, xs, rfl, HR.out.turn (T := fun k o => k = D ∧ o.isCells = false) (not_cells (fun _ _ h => h.2)) (fun k o h => by have := h.1; have h2 : (w.alloc (.cells #[.slice none 0 0] 86)).heap.size ≤ D := hD; rw [hw1] at h2; omega) ((TurnsK.refl _ W).putObj HKD.out ⟨rfl, rfl⟩ _), HF.out⟩
  case stop =>
    rintro D c pre W _ h _
    exact h.elim
theorem collect (gf : Nat) (lb : Array Value) (eg : ∀ args w, (callFunc gf args).run Tryz.prog w = .ok (.enter gf args) w) (FULL : List RowT) (hN : FULL.length ≤ 8001) (w : World) (hseq : SeqK Tryz.prog gf lb encRv (fun _ => False) (RCol w.heap.size) (TlRow FULL) (fun xs => xs.map RowV.r = FULL) w) :
    Calls Tryz.prog 37 #[.func (.func gf) #[] lb] w fun e w' => ∃ vo o, e = .returned vo ∧ RpS w.heap.size w o vo w' ∧ o.map RowV.r = FULL := by
  have HA := Lib.hid (appendSeq gf lb eg FULL hN w hseq)
  clear eg hN hseq
  go_enter Tryz.func37, Tryz.ntmps37
  go_wp2_with (go_at_call 69; refine HA.out.mono ?_; rintro e w1 ⟨vo, o, rfl, hr, hm⟩; have HR := Lib.hid hr; have HM := Lib.hid hm; clear hr hm)
  go_ret
  exact ⟨_, o, rfl, HR.out, HM.out⟩
end Go.Proofs.YtellifcjamedkaaGreat

/- The contract of the document's Runs. -/
import Derived.Test.YtnhljfhpfpfniaaGreatClMath
import Derived.Test.YtnhljfhpfpfniaaGreatBase2
import Derived.Laws.AppendOwn
import Derived.Laws.OwnMore
import Derived.WalkLawsBesides
namespace Go.Proofs.YtnhljfhpfpfniaaGreat
open Go.RowKit Base Base2

/-- A row of numbers. -/
def I64s (W : World) (a : Option Addr) (l : List Int) : Prop := l = [] ∨ ∃ b off, a = some ⟨b, off, none⟩ ∧ b < W.heap.size ∧ ∀ (i : Nat) (z : Int), l[i]? = some z → W.cell? ⟨b, off + i, none⟩ = some (.int .i64 z)
theorem I64s.below {W W' : World} {a : Option Addr} {l : List Int} (h : I64s W a l) (hb : Below W.heap.size W W') : I64s W' a l := by
  rcases h with h | ⟨b, off, rfl, h1, h2⟩
  · exact .inl h
  · exact .inr ⟨b, off, rfl, Nat.lt_of_lt_of_le h1 hb.size, fun i z hi => (hb.cell (p := ⟨b, off + i, none⟩) h1).trans (h2 i z hi)⟩
theorem i64_own {W : World} {base : Nat} {v : Value} {l : List Int} (h : W.ownsRow base 2 1 v l.length (l.map (Value.int .i64))) : ∃ a c, v = .slice a l.length c ∧ I64s W a l := by
  obtain ⟨h1, h2⟩ := h
  rcases h2 with ⟨rfl, h0⟩ | ⟨g, cap, cur, rfl, a1, a2, a3, a4, a5, a6⟩
  · exact ⟨none, 0, by rw [h0], .inl (List.eq_nil_of_length_eq_zero h0)⟩
  · refine ⟨_, _, rfl, .inr ⟨g, 0, rfl, (Array.getElem?_eq_some_iff.1 a2).1, fun i z hi => ?_⟩⟩
    rw [Nat.zero_add, cell_of_row W g i cur 2 (0, 0) a2, ← Array.getElem?_toList]
    have hil := (List.getElem?_eq_some_iff.1 hi).1
    have h3 : (cur.toList.take (l.length * 1))[i]? = some (.int .i64 z) := by rw [a6, List.getElem?_map, hi]; rfl
    rw [List.getElem?_take, if_pos (by omega)] at h3
    exact h3
def flatR : List RunT → List Value
  | [] => []
  | p :: r => .int .i64 p.1 :: .int .i64 (p.2 : Int) :: flatR r
theorem flatR_app : ∀ (r s : List RunT), flatR (r ++ s) = flatR r ++ flatR s
  | [], _ => rfl
  | p :: r, s => by show _ :: _ :: flatR (r ++ s) = _; rw [flatR_app r s]; rfl
theorem flatR_len : ∀ r : List RunT, (flatR r).length = r.length * 2
  | [] => rfl
  | p :: r => by simp [flatR, flatR_len r]; omega
theorem flatR_at : ∀ (r : List RunT) (i : Nat) (p : RunT), r[i]? = some p → (flatR r)[i * 2]? = some (.int .i64 p.1) ∧ (flatR r)[i * 2 + 1]? = some (.int .i64 (p.2 : Int))
  | [], i, p, h => by simp at h
  | q :: r, 0, p, h => by simp at h; subst h; exact ⟨rfl, rfl⟩
  | q :: r, i + 1, p, h => by
    have ih := flatR_at r i p (by simpa using h)
    rw [show (i + 1) * 2 + 1 = i * 2 + 1 + 1 + 1 by omega, show (i + 1) * 2 = i * 2 + 1 + 1 by omega]
    exact ih
theorem infoRun : (Tryz.prog.info? 151).map (fun i => (i.zero, i.size, i.bytes)) = some (some (.agg #[.int .i64 0, .int .i64 0]), 2, 16) := by kernel_rfl
theorem one_run (a b : Int) : ∀ u ∈ [Value.int .i64 a, Value.int .i64 b], u.oneCell' = true := by
  intro u hu
  rcases List.mem_cons.1 hu with rfl | hu
  · rfl
  · rcases List.mem_cons.1 hu with rfl | hu
    · rfl
    · cases hu
theorem new_twoC (W : World) (a b : Value) (T : TypeId) : ∀ (j : Nat) (u : Value), [a, b][j]? = some u → (W.alloc (.cells #[a, b] T)).cell? ((⟨W.heap.size, 0, none⟩ : Addr).add j) = some u := by
  intro j u hu
  have h := heap_alloc_new W (.cells #[a, b] T)
  rw [Addr.add_mid, cell_of_row _ _ _ _ T (0, 0) h]
  rcases j with _ | _ | j
  · simpa using hu
  · simpa using hu
  · simp at hu
structure RunR (w : World) (r : List RunT) (v : Value) (W : World) : Prop where
  own : W.ownsRow w.heap.size 151 2 v r.length (flatR r)
  lo : Below w.heap.size w W
theorem RunR.nil (w W : World) (h : Below w.heap.size w W) : RunR w [] (.slice none 0 0) W := ⟨⟨rfl, .inl ⟨rfl, rfl⟩⟩, h⟩
theorem RunR.app {w W w2 : World} {r : List RunT} {v v' : Value} {d : Int} {o : Obj} (h : RunR w r v W) (ho : w2.ownsRow w.heap.size 151 2 v' (r.length + 1) (flatR r ++ [.int .i64 d, .int .i64 1])) (hg : (W.alloc o).grownBy w2 v.ownBlock) : RunR w (r ++ [(d, 1)]) v' w2 :=
  ⟨by rw [flatR_app, List.length_append]; exact ho, h.lo.grown (World_grown_alloc hg) h.lo.size (own_block_ge h.own)⟩
theorem set_last (xs : List Value) (a u v : Value) : (xs ++ [a, u]).set (xs.length + 1) v = xs ++ [a, v] := by
  rw [List.set_append_right _ _ (by omega), show xs.length + 1 - xs.length = 1 by omega]; rfl
theorem RunR.inc {w W : World} {r : List RunT} {g cap : Nat} {d : Int} {k : Nat} (h : RunR w (r ++ [(d, k)]) (.slice (some ⟨g, 0, none⟩) (r ++ [(d, k)]).length cap) W) : RunR w (r ++ [(d, k + 1)]) (.slice (some ⟨g, 0, none⟩) (r ++ [(d, k + 1)]).length cap) (W.setCell ⟨g, r.length * 2 + 1, none⟩ (.int .i64 ((k : Int) + 1))) := by
  have h1 := (h.own.stored (r.length * 2 + 1) (.int .i64 ((k : Int) + 1))).1
  have hg := (own_block_ge h.own) g rfl
  refine ⟨?_, h.lo.setCell (p := ⟨g, _, none⟩) hg _⟩
  have e1 : (r ++ [(d, k + 1)]).length = (r ++ [(d, k)]).length := by simp
  have e2 : flatR (r ++ [(d, k + 1)]) = (flatR (r ++ [(d, k)])).set (r.length * 2 + 1) (.int .i64 ((k : Int) + 1)) := by
    rw [flatR_app, flatR_app]
    show flatR r ++ [Value.int .i64 d, Value.int .i64 ((k + 1 : Nat) : Int)] = (flatR r ++ [Value.int .i64 d, Value.int .i64 (k : Int)]).set (r.length * 2 + 1) (Value.int .i64 ((k : Int) + 1))
    rw [← flatR_len r, set_last, Int.natCast_add]; rfl
  rw [e1, e2]
  exact h1

set_option maxRecDepth 100000 in
set_option maxHeartbeats 4000000 in
theorem rruns9 (a : Option Addr) (l : List Int) (cap : Nat) (w : World) (hr : I64s w a l) (hl : l.length ≤ 100000) (hin : ∀ x ∈ l, in64 x) :
    Calls Tryz.prog 75 #[.slice a l.length cap] w fun e w' => (∃ v, e = .returned v ∧ w'.ownsRow w.heap.size 151 2 v (runsS l).length (flatR (runsS l))) ∧ Below w.heap.size w w' := by
  obtain ⟨i0, hi0, hz0, hz1, hz2⟩ := info_parts infoRun
  go_enter Tryz.func75, Tryz.ntmps75
  go_wp2
  go_loopw [3, 4, 5] (fun vo va vi W => ∃ (i : Nat) (r : List RunT) (x : Int), i ≤ l.length ∧ vi = .int .i64 (i : Int) ∧ va = .int .i64 x ∧ x = (l.take i).getLastD 0 ∧ r = runsD (diffs 0 (l.take i)) ∧ RunR w r vo W) (fun _ _ vi _ => l.length - (intOf vi).toNat)
  case atStart => exact ⟨0, [], 0, by omega, rfl, rfl, rfl, rfl, RunR.nil w _ (Below.refl _ _)⟩
  case round =>
    obtain ⟨i, r, x, hi, rfl, rfl, hx, hrr, hS⟩ := hrel
    by_cases hlt : i < l.length
    · obtain ⟨y, hy⟩ : ∃ y, l[i]? = Option.some y := ⟨l[i], by simp [hlt]⟩
      have hyin := hin y (List.mem_of_getElem? hy)
      rcases hr with hr | ⟨b, off, rfl, hbw, hcs⟩
      · rw [hr] at hlt; simp at hlt
      have c0 := (hS.lo.cell (p := ⟨b, off + i, none⟩) hbw).trans (hcs i y hy)
      have htk : l.take (i + 1) = l.take i ++ [y] := by rw [List.take_add_one, hy]; rfl
      have hlast : y = (l.take (i + 1)).getLastD 0 := by rw [htk]; simp
      have hnext : runsD (diffs 0 (l.take (i + 1))) = pushR r (w64 (y - x)) := by
        rw [htk, diffs_app, ← hx]
        show runsD (diffs 0 (l.take i) ++ [w64 (y - x)]) = _
        rw [runsD_snoc, ← hrr]
      have hrl : r.length ≤ i := by
        have h1 := canon_len r none (by rw [hrr]; exact (runsD_all _).1)
        rw [← expand_len, hrr, (runsD_all _).2, diffs_len, List.length_take] at h1
        rw [hrr]; omega
      have hrt : total r ≤ i := by rw [← expand_len, hrr, (runsD_all _).2, diffs_len, List.length_take]; omega
      obtain ⟨d, hd⟩ : ∃ d, w64 (y - x) = d := ⟨_, rfl⟩
      rw [hd] at hnext
      have hd2 : IntKind.i64.wrap (y - x) = d := hd
      have HS := Lib.hid hS
      have HL := Lib.hid hlast
      have HN := Lib.hid hnext
      clear hlast hnext hx hrr hcs hyin htk hd
      rcases List.eq_nil_or_concat r with hr0 | ⟨q, p, hq⟩
      · subst hr0
        have HP := Lib.hid (HN.out.trans (show pushR [] d = [] ++ [(d, 1)] from rfl)).symm
        obtain ⟨av, cv, hv⟩ : ∃ av cv, u3 = .slice av 0 cv := by
          rcases hS.own.2 with ⟨rfl, _⟩ | ⟨g, cap2, cur, rfl, _⟩
          · exact ⟨_, _, rfl⟩
          · exact ⟨_, _, rfl⟩
        subst hv
        clear hS HN
        have b1 : ([] : List RunT).length + 1 ≤ maxLen := by unfold maxLen; simp
        have b2 : (([] : List RunT).length + 1) * 16 ≤ 140737488355328 := by simp
        go_wp2_with (at_builtin; refine wpList_append_own _ rfl _ _ 149 rfl w.heap.size 151 i0 (.agg #[.int .i64 0, .int .i64 0]) 2 16 Tryz.underlying149 hi0 hz0 hz1 hz2 rfl (by decide) _ _ _ rfl (HS.out.own.alloc _) ⟨wr.heap.size, 0, none⟩ 1 1 [.int .i64 d, .int .i64 1] rfl rfl (new_twoC _ _ _ _) (one_run _ _) b1 b2 (by have := HS.out.lo.size; simp; omega) ?_; intro v2 w2 hown hgrow _; have HA := Lib.hid (HS.out.app hown hgrow); clear hown hgrow)
        go_roundw
        case rel => exact ⟨i + 1, _, y, by omega, by go_num, rfl, HL.out, HP.out, HA.out⟩
        case measure => simp [intOf]; omega
      · subst hq
        obtain ⟨pd, pk⟩ := p
        obtain ⟨g, cv, hv⟩ : ∃ g cv, u3 = .slice (some ⟨g, 0, none⟩) (q.concat (pd, pk)).length cv := by
          rcases hS.own.2 with ⟨_, h⟩ | ⟨g, cap2, cur, rfl, _⟩
          · simp at h
          · exact ⟨_, _, rfl⟩
        subst hv
        rw [List.concat_eq_append] at *
        have hown := hS.own
        have hat := flatR_at (q ++ [(pd, pk)]) q.length (pd, pk) (by simp)
        have k0 := (hown.cellAt (q.length * 2) (by simp)).trans hat.1
        have k1 := (hown.cellAt (q.length * 2 + 1) (by simp; omega)).trans hat.2
        have kf := hown.frozenAt (q.length * 2 + 1)
        have hql : (q ++ [(pd, pk)]).length = q.length + 1 := by simp
        have HP := push_last q (pd, pk) d
        have hpk : pk ≤ i := by have := total_mem (q ++ [(pd, pk)]) (pd, pk) (by simp); dsimp only at this; omega
        clear hS hown hat hrt
        by_cases he : pd = d
        · have ge : (pd == d) = true := by simpa using he
          rw [if_pos he] at HP
          go_wp2
          go_region
          have HI : Hid (RunR w (q ++ [(pd, pk + 1)]) (.slice (some ⟨g, 0, none⟩) (q ++ [(pd, pk + 1)]).length cv) (wr.setCell ⟨g, q.length * 2 + 1, none⟩ (.int .i64 ((pk : Int) + 1))).drew) := by
            have h := RunR.inc HS.out
            exact ⟨h.own.drew, h.lo.drew⟩
          have hq2 : (q ++ [(pd, pk + 1)]).length = q.length + 1 := by simp
          rw [hq2] at HI
          have HR : Hid (q ++ [(pd, pk + 1)] = runsD (diffs 0 (l.take (i + 1)))) := (HN.out.trans HP).symm
          clear HP HS HN
          go_wp2
          go_roundw
          case rel => exact ⟨i + 1, _, y, by omega, by go_num, rfl, HL.out, HR.out, HI.out⟩
          case measure => simp [intOf]; omega
        · have ge : (pd == d) = false := by simpa using he
          rw [if_neg he] at HP
          have HP2 := HP
          rw [show q ++ [(pd, pk), (d, 1)] = q ++ [(pd, pk)] ++ [(d, 1)] by simp] at HP2
          have HP : Hid (q ++ [(pd, pk)] ++ [(d, 1)] = runsD (diffs 0 (l.take (i + 1)))) := (HN.out.trans HP2).symm
          clear HP2 HN
          have b1 : (q ++ [(pd, pk)]).length + 1 ≤ maxLen := by unfold maxLen; omega
          have b2 : ((q ++ [(pd, pk)]).length + 1) * 16 ≤ 140737488355328 := by omega
          go_wp2_with (at_builtin; refine wpList_append_own _ rfl _ _ 149 rfl w.heap.size 151 i0 (.agg #[.int .i64 0, .int .i64 0]) 2 16 Tryz.underlying149 hi0 hz0 hz1 hz2 rfl (by decide) _ _ _ rfl (HS.out.own.alloc _) ⟨wr.heap.size, 0, none⟩ 1 1 [.int .i64 d, .int .i64 1] rfl rfl (new_twoC _ _ _ _) (one_run _ _) b1 b2 (by have := HS.out.lo.size; simp; omega) ?_; intro v2 w2 hown hgrow _; have HA := Lib.hid (HS.out.app hown hgrow); clear hown hgrow)
          go_roundw
          case rel => exact ⟨i + 1, _, y, by omega, by go_num, rfl, HL.out, HP.out, HA.out⟩
          case measure => simp [intOf]; omega
    · have hie : i = l.length := by omega
      subst hie
      rw [List.take_length] at hrr
      have HS : Hid ((wr.ownsRow w.heap.size 151 2 u3 (runsS l).length (flatR (runsS l))) ∧ Below w.heap.size w wr) := by
        show _ ∧ _
        unfold runsS
        rw [← hrr]; exact ⟨hS.own, hS.lo⟩
      clear hS hrr hx hr hlt hi
      go_wp2
      go_ret
      exact ⟨⟨_, rfl, HS.out.1⟩, HS.out.2⟩
end Go.Proofs.YtnhljfhpfpfniaaGreat

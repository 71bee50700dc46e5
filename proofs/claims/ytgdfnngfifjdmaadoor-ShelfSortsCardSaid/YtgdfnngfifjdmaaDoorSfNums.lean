/- The contract of the document's Numbers of files of a kind. -/
import Derived.Test.YtgdfnngfifjdmaaDoorSfKind
import Derived.Laws.AppendOwn
import Derived.WalkLawsBesides
namespace Go.Proofs.YtgdfnngfifjdmaaDoor
open Go.RowKit Base Base2

/-- The numbers of those names that are of a kind, in order. -/
def numsS (k : Int) : List ByteArray → List Int
  | [] => []
  | s :: l => if (kindS s).1 = k then (kindS s).2.1 :: numsS k l else numsS k l
theorem numsS_yes {k : Int} {s : ByteArray} {l : List ByteArray} (h : (kindS s).1 = k) : numsS k (s :: l) = (kindS s).2.1 :: numsS k l := if_pos h
theorem numsS_no {k : Int} {s : ByteArray} {l : List ByteArray} (h : (kindS s).1 ≠ k) : numsS k (s :: l) = numsS k l := if_neg h
theorem numsS_len (k : Int) (l : List ByteArray) : (numsS k l).length ≤ l.length := by
  induction l with
  | nil => exact Nat.le_refl _
  | cons s l ih =>
    by_cases h : (kindS s).1 = k
    · rw [numsS_yes h, List.length_cons, List.length_cons]; omega
    · rw [numsS_no h, List.length_cons]; omega
/-- A kind is one of four; a number is small. -/
theorem kindS_rng (s : ByteArray) : 0 ≤ (kindS s).1 ∧ (kindS s).1 ≤ 3 ∧ 0 ≤ (kindS s).2.1 ∧ (kindS s).2.1 ≤ 1099511627776 := by
  rcases kindS_is s with h | ⟨_, h⟩ | ⟨n, hn, ⟨_, h⟩ | ⟨_, h⟩⟩ <;> rw [h] <;> exact ⟨by dsimp only; omega, by dsimp only; omega, by dsimp only; omega, by dsimp only; omega⟩

/-- A row of files from an address on: their names. -/
def NamesAt (W : World) (a : Option Addr) (l : List ByteArray) : Prop := l = [] ∨ ∃ b off, a = some ⟨b, off, none⟩ ∧ b < W.heap.size ∧ ∀ (i : Nat) (s : ByteArray), l[i]? = some s → W.cell? ⟨b, off + i * 2, none⟩ = some (.string s)
theorem NamesAt.below {W W' : World} {a : Option Addr} {l : List ByteArray} (h : NamesAt W a l) (hb : Below W.heap.size W W') : NamesAt W' a l := by
  rcases h with h | ⟨b, off, rfl, h1, h2⟩
  · exact .inl h
  · exact .inr ⟨b, off, rfl, Nat.lt_of_lt_of_le h1 hb.size, fun i f hi => (hb.cell (p := ⟨b, off + i * 2, none⟩) h1).trans (h2 i f hi)⟩
theorem NamesAt.some {W : World} {a : Option Addr} {l : List ByteArray} (h : NamesAt W a l) (hl : 1 ≤ l.length) : ∃ b off, a = some ⟨b, off, none⟩ ∧ b < W.heap.size ∧ ∀ (i : Nat) (s : ByteArray), l[i]? = some s → W.cell? ⟨b, off + i * 2, none⟩ = some (.string s) := by
  rcases h with rfl | h
  · simp at hl
  · exact h

theorem infoIntS : (Tryd.prog.info? 3).map (fun i => (i.zero, i.size, i.bytes)) = some (some (.int .i64 0), 1, 8) := by kernel_rfl
theorem one_i64 (z : Int) : ∀ u ∈ [Value.int .i64 z], u.oneCell' = true := by
  intro u hu
  rcases List.mem_cons.1 hu with rfl | hu
  · rfl
  · cases hu
theorem new_oneS (W : World) (a : Value) (T : TypeId) : ∀ (j : Nat) (u : Value), [a][j]? = some u → (W.alloc (.cells #[a] T)).cell? ((⟨W.heap.size, 0, none⟩ : Addr).add j) = some u := by
  intro j u hu
  have h := heap_alloc_new W (.cells #[a] T)
  rw [Addr.add_mid, cell_of_row _ _ _ _ T (0, 0) h]
  rcases j with _ | j
  · simpa using hu
  · simp at hu
/-- While numbers go out: the slice that owns them. -/
structure NumR (w : World) (out : List Int) (v : Value) (W : World) : Prop where
  own : W.ownsRow w.heap.size 3 1 v out.length (out.map (Value.int .i64))
  lo : Below w.heap.size w W
theorem NumR.nil (w : World) : NumR w [] (.slice none 0 0) w := ⟨⟨rfl, .inl ⟨rfl, rfl⟩⟩, Below.refl _ _⟩
theorem NumR.app {w W w2 : World} {out : List Int} {v v' : Value} {z : Int} {o : Obj} (h : NumR w out v W) (ho : w2.ownsRow w.heap.size 3 1 v' (out.length + 1) (out.map (Value.int .i64) ++ [.int .i64 z])) (hg : (W.alloc o).grownBy w2 v.ownBlock) : NumR w (out ++ [z]) v' w2 :=
  ⟨by rw [List.map_append, List.length_append]; exact ho, h.lo.grown (World_grown_alloc hg) h.lo.size (own_block_ge h.own)⟩

set_option maxRecDepth 100000 in
set_option maxHeartbeats 4000000 in
theorem rnums14 (a : Option Addr) (l : List ByteArray) (cap : Nat) (k : Int) (w : World) (hr : NamesAt w a l) (hl : l.length ≤ 10000) (hs : ∀ s ∈ l, s.size ≤ maxLen) :
    Calls Tryd.prog 14 #[.slice a l.length cap, .int .i64 k] w fun e w' => (∃ v, e = .returned v ∧ w'.ownsRow w.heap.size 3 1 v (numsS k l).length ((numsS k l).map (Value.int .i64))) ∧ Below w.heap.size w w' := by
  obtain ⟨i0, hi0, hz0, hz1, hz2⟩ := info_parts infoIntS
  obtain ⟨RES, hR⟩ : ∃ R, numsS k l = R := ⟨_, rfl⟩
  rw [hR]
  have hst : RES = [] ++ numsS k (l.drop 0) := by rw [← hR]; rfl
  have HST := Lib.hid hst
  have HN := Lib.hid (NumR.nil w)
  have HLEN : Hid (RES.length ≤ l.length) := by rw [← hR]; exact numsS_len k l
  clear hR hst
  go_enter Tryd.func14, Tryd.ntmps14
  go_wp2
  go_loopw [5, 6] (fun vo vi W => ∃ (i : Nat) (out : List Int), i ≤ l.length ∧ vi = .int .i64 (i : Int) ∧ RES = out ++ numsS k (l.drop i) ∧ NumR w out vo W) (fun _ vi _ => l.length - (intOf vi).toNat)
  case atStart => exact ⟨0, [], by omega, rfl, HST.out, HN.out⟩
  case round =>
    clear HST HN
    obtain ⟨i, out, hi, rfl, hres, hS⟩ := hrel
    have hol : out.length ≤ l.length := by have h5 := HLEN.out; rw [hres, List.length_append] at h5; omega
    have b2 : (out.length + 1) * 8 ≤ 140737488355328 := by omega
    have b1 : out.length + 1 ≤ maxLen := by unfold maxLen; omega
    have HS := Lib.hid hS
    by_cases hlt : i < l.length
    · obtain ⟨b, off, rfl, hbw, hcells⟩ := hr.some (by omega)
      obtain ⟨f, hf⟩ : ∃ f, l[i]? = Option.some f := ⟨l[i], by simp [hlt]⟩
      have c0 := (hS.lo.cell (p := ⟨b, off + i * 2, none⟩) hbw).trans (hcells i f hf)
      have hfs : f.size ≤ maxLen := hs f (List.mem_of_getElem? hf)
      have hdrop : l.drop i = f :: l.drop (i + 1) := by
        obtain ⟨h1, h2⟩ := List.getElem?_eq_some_iff.1 hf
        rw [List.drop_eq_getElem_cons h1, h2]
      rw [hdrop] at hres
      obtain ⟨q1, q2, q3, hq⟩ : ∃ q1 q2 q3, kindS f = (q1, q2, q3) := ⟨_, _, _, rfl⟩
      have HK : Hid (∀ W : World, Calls Tryd.prog 12 #[.string f] W fun e w' => e = .returned (.tuple #[.int .i64 q1, .int .i64 q2, .bool q3]) ∧ w' = W) := fun W => by
        have h := rkind12 f W hfs
        rw [hq] at h
        exact h
      by_cases hk : q1 = k
      · rw [numsS_yes (by rw [hq]; exact hk), hq] at hres
        dsimp only at hres
        subst hk
        have HRS : Hid (RES = (out ++ [q2]) ++ numsS q1 (l.drop (i + 1))) := by
          show _ = _
          rw [hres]; simp
        clear hr hS hcells hf hfs hdrop hq hres hs
        go_wp2_with (first
          | (go_at_call 12; refine (HK.out _).mono ?_; rintro e w1 ⟨rfl, rfl⟩)
          | (at_builtin; refine wpList_append_own _ rfl _ _ 34 rfl w.heap.size 3 i0 (.int .i64 0) 1 8 Tryd.underlying34 hi0 hz0 hz1 hz2 rfl (by decide) _ _ _ rfl (HS.out.own.alloc _) ⟨w1.heap.size, 0, none⟩ 1 1 [.int .i64 q2] rfl rfl (new_oneS _ _ _) (one_i64 _) b1 b2 (by have := HS.out.lo.size; simp; omega) ?_; intro v1 w2 hown hgrow _; have HA := Lib.hid (HS.out.app hown hgrow); clear hown hgrow))
        go_roundw
        case rel => exact ⟨i + 1, _, by omega, by go_num, HRS.out, HA.out⟩
        case measure => first | omega | (simp [intOf]; done) | (simp [intOf]; omega)
      · rw [numsS_no (by rw [hq]; exact hk)] at hres
        have HRS := Lib.hid hres
        clear hr hS hcells hf hfs hdrop hq hres hs
        have hk2 : (q1 == k) = false := by rw [beq_eq_false_iff_ne]; exact hk
        go_wp2_with (go_at_call 12; refine (HK.out _).mono ?_; rintro e w1 ⟨rfl, rfl⟩)
        go_roundw
        case rel => exact ⟨i + 1, _, by omega, by go_num, HRS.out, HS.out⟩
        case measure => first | omega | (simp [intOf]; done) | (simp [intOf]; omega)
    · have hie : i = l.length := by omega
      subst hie
      rw [List.drop_length] at hres
      have HRS : Hid (RES = out) := by show _ = _; rw [hres]; simp [numsS]
      clear hr hS hlt hres hs
      go_wp2
      go_ret
      exact ⟨⟨_, rfl, by rw [HRS.out]; exact HS.out.own⟩, HS.out.lo⟩

end Go.Proofs.YtgdfnngfifjdmaaDoor

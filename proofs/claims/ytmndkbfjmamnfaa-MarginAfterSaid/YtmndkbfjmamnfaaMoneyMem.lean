/- Rows of digits in memory; great numbers; the contracts of the document's at, less, trim. -/
import Derived.Test.YtmndkbfjmamnfaaRows
import Derived.Test.YtmndkbfjmamnfaaBase
import Derived.Test.YtmndkbfjmamnfaaMoneyMath
namespace Go.Proofs.Ytmndkbfjmamnfaa
open Go.RowKit Base

/-- A row of digits from an address on. -/
def DigsAt (W : World) (a : Option Addr) (l : List Nat) : Prop := l = [] ∨ ∃ b off, a = some ⟨b, off, none⟩ ∧ b < W.heap.size ∧ ∀ (i d : Nat), l[i]? = some d → W.cell? ⟨b, off + i, none⟩ = some (.int .i64 (d : Int))
theorem DigsAt.below {W W' : World} {a : Option Addr} {l : List Nat} (h : DigsAt W a l) (hb : Below W.heap.size W W') : DigsAt W' a l := by
  rcases h with h | ⟨b, off, rfl, h1, h2⟩
  · exact .inl h
  · exact .inr ⟨b, off, rfl, Nat.lt_of_lt_of_le h1 hb.size, fun i t hi => (hb.cell (p := ⟨b, off + i, none⟩) h1).trans (h2 i t hi)⟩
theorem DigsAt.below' {B : Nat} {W W' : World} {a : Option Addr} {l : List Nat} (h : DigsAt W a l) (hB : B = W.heap.size) (hb : Below B W W') : DigsAt W' a l := by subst hB; exact h.below hb
theorem DigsAt.some {W : World} {a : Option Addr} {l : List Nat} (h : DigsAt W a l) (hl : 1 ≤ l.length) : ∃ b off, a = some ⟨b, off, none⟩ ∧ b < W.heap.size ∧ ∀ (i t : Nat), l[i]? = some t → W.cell? ⟨b, off + i, none⟩ = some (.int .i64 (t : Int)) := by
  rcases h with rfl | h
  · simp at hl
  · exact h
theorem DigsAt.take {W : World} {a : Option Addr} {l : List Nat} (h : DigsAt W a l) (s : Nat) : DigsAt W a (l.take s) := by
  rcases h with rfl | ⟨b, off, rfl, h1, h2⟩
  · exact .inl (by simp)
  · refine .inr ⟨b, off, rfl, h1, fun i t hi => h2 i t ?_⟩
    rw [List.getElem?_take] at hi
    by_cases hs : i < s
    · rwa [if_pos hs] at hi
    · rw [if_neg hs] at hi; cases hi
theorem getD_some {l : List Nat} {i : Nat} (hi : i < l.length) : l[i]? = some (l.getD i 0) := by
  rw [List.getD_eq_getElem?_getD, List.getElem?_eq_getElem hi]; rfl

/-- A great number as a value. -/
def BigIs (W : World) (v : Value) (z : Int) : Prop :=
  ∃ (neg : Bool) (a : Option Addr) (l : List Nat) (cap : Nat), v = .agg #[.bool neg, .slice a l.length cap] ∧ DigsAt W a l ∧ l.length ≤ cap ∧ digsD l ∧ topD l ∧ (neg = true → l ≠ []) ∧ z = sgn neg (valD l)
theorem BigIs.below {W W' : World} {v : Value} {z : Int} (h : BigIs W v z) (hb : Below W.heap.size W W') : BigIs W' v z := by
  obtain ⟨neg, a, l, cap, h1, h2, h3⟩ := h
  exact ⟨neg, a, l, cap, h1, h2.below hb, h3⟩
/-- A great number is returned. -/
def RetBig (B : Nat) (w : World) (z : Int) (e : Ending) (w' : World) : Prop :=
  ∃ (x : Bool) (a : Option Addr) (k cap : Nat), e = .returned (.agg #[.bool x, .slice a k cap]) ∧ BigIs w' (.agg #[.bool x, .slice a k cap]) z ∧ Below B w w'
/-- How long a number's row is. -/
theorem len_le {l : List Nat} (ht : topD l) (k : Nat) (hv : valD l < 10000 ^ k) : l.length ≤ k := by
  rcases List.eq_nil_or_concat l with rfl | ⟨m, d, rfl⟩
  · exact Nat.zero_le _
  · rw [List.concat_eq_append] at *
    have hd : d ≠ 0 := ht d (by simp)
    rw [valD_snoc] at hv
    rw [List.length_append, List.length_singleton]
    rcases Nat.lt_or_ge m.length k with h | h
    · omega
    · have h1 : 10000 ^ k ≤ 10000 ^ m.length := Nat.pow_le_pow_right (by omega) h
      have h2 := Nat.le_mul_of_pos_right (10000 ^ m.length) (show 0 < d by omega)
      omega

theorem at25 (a : Option Addr) (l : List Nat) (n cap i : Nat) (w : World) (hl : l.length = n) (h : DigsAt w a l) :
    Calls Try.prog 57 #[.slice a n cap, .int .i64 (i : Int)] w fun e w' => e = .returned (.int .i64 ((l.getD i 0 : Nat) : Int)) ∧ w = w' := by
  by_cases hi : (i : Int) < (n : Int)
  · obtain ⟨b, off, rfl, hb, hc⟩ := h.some (by omega)
    have c1 := hc i _ (getD_some (by omega))
    generalize l.getD i 0 = d at *
    clear h hc
    go_enter Try.func57, Try.ntmps57
    go_wp2
    go_ret
    exact ⟨rfl, rfl⟩
  · have e : l.getD i 0 = 0 := by rw [List.getD_eq_getElem?_getD, List.getElem?_eq_none (by omega)]; rfl
    rw [e]
    clear h
    go_enter Try.func57, Try.ntmps57
    go_wp2
    go_ret
    exact ⟨rfl, rfl⟩

theorem less27 (a a2 : Option Addr) (la lb : List Nat) (n m ca cb : Nat) (w : World) (hla : la.length = n) (hlb : lb.length = m) (ha : DigsAt w a la) (hb : DigsAt w a2 lb) (da : digsD la) (db : digsD lb) (hn : n ≤ 60000) (hm : m ≤ 60000) :
    Calls Try.prog 59 #[.slice a n ca, .slice a2 m cb] w fun e w' => e = .returned (.bool (decide (valD la < valD lb))) ∧ w = w' := by
  obtain ⟨v, hv⟩ : ∃ v, decide (valD la < valD lb) = v := ⟨_, rfl⟩
  rw [hv]
  have HA := Lib.hid (fun (i : Nat) => at25 a la n ca i w hla ha)
  have HB := Lib.hid (fun (i : Nat) => at25 a2 lb m cb i w hlb hb)
  have HV := Lib.hid hv
  have HLA := Lib.hid hla; have HLB := Lib.hid hlb; have DA := Lib.hid da; have DB := Lib.hid db
  obtain ⟨N, hN⟩ : ∃ N, N = max n m := ⟨_, rfl⟩
  have hN1 : n ≤ N := by omega
  have hN2 : m ≤ N := by omega
  have hN3 : N ≤ 60000 := by omega
  have hst : valD (la.drop N) = valD (lb.drop N) := by rw [List.drop_of_length_le (by omega), List.drop_of_length_le (by omega)]
  have HST := Lib.hid hst
  have hrel0 : ∀ z : Int, z + 1 = (N : Int) → ∃ k : Nat, ∃ z' : Int, z' + 1 = (k : Int) ∧ k ≤ N ∧ Value.int IntKind.i64 z = .int .i64 z' ∧ valD (la.drop k) = valD (lb.drop k) := fun z hz => ⟨N, z, hz, Nat.le_refl _, rfl, HST.out⟩
  have HR0 := Lib.hid hrel0
  clear hv ha hb hla hlb da db hst hrel0
  have hcs : ((m : Int) > (n : Int) ∧ N = m) ∨ (¬ (m : Int) > (n : Int) ∧ N = n) := by omega
  clear hN
  rcases hcs with ⟨hmn, hNm⟩ | ⟨hmn, hNm⟩
  all_goals
    go_enter Try.func59, Try.ntmps59
    go_upto_region 5 with (fail)
    go_loop [6] (fun v => ∃ k : Nat, ∃ z' : Int, z' + 1 = (k : Int) ∧ k ≤ N ∧ v = .int .i64 z' ∧ valD (la.drop k) = valD (lb.drop k)) (fun v => (intOf v + 1).toNat)
    case atStart => exact HR0.out _ (by omega)
    case round =>
      obtain ⟨k, z, hz, hk, rfl, hdr⟩ := hrel
      have HDR := Lib.hid hdr
      clear hdr
      by_cases hge : z ≥ 0
      · obtain ⟨j, rfl⟩ : ∃ j : Nat, z = (j : Int) := ⟨z.toNat, by omega⟩
        have hkj : k = j + 1 := by omega
        subst hkj
        have HAj := Lib.hid (HA.out j); have HBj := Lib.hid (HB.out j)
        have HLE := Lib.hid (fun hne => less_at DA.out DB.out j HDR.out hne)
        have HEQ := Lib.hid (show la.getD j 0 = lb.getD j 0 → valD (la.drop j) = valD (lb.drop j) from fun e => by rw [valD_drop la j, valD_drop lb j, e, HDR.out])
        obtain ⟨x, hx⟩ : ∃ x, la.getD j 0 = x := ⟨_, rfl⟩
        obtain ⟨y, hy⟩ : ∃ y, lb.getD j 0 = y := ⟨_, rfl⟩
        rw [hx] at HAj HLE HEQ
        rw [hy] at HBj HLE HEQ
        clear hx hy
        by_cases hxy : (x : Int) = (y : Int)
        · have hb0 : ((x : Int) != (y : Int)) = false := by simpa using hxy
          have HE := Lib.hid (HEQ.out (by omega))
          go_wp2_with (first
            | (go_at_call_of 57 (Value.slice a n ca); refine HAj.out.mono ?_; rintro e w' ⟨rfl, rfl⟩)
            | (go_at_call_of 57 (Value.slice a2 m cb); refine HBj.out.mono ?_; rintro e w' ⟨rfl, rfl⟩))
          go_round
          case rel => exact ⟨j, (j : Int) - 1, by omega, by omega, by go_num, HE.out⟩
          case measure => simp [intOf] <;> omega
        · have hb0 : ((x : Int) != (y : Int)) = true := by simpa using hxy
          have hvv : v = decide (x < y) := by
            rw [← HV.out]
            have := HLE.out (by omega)
            by_cases hl : x < y
            · rw [decide_eq_true (this.2 hl), decide_eq_true hl]
            · rw [decide_eq_false (fun h => hl (this.1 h)), decide_eq_false hl]
          subst hvv
          go_wp2_with (first
            | (go_at_call_of 57 (Value.slice a n ca); refine HAj.out.mono ?_; rintro e w' ⟨rfl, rfl⟩)
            | (go_at_call_of 57 (Value.slice a2 m cb); refine HBj.out.mono ?_; rintro e w' ⟨rfl, rfl⟩))
          go_ret
          exact ⟨rfl, rfl⟩
      · have hk0 : k = 0 := by omega
        subst hk0
        have hvf : v = false := by
          rw [← HV.out, decide_eq_false]
          have := HDR.out
          rw [List.drop_zero, List.drop_zero] at this
          omega
        subst hvf
        go_wp2
        go_ret
        exact ⟨rfl, rfl⟩

/-- How long the row in a number's box is. -/
def lenAt (W : World) (g : Nat) : Nat := match W.cell? ⟨g, 1, none⟩ with
  | some (.slice _ n _) => n
  | _ => 0
/-- A number's box. -/
def BoxAt (W : World) (g : Nat) (neg : Bool) (v : Value) : Prop := W.heap[g]? = some (.cells #[.bool neg, v] 71 (0, 0))
theorem BoxAt.c0 {W : World} {g : Nat} {neg : Bool} {v : Value} (h : BoxAt W g neg v) : W.cell? ⟨g, 0, none⟩ = some (.bool neg) := by rw [cell_of_row _ _ _ _ 71 (0, 0) h]; rfl
theorem BoxAt.c1 {W : World} {g : Nat} {neg : Bool} {v : Value} (h : BoxAt W g neg v) : W.cell? ⟨g, 1, none⟩ = some v := by rw [cell_of_row _ _ _ _ 71 (0, 0) h]; rfl
theorem BoxAt.f {W : World} {g : Nat} {neg : Bool} {v : Value} (h : BoxAt W g neg v) (i : Nat) : W.frozen? ⟨g, i, none⟩ = false := free_of_blkN h i
theorem BoxAt.set0 {W : World} {g : Nat} {neg : Bool} {v : Value} (h : BoxAt W g neg v) (b : Bool) : BoxAt (W.setCell ⟨g, 0, none⟩ (.bool b)) g b v := by
  have := set_blkN h 0 (.bool b); simpa [BoxAt] using this
theorem BoxAt.set1 {W : World} {g : Nat} {neg : Bool} {v : Value} (h : BoxAt W g neg v) (u : Value) : BoxAt (W.setCell ⟨g, 1, none⟩ u) g neg u := by
  have := set_blkN h 1 u; simpa [BoxAt] using this
theorem BoxAt.other {W : World} {g k i : Nat} {neg : Bool} {v u : Value} (h : BoxAt W g neg v) (hk : g ≠ k) : BoxAt (W.setCell ⟨k, i, none⟩ u) g neg v := (heap_setCell_ne u hk).trans h
theorem BoxAt.below {W W' : World} {g : Nat} {neg : Bool} {v : Value} (h : BoxAt W g neg v) (hb : Below W.heap.size W W') : BoxAt W' g neg v := (hb.block _ (lt_of_block h)).trans h
theorem BoxAt.new (W : World) (neg : Bool) (v : Value) : BoxAt (W.alloc (.cells #[.bool neg, v] 71)) W.heap.size neg v := heap_alloc_new W _
theorem info25 : (Try.prog.info? 71).map (·.size) = some 2 := by kernel_rfl

theorem BoxAt.new2 {w : World} (x y : Bool) (u v : Value) : BoxAt ((w.alloc (.cells #[.bool x, u] 71)).alloc (.cells #[.bool y, v] 71)) w.heap.size x u ∧ BoxAt ((w.alloc (.cells #[.bool x, u] 71)).alloc (.cells #[.bool y, v] 71)) (w.heap.size + 1) y v ∧ Below w.heap.size w ((w.alloc (.cells #[.bool x, u] 71)).alloc (.cells #[.bool y, v] 71)) := by
  have h := BoxAt.new (w.alloc (.cells #[.bool x, u] 71)) y v
  rw [show (w.alloc (.cells #[.bool x, u] 71)).heap.size = w.heap.size + 1 by simp] at h
  exact ⟨(BoxAt.new w x u).below ((Below.refl _ _).alloc (Nat.le_refl _) _), h, ((Below.refl _ w).alloc (Nat.le_refl _) _).alloc (by simp) _⟩
theorem one25 (b : Bool) (a : Option Addr) (n cap : Nat) : (#[.bool b, .slice a n cap] : Array Value).all (·.oneCell') = true := by simp [Value.oneCell']

set_option maxRecDepth 100000 in
theorem trim26 (neg : Bool) (a : Option Addr) (l : List Nat) (n cap : Nat) (w : World) (hl : l.length = n) (h : DigsAt w a l) (hcap : n ≤ cap) (hn : n ≤ 60000) :
    Calls Try.prog 58 #[.agg #[.bool neg, .slice a n cap]] w fun e w' => ∃ k, k ≤ n ∧ e = .returned (.agg #[.bool (neg && decide (k ≠ 0)), .slice a k cap]) ∧ valD (l.take k) = valD l ∧ topD (l.take k) ∧ Below w.heap.size w w' := by
  have HD := Lib.hid h; have HL := Lib.hid hl
  obtain ⟨B, hB⟩ : ∃ B, B = w.heap.size := ⟨_, rfl⟩
  have HB := Lib.hid hB
  rw [← hB]
  clear h hl hB
  go_enter Try.func58, Try.ntmps58
  go_upto_region 1 with (fail)
  rw [← HB.out]
  refine at_world (Φ := fun W => BoxAt W B neg (.slice a n cap) ∧ BoxAt W (B + 1) false (.slice none 0 0) ∧ Below B w W) (by rw [HB.out]; exact BoxAt.new2 _ _ _ _) ?_
  rintro W0 hW0
  have HW0 := Lib.hid hW0
  clear hW0
  go_loopw [] (fun W => ∃ k, k ≤ n ∧ BoxAt W B neg (.slice a k cap) ∧ BoxAt W (B + 1) false (.slice none 0 0) ∧ Below B w W ∧ valD (l.take k) = valD l) (fun W => lenAt W B)
  case atStart => exact ⟨n, Nat.le_refl _, HW0.out.1, HW0.out.2.1, HW0.out.2.2, by rw [← HL.out, List.take_length]⟩
  case round =>
    obtain ⟨k, hk, hb1, hb2, hbw, hv⟩ := hrel
    have HB1 := Lib.hid hb1; have HB2 := Lib.hid hb2; have HBW := Lib.hid hbw; have HV := Lib.hid hv
    have c1 := hb1.c1
    clear hb1 hb2 hbw hv
    by_cases hk0 : k = 0
    · subst hk0
      have HB1' := Lib.hid (HB1.out.set0 false)
      have HB2' := Lib.hid (HB2.out.other (u := .bool false) (i := 0) (show B + 1 ≠ B by omega))
      have HBW' := Lib.hid (HBW.out.setCell (p := ⟨B, 0, none⟩) (Nat.le_refl _) (.bool false))
      have c0 := HB1.out.c0
      have f0 := HB1.out.f 0
      go_upto_region 5 with (fail)
      go_wp2_with (first
        | (refine wpList_load_row rfl 71 (.tmp 1) rfl B rfl 71 #[.bool false, .slice a 0 cap] (0, 0) _ HB1'.out Try.underlying71 rfl info25 ?_)
        | (refine wpList_store_row rfl 71 (.tmp 2) (.tmp 31) rfl (B + 1) #[.bool false, .slice a 0 cap] rfl rfl 71 #[.bool false, .slice none 0 0] HB2'.out info25 rfl (one25 _ _ _ _) ?_))
      refine ret_cell rfl rfl rfl (setRow_heap _ _ _ _ 71 (0, 0) HB2'.out) Try.underlying71 rfl info25 ⟨0, by omega, by simp, HV.out, by simpa using topD_nil, below_rowB HBW'.out (by omega)⟩
    · obtain ⟨j, rfl⟩ : ∃ j, k = j + 1 := ⟨k - 1, by omega⟩
      obtain ⟨b, off, rfl, hbl, hc⟩ := HD.out.some (by rw [HL.out]; omega)
      have hcj := hc j _ (getD_some (by rw [HL.out]; omega))
      have cj := ((HBW.out.cell (p := ⟨b, off + j, none⟩) (by rw [HB.out]; exact hbl))).trans hcj
      have HTS := Lib.hid (valD_take_succ l j)
      have HSN := Lib.hid (show l.take (j + 1) = l.take j ++ [l.getD j 0] by
        rw [List.take_add_one, getD_some (by rw [HL.out]; omega)]; rfl)
      obtain ⟨d, hd⟩ : ∃ d, l.getD j 0 = d := ⟨_, rfl⟩
      rw [hd] at cj HTS HSN
      clear hc hcj hd hbl
      have q1 : ¬ cap < j := by omega
      have q2 : (j : Int) ≤ (cap : Int) := by omega
      have f1 := HB1.out.f 1
      by_cases hd0 : d = 0
      · subst hd0
        go_wp2
        go_roundw
        case rel => exact ⟨j, by omega, HB1.out.set1 _, HB2.out.other (by omega), HBW.out.setCell (p := ⟨B, 1, none⟩) (Nat.le_refl _) _, by rw [← HV.out, HTS.out, Nat.mul_zero, Nat.add_zero]⟩
        case measure => simp [lenAt, c1, (HB1.out.set1 (.slice (some ⟨b, off, none⟩) j cap)).c1]
      · have hb0 : ((d : Int) == 0) = false := by simpa using hd0
        go_upto_region 5 with (fail)
        go_wp2_with (first
          | (refine wpList_load_row rfl 71 (.tmp 1) rfl B rfl 71 #[.bool neg, .slice (some ⟨b, off, none⟩) (j + 1) cap] (0, 0) _ HB1.out Try.underlying71 rfl info25 ?_)
          | (refine wpList_store_row rfl 71 (.tmp 2) (.tmp 31) rfl (B + 1) #[.bool neg, .slice (some ⟨b, off, none⟩) (j + 1) cap] rfl rfl 71 #[.bool false, .slice none 0 0] HB2.out info25 rfl (one25 _ _ _ _) ?_))
        refine ret_cell rfl rfl rfl (setRow_heap _ _ _ _ 71 (0, 0) HB2.out) Try.underlying71 rfl info25 ⟨j + 1, hk, by simp, HV.out, by rw [HSN.out]; exact topD_snoc hd0, below_rowB HBW.out (by omega)⟩
/-- What a box holds is no digit. -/
theorem DigsAt.apart {W : World} {a : Option Addr} {l : List Nat} (h : DigsAt W a l) {g : Nat} {neg : Bool} {x : Option Addr} {k c : Nat} (hb : BoxAt W g neg (.slice x k c)) : l = [] ∨ ∃ b off, a = Option.some ⟨b, off, none⟩ ∧ b ≠ g ∧ b < W.heap.size ∧ ∀ (i d : Nat), l[i]? = Option.some d → W.cell? ⟨b, off + i, none⟩ = Option.some (.int .i64 (d : Int)) := by
  rcases h with h | ⟨b, off, rfl, h1, h2⟩
  · exact .inl h
  · rcases l with _ | ⟨d, l⟩
    · exact .inl rfl
    · refine .inr ⟨b, off, rfl, ?_, h1, h2⟩
      rintro rfl
      have h3 := h2 0 d rfl
      rw [cell_of_row _ _ _ _ 71 (0, 0) hb] at h3
      rcases off with _ | _ | off <;> simp at h3
theorem DigsAt.boxRow {W : World} {a : Option Addr} {l : List Nat} (h : DigsAt W a l) {g : Nat} {neg : Bool} {x : Option Addr} {k c : Nat} (hb : BoxAt W g neg (.slice x k c)) (cs : Array Value) : DigsAt (W.setRow g cs) a l := by
  rcases h.apart hb with h | ⟨b, off, rfl, h0, h1, h2⟩
  · exact .inl h
  · refine .inr ⟨b, off, rfl, by simpa using h1, fun i d hi => ?_⟩
    rw [← h2 i d hi]
    exact World.cell?_of_block (by rw [setRow_other _ _ _ _ h0])
theorem DigsAt.boxCell {W : World} {a : Option Addr} {l : List Nat} (h : DigsAt W a l) {g i : Nat} {neg : Bool} {x : Option Addr} {k c : Nat} (hb : BoxAt W g neg (.slice x k c)) (u : Value) : DigsAt (W.setCell ⟨g, i, none⟩ u) a l := by
  rcases h.apart hb with h | ⟨b, off, rfl, h0, h1, h2⟩
  · exact .inl h
  · refine .inr ⟨b, off, rfl, by simpa [World.setCell] using h1, fun i d hi => ?_⟩
    rw [← h2 i d hi]
    exact World.cell?_of_block (heap_setCell_ne u h0)
theorem BigIs.boxRow {W : World} {v : Value} {z : Int} (h : BigIs W v z) {g : Nat} {neg : Bool} {x : Option Addr} {k c : Nat} (hb : BoxAt W g neg (.slice x k c)) (cs : Array Value) : BigIs (W.setRow g cs) v z := by
  obtain ⟨n, a, l, cap, h1, h2, h3⟩ := h
  exact ⟨n, a, l, cap, h1, h2.boxRow hb cs, h3⟩
theorem BigIs.boxCell {W : World} {v : Value} {z : Int} (h : BigIs W v z) {g i : Nat} {neg : Bool} {x : Option Addr} {k c : Nat} (hb : BoxAt W g neg (.slice x k c)) (u : Value) : BigIs (W.setCell ⟨g, i, none⟩ u) v z := by
  obtain ⟨n, a, l, cap, h1, h2, h3⟩ := h
  exact ⟨n, a, l, cap, h1, h2.boxCell hb u, h3⟩
/-- Digits as cells. -/
def cellsD (l : List Nat) : List Value := l.map fun d : Nat => Value.int .i64 (d : Int)
theorem cellsD_app (l m : List Nat) : cellsD (l ++ m) = cellsD l ++ cellsD m := by simp [cellsD]
theorem digs_of_own {w : World} {base : Nat} {v : Value} {l : List Nat} (h : w.ownsRow base 3 1 v l.length (cellsD l)) : ∃ a cap, v = .slice a l.length cap ∧ l.length ≤ cap ∧ cap ≤ maxLen ∧ DigsAt w a l := by
  rcases h.2 with ⟨rfl, h0⟩ | ⟨g, cap, cur, rfl, h1, h2, h3, h4, h5, h6⟩
  · have : l = [] := List.eq_nil_of_length_eq_zero (by omega)
    subst this
    exact ⟨none, 0, rfl, Nat.le_refl _, by unfold maxLen; omega, .inl rfl⟩
  · refine ⟨some ⟨g, 0, none⟩, cap, rfl, h3, h4, .inr ⟨g, 0, rfl, lt_of_block h2, fun i t hi => ?_⟩⟩
    have := h.cells (g := g) rfl i (.int .i64 (t : Int)) (by simp [cellsD, hi])
    rwa [Addr.add_mid] at this
theorem info3 : (Try.prog.info? 3).map (fun i => (i.zero, i.size, i.bytes)) = some (some (.int .i64 0), 1, 8) := by kernel_rfl
theorem one_cell_int (d : Int) : ∀ u ∈ [Value.int .i64 d], u.oneCell' = true := by
  intro u hu; simp at hu; subst hu; rfl
end Go.Proofs.Ytmndkbfjmamnfaa

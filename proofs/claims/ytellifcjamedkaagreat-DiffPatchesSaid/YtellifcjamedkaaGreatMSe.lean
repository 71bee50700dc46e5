/- What is laid keeps its bounds; plain. The document's set of any change that may be; a book stays small. The document's Patch: the contract. -/
import Derived.Test.YtellifcjamedkaaGreatMDq
import Derived.Test.YtellifcjamedkaaGreatMPt
import Derived.Test.YtellifcjamedkaaGreatMSa
import Derived.Test.YtellifcjamedkaaGreatDfSetD
namespace Go.Proofs.YtellifcjamedkaaGreat
open Go.RowKit Base Base2
theorem in6_zero : in6 0 := ⟨by decide, by decide⟩
theorem key_in {v : List Int} (h : ∀ z ∈ v, in6 z) (i : Nat) : in6 (key i v) := by
  unfold key
  rw [List.getD_eq_getElem?_getD]
  cases hi : v[i]? with
  | none => exact in6_zero
  | some z => exact h z (List.mem_of_getElem? hi)
structure InR (r : RowT) : Prop where
  a : in6 r.a
  b : in6 r.b
  v : ∀ z ∈ r.v, in6 z
structure InB (b : BookT) : Prop where
  h : ∀ x ∈ b.hs, ∀ z ∈ x, in6 z
  s : ∀ x ∈ b.ss, ∀ z ∈ x, in6 z
  o : ∀ x ∈ b.os, ∀ z ∈ x, in6 z
  r : ∀ x ∈ b.rs, ∀ z ∈ x, in6 z
  co : in6 b.co
theorem lay_in {b : BookT} {r : RowT} (h : InB b) (hr : InR r) : InB (layB b r) := by
  have k := key_in hr.v
  have all : ∀ {l : List Int}, (∀ z ∈ l, in6 z) → ∀ z ∈ l, in6 z := fun h => h
  unfold layB
  split
  · refine ⟨mem_snoc h.h ?_, h.s, h.o, h.r, h.co⟩
    intro z hz
    simp only [List.mem_cons, List.not_mem_nil, or_false] at hz
    rcases hz with rfl | rfl | rfl | rfl
    · exact hr.a
    · exact k 0
    · exact k 1
    · exact k 2
  split
  · refine ⟨h.h, mem_snoc h.s ?_, h.o, h.r, h.co⟩
    intro z hz
    simp only [List.mem_cons, List.not_mem_nil, or_false] at hz
    rcases hz with rfl | rfl | rfl
    · exact hr.a
    · exact hr.b
    · exact k 0
  split
  · refine ⟨h.h, h.s, mem_snoc h.o ?_, h.r, h.co⟩
    intro z hz
    simp only [List.mem_cons, List.not_mem_nil, or_false] at hz
    rcases hz with rfl | rfl | rfl | rfl | rfl | rfl
    · exact hr.a
    · exact k 0
    · exact k 1
    · exact k 2
    · exact k 3
    · exact k 4
  split
  · refine ⟨h.h, h.s, h.o, mem_snoc h.r ?_, h.co⟩
    intro z hz
    simp only [List.mem_cons, List.not_mem_nil, or_false] at hz
    rcases hz with rfl | rfl
    · exact hr.a
    · exact k 0
  · exact ⟨h.h, h.s, h.o, h.r, k 0⟩
theorem fold_in : ∀ (L : List RowT) {b : BookT}, InB b → (∀ r ∈ L, InR r) → InB (L.foldl layB b)
  | [], _, h, _ => h
  | r :: L, _, h, hr => fold_in L (lay_in h (hr r (List.mem_cons_self ..))) (fun y hy => hr y (List.mem_cons_of_mem _ hy))
theorem rows_in {m : Nat} {b : BookT} (h : BookOk m b) : ∀ r ∈ rowsD b, InR r := fun r hr => by
  unfold rowsD at hr
  simp only [List.mem_append, List.mem_map, List.mem_singleton] at hr
  rcases hr with ⟨x, hx, rfl⟩ | ⟨x, hx, rfl⟩ | ⟨x, hx, rfl⟩ | ⟨x, hx, rfl⟩ | rfl
  · have k := key_in (h.hs.2 x hx).2
    refine ⟨k 0, in6_zero, fun z hz => ?_⟩
    simp only [rwH, List.mem_cons, List.not_mem_nil, or_false] at hz
    rcases hz with rfl | rfl | rfl <;> exact k _
  · have k := key_in (h.ss.2 x hx).2
    refine ⟨k 0, k 1, fun z hz => ?_⟩
    simp only [rwS, List.mem_cons, List.not_mem_nil, or_false] at hz
    rcases hz with rfl; exact k _
  · have k := key_in (h.os.2 x hx).2
    refine ⟨k 0, in6_zero, fun z hz => ?_⟩
    simp only [rwO, List.mem_cons, List.not_mem_nil, or_false] at hz
    rcases hz with rfl | rfl | rfl | rfl | rfl <;> exact k _
  · have k := key_in (h.rs.2 x hx).2
    refine ⟨k 0, in6_zero, fun z hz => ?_⟩
    simp only [rwR, List.mem_cons, List.not_mem_nil, or_false] at hz
    rcases hz with rfl; exact k _
  · refine ⟨in6_zero, in6_zero, fun z hz => ?_⟩
    simp only [rwC, List.mem_cons, List.not_mem_nil, or_false] at hz
    rcases hz with rfl; exact h.co
theorem rows_few2 {m : Nat} {b : BookT} (h : BookOk m b) : (rowsD b).length ≤ 4 * m + 1 := by
  have h1 := h.hs.1
  have h2 := h.ss.1
  have h3 := h.os.1
  have h4 := h.rs.1
  unfold rowsD
  simp only [List.length_append, List.length_map, List.length_cons, List.length_nil]
  omega
theorem lay_ok {a : BookT} {l : List ChT} (ka : BookOk 200 a) (hl : ∀ c ∈ l, in6 c.a ∧ in6 c.b ∧ ∀ z ∈ c.now, in6 z) (hn : l.length ≤ 100) : BookOk 2000 (layAll (sideP a l)) := by
  have h1 := layAll_len (sideP a l)
  have h2 : (sideP a l).length ≤ 1000 := by
    have h3 := beside_len keyT keyC (rowsD a) l
    have h4 := rows_few2 ka
    unfold sideP
    omega
  have hin : InB (layAll (sideP a l)) := by
    refine fold_in _ ⟨fun x hx => (by cases hx), fun x hx => (by cases hx), fun x hx => (by cases hx), fun x hx => (by cases hx), in6_zero⟩ (fun r hr => ?_)
    rcases rowsP_mem (xs := rowsD a) (l := l) r hr with h | ⟨c, hc, rfl, _⟩
    · exact rows_in ka r h
    · have := hl c hc
      exact ⟨this.1, this.2.1, this.2.2⟩
  have hln : LenB (layAll (sideP a l)) := fold_len4 _ ⟨fun x hx => (by cases hx), fun x hx => (by cases hx), fun x hx => (by cases hx), fun x hx => by cases hx⟩
  exact ⟨⟨by omega, fun x hx => ⟨hln.h x hx, hin.h x hx⟩⟩, ⟨by omega, fun x hx => ⟨hln.s x hx, hin.s x hx⟩⟩, ⟨by omega, fun x hx => ⟨hln.o x hx, hin.o x hx⟩⟩, ⟨by omega, fun x hx => ⟨hln.r x hx, hin.r x hx⟩⟩, hin.co⟩
end Go.Proofs.YtellifcjamedkaaGreat
namespace Go.Proofs.YtellifcjamedkaaGreat
open Go.RowKit Base Base2
theorem vals_of {l : Int} {v : List Int} (h : valuesT l v = true) : v = [] ∧ l ≠ 5 ∨ v.length = allT l := by
  unfold valuesT at h
  by_cases e : v = []
  · rw [if_pos e] at h
    exact .inl ⟨e, by simpa using h⟩
  · rw [if_neg e] at h
    simp only [Bool.and_eq_true, beq_iff_eq] at h
    exact .inr h.1
theorem one_now {c : ChT} (h : mayOne c = true) : (1 ≤ c.l ∧ c.l ≤ 5) ∧ valuesT c.l c.now = true := by
  unfold mayOne at h
  simp only [Bool.and_eq_true, decide_eq_true_eq] at h
  exact ⟨⟨h.1.1.1.1.1.1, h.1.1.1.1.1.2⟩, h.1.1.1.2⟩
theorem rset35 (v : Slots) (b : BookT) (A1 A2 : Option Addr) (C1 C2 nx : Nat) (c : ChT) (w : World) (hb : BookIn w v b) (hk : BookOk 900 b) (h1 : mayOne c = true) (ha6 : in6 c.a) (hb6 : in6 c.b) (hy : I64s w A2 c.now) :
    Calls Tryz.prog 35 #[.agg (cellsB v b), .agg #[.int .i64 c.l, .int .i64 c.a, .int .i64 c.b, .slice A1 nx C1, .slice A2 c.now.length C2]] w (BookAns w (setChT b c)) := by
  obtain ⟨⟨hl1, hl5⟩, hv⟩ := one_now h1
  obtain ⟨l, xa, xb, xv, xn⟩ := c
  dsimp only at *
  have hl : l = 1 ∨ l = 2 ∨ l = 3 ∨ l = 4 ∨ l = 5 := by omega
  rcases vals_of hv with ⟨rfl, h5⟩ | hn
  · rcases hl with rfl | rfl | rfl | rfl | rfl
    · exact set_1n v b A1 A2 C1 C2 nx xa xb xv w hb hk
    · exact set_2n v b A1 A2 C1 C2 nx xa xb xv w hb hk ha6 hb6
    · exact set_3n v b A1 A2 C1 C2 nx xa xb xv w hb hk
    · exact set_4n v b A1 A2 C1 C2 nx xa xb xv w hb hk
    · exact absurd rfl h5
  · rcases hl with rfl | rfl | rfl | rfl | rfl
    · match xn, hn, hy with
      | [y0, y1, y2], _, hy => exact set_1y v b A1 A2 C1 C2 nx xa xb xv y0 y1 y2 w hb hk hy
    · match xn, hn, hy with
      | [y0], _, hy => exact set_2y v b A1 A2 C1 C2 nx xa xb xv y0 w hb hk ha6 hb6 hy
    · match xn, hn, hy with
      | [y0, y1, y2, y3, y4], _, hy => exact set_3y v b A1 A2 C1 C2 nx xa xb xv y0 y1 y2 y3 y4 w hb hk hy
    · match xn, hn, hy with
      | [y0], _, hy => exact set_4y v b A1 A2 C1 C2 nx xa xb xv y0 w hb hk hy
    · match xn, hn, hy with
      | [y0], _, hy => exact set_5 v b A1 A2 C1 C2 nx xa xb xv y0 w hb hk hy
theorem ItemsOk.but {k m : Nat} {l : List Item} (f : Item → Bool) (h : ItemsOk k m l) : ItemsOk k m (l.filter f) := ⟨Nat.le_trans (List.length_filter_le ..) h.1, fun x hx => h.2 x (List.mem_filter.1 hx).1⟩
theorem BookOk.up {m n : Nat} {b : BookT} (h : BookOk m b) (hm : m ≤ n) : BookOk n b := ⟨h.hs.le hm, h.ss.le hm, h.os.le hm, h.rs.le hm, h.co⟩
theorem pad_in {v : List Int} (h : ∀ z ∈ v, in6 z) (i : Nat) : in6 (key i (padV v)) := by
  unfold padV
  split
  · exact key_in (fun z hz => by simp only [List.mem_cons, List.mem_nil_iff, or_false, or_self] at hz; rw [hz]; exact in6_zero) i
  · exact key_in h i
theorem stake_ok {m : Nat} {b : BookT} {x y z : Int} (h : BookOk m b) (hx : in6 x) (hy : in6 y) (hz : in6 z) : BookOk (m + 1) (setStakeT b [x, y, z]) :=
  ⟨h.hs.le (by omega), setL_ok h.ss ⟨rfl, fun u hu => by simp only [List.mem_cons, List.mem_nil_iff, or_false] at hu; rcases hu with rfl | rfl | rfl <;> assumption⟩, h.os.le (by omega), h.rs.le (by omega), h.co⟩
theorem neg_ok {m : Nat} {b : BookT} (h : BookOk m b) (p : Prop) [Decidable p] : BookOk m (if p then { b with co := -1 } else b) := by
  split
  · exact ⟨h.hs, h.ss, h.os, h.rs, ⟨show (-9223372036854775808 : Int) ≤ -1 by decide, show (-1 : Int) ≤ 9223372036854775807 by decide⟩⟩
  · exact h
theorem setch_ok {m : Nat} {b : BookT} {c : ChT} (h : BookOk m b) (ha : in6 c.a) (hb : in6 c.b) (hn : ∀ z ∈ c.now, in6 z) : BookOk (m + 2) (setChT b c) := by
  have K := key_in hn
  have KP := pad_in hn
  unfold setChT
  by_cases l1 : c.l = 1
  · rw [if_pos l1]
    split
    · exact ⟨(h.hs.but _).le (by omega), h.ss.le (by omega), h.os.le (by omega), h.rs.le (by omega), h.co⟩
    · exact ⟨(setL_ok (h.hs.but _) ⟨rfl, fun u hu => by simp only [List.mem_cons, List.mem_nil_iff, or_false] at hu; rcases hu with rfl | rfl | rfl | rfl <;> first | exact ha | exact K _⟩).le (by omega), h.ss.le (by omega), h.os.le (by omega), h.rs.le (by omega), h.co⟩
  · rw [if_neg l1]
    by_cases l2 : c.l = 2
    · rw [if_pos l2]
      exact stake_ok (neg_ok (stake_ok h ha hb in6_zero) _) ha hb (KP 0)
    · rw [if_neg l2]
      by_cases l3 : c.l = 3
      · rw [if_pos l3]
        have h2 := neg_ok h (c.now ≠ [] ∧ key 3 c.now = 0)
        exact ⟨h2.hs.le (by omega), h2.ss.le (by omega), (setL_ok h2.os ⟨rfl, fun u hu => by simp only [List.mem_cons, List.mem_nil_iff, or_false] at hu; rcases hu with rfl | rfl | rfl | rfl | rfl | rfl <;> first | exact ha | exact KP _⟩).le (by omega), h2.rs.le (by omega), h2.co⟩
      · rw [if_neg l3]
        by_cases l4 : c.l = 4
        · rw [if_pos l4]
          split
          · exact ⟨h.hs.le (by omega), h.ss.le (by omega), h.os.le (by omega), (h.rs.but _).le (by omega), h.co⟩
          · exact ⟨h.hs.le (by omega), h.ss.le (by omega), h.os.le (by omega), (setL_ok (h.rs.but _) ⟨rfl, fun u hu => by simp only [List.mem_cons, List.mem_nil_iff, or_false] at hu; rcases hu with rfl | rfl <;> first | exact ha | exact K _⟩).le (by omega), h.co⟩
        · rw [if_neg l4]
          split
          · split
            · exact ⟨h.hs.le (by omega), h.ss.le (by omega), h.os.le (by omega), h.rs.le (by omega), KP 0⟩
            · exact h.up (by omega)
          · exact h.up (by omega)
end Go.Proofs.YtellifcjamedkaaGreat
namespace Go.Proofs.YtellifcjamedkaaGreat
open Go.RowKit Base Base2
open List renaming getElem_toArray → lgT, getElem_cons_zero → lgZ, getElem_cons_succ → lgS, setIfInBounds_toArray → lsT, set_cons_zero → lsZ, set_cons_succ → lsS
/-- What the document's Patch answers. -/
def RPatOut (w : World) (r : BookT × Int) (e : Ending) (w' : World) : Prop := (∃ v', e = .returned (.tuple #[.agg (cellsB v' r.1), .int .i64 r.2]) ∧ BookIn w' v' r.1) ∧ Below w.heap.size w w'
structure PatW (w : World) (gb : Nat) (v : Slots) (b : BookT) (W : World) : Prop where
  bx : BoxB W gb v b
  rz : W.heap[w.heap.size + 1]? = some (.cells #[.slice none 0 0, .slice none 0 0, .slice none 0 0, .slice none 0 0, .int .i64 0] 27 (0, 0))
  lo : Below w.heap.size w W
  inn : BookIn W v b
theorem PatW.below {w W W' : World} {gb : Nat} {v : Slots} {b : BookT} (h : PatW w gb v b W) (hb : Below W.heap.size W W') : PatW w gb v b W' :=
  ⟨(hb.block _ (lt_of_blk h.bx)).trans h.bx, (hb.block _ (lt_of_blk h.rz)).trans h.rz, h.lo.trans (hb.mono h.lo.size), h.inn.below hb⟩
theorem PatW.put {w W : World} {gb : Nat} {v v' : Slots} {b b' : BookT} (h : PatW w gb v b W) (hi : BookIn W v' b') (hk : LenB b') (hgb : w.heap.size + 1 < gb) : PatW w gb v' b' (W.setRow gb (cellsB v' b')) :=
  ⟨setRow_heap _ _ _ _ _ _ h.bx, (setRow_ne _ (by omega)).trans h.rz, h.lo.trans (((TurnsK.refl (fun k _ => k = gb) W).setRow h.bx rfl _).lo h.lo.size (fun k ob hk a => by omega)), book_but hi hk h.bx (by simp) (fun i hi _ => setRow_ne _ hi)⟩
theorem pat_end {w W : World} {v' : Slots} {b' : BookT} {n : Int} (hlo : Below w.heap.size w W) (hin : BookIn W v' b') (hk : LenB b') (hr : W.heap[w.heap.size + 1]? = some (.cells #[.slice none 0 0, .slice none 0 0, .slice none 0 0, .slice none 0 0, .int .i64 0] 27 (0, 0))) :
    (W.setRow (w.heap.size + 1) (cellsB v' b')).heap[w.heap.size + 1]? = some (.cells (cellsB v' b') 27 (0, 0)) ∧ RPatOut w (b', n) (.returned (.tuple #[.agg (cellsB v' b'), .int .i64 n])) (W.setRow (w.heap.size + 1) (cellsB v' b')) :=
  ⟨setRow_heap _ _ _ _ _ _ hr, ⟨⟨v', rfl, book_but hin hk (v := v') (u := zeroV) (d := zeroD) (hr : W.heap[w.heap.size + 1]? = some (.cells (cellsB zeroV zeroD) 27 (0, 0))) (by simp) (fun i hi _ => setRow_ne _ hi)⟩, hlo.trans (((TurnsK.refl (fun k _ => k = w.heap.size + 1) W).setRow hr rfl _).lo hlo.size (fun k ob hk a => by omega))⟩⟩
theorem rw_box {B : Nat} {W0 W : World} {o : List RowV} {v : Value} (h : RwS B W0 o v W) (hp : 0 < o.length) : ∃ g p, v = .slice (some ⟨g, 0, none⟩) o.length p ∧ g < W.heap.size := by
  rcases h.row.2 with ⟨rfl, hn⟩ | ⟨g, cap, cur, rfl, _, hg, _⟩
  · omega
  · exact ⟨g, cap, rfl, lt_of_blk hg⟩
theorem FrX.cell' {g q j : Nat} {W W' : World} (h : FrX g W W') (hq : q ≠ g) (hl : q < W.heap.size) : W'.cell? ⟨q, j, none⟩ = W.cell? ⟨q, j, none⟩ :=
  World.cell?_of_block (a := ⟨q, j, none⟩) (by show W'.heap[q]? = W.heap[q]?; rw [h.same q (W.heap[q]) hq (by simp [hl])]; simp [hl])
theorem rows_short (b : BookT) : ∀ r ∈ rowsD b, r.v.length ≤ 5 := fun r hr => by
  unfold rowsD at hr
  simp only [List.mem_append, List.mem_map, List.mem_cons, List.mem_nil_iff, or_false] at hr
  rcases hr with ⟨x, _, rfl⟩ | ⟨x, _, rfl⟩ | ⟨x, _, rfl⟩ | ⟨x, _, rfl⟩ | rfl
  · show 3 ≤ 5; omega
  · show 1 ≤ 5; omega
  · show 5 ≤ 5; omega
  · show 1 ≤ 5; omega
  · show 1 ≤ 5; omega
theorem rows_pos (b : BookT) : 0 < (rowsD b).length := by
  unfold rowsD
  simp only [List.length_append, List.length_cons, List.length_nil]
  omega
theorem rp_no {a : BookT} {l : List ChT} {i : Nat} {c : ChT} (hi : l[i]? = some c) (h : valueT (rowsD a) c ≠ c.was) : refPatch a l = (zeroD, 7) := by
  unfold refPatch
  rw [patchGo_all, if_neg]
  intro h2
  have := List.all_eq_true.1 h2 c (List.mem_of_getElem? hi)
  exact h (by simpa using this)
theorem rp_end {a b : BookT} {l : List ChT} (h : ∀ c ∈ l, valueT (rowsD a) c = c.was) (hf : l.foldl setChT a = b) : refPatch a l = if mayT b then (b, 0) else (zeroD, 1) := by
  unfold refPatch
  rw [patchGo_all, if_pos (List.all_eq_true.2 (fun c hc => by simpa using h c hc)), hf]
theorem ChF.load {w : World} {L : List ChV} {g o i : Nat} {x : ChV} (h : ChF w (some ⟨g, o, none⟩) L) (hx : L[i]? = some x) (W : World) (hb : Below w.heap.size w W) : (Instr.loadAt 43 (.pointer (some ⟨g, o + i * 5, none⟩))).run Tryz.prog W = .ok (.agg #[.int .i64 x.c.l, .int .i64 x.c.a, .int .i64 x.c.b, .slice x.a1 x.c.was.length x.c1, .slice x.a2 x.c.now.length x.c2]) W ∧ W.cell? ⟨g, o + i * 5 + 3, none⟩ = some (.slice x.a1 x.c.was.length x.c1) := by
  obtain ⟨g', o', ha, k0, k1, k2, k3, k4⟩ := h.c W hb i x hx
  obtain ⟨rfl, rfl⟩ : g = g' ∧ o = o' := by simpa using ha
  exact ⟨load_chF k0 k1 k2 k3 k4, k3⟩
set_option maxRecDepth 100000 in
set_option maxHeartbeats 16000000 in
theorem rpatch16 (v : Slots) (a : BookT) (la : Option Addr) (lc : Nat) (L : List ChV) (w : World) (ha : BookIn w v a) (ka : BookOk 200 a) (hch : ChF w la L) (hone : ∀ x ∈ L, mayOne x.c = true) (hin : ∀ x ∈ L, in6 x.c.a ∧ in6 x.c.b ∧ ∀ z ∈ x.c.now, in6 z) (hm : L.length ≤ 100) :
    Calls Tryz.prog 16 #[.agg (cellsB v a), .slice la L.length lc] w (RPatOut w (refPatch a (L.map ChV.c))) := by
  obtain ⟨W0, hW0⟩ : ∃ x, (w.alloc (.cells (cellsB v a) 27)).alloc (.cells #[.slice none 0 0, .slice none 0 0, .slice none 0 0, .slice none 0 0, .int .i64 0] 27) = x := ⟨_, rfl⟩
  have hA : Below w.heap.size w W0 := by rw [← hW0]; exact ((Below.refl _ w).alloc (Nat.le_refl _) _).alloc (by simp) _
  have hs0 : W0.heap.size = w.heap.size + 2 := by rw [← hW0]; simp
  have hN := two_new (W := w) (O := .cells (cellsB v a) 27) (P := (.cells #[.slice none 0 0, .slice none 0 0, .slice none 0 0, .slice none 0 0, .int .i64 0] 27))
  rw [hW0] at hN
  have hg1 : BoxB W0 w.heap.size v a := hN.1
  have HRS := Lib.hid (rrows28 v a W0 (ha.below hA) (ka.up (by omega)))
  have HBK := Lib.hid (fun W (h : Below W0.heap.size W0 W) => load_book (hg1.below h (lt_of_blk hg1)))
  have HRZ := Lib.hid (fun W (h : Below W0.heap.size W0 W) => (h.block _ (lt_of_blk hN.2)).trans hN.2)
  have HA := Lib.hid hA
  have HS0 := Lib.hid hs0
  have HAI := Lib.hid (fun W (h : Below w.heap.size w W) => ha.below h)
  have HKA := Lib.hid ka
  have HCH := Lib.hid hch
  have HON := Lib.hid (fun i x (h : L[i]? = some x) => hone x (List.mem_of_getElem? h))
  have HIN := Lib.hid (fun i x (h : L[i]? = some x) => hin x (List.mem_of_getElem? h))
  obtain ⟨n, hn⟩ : ∃ n, L.length = n := ⟨_, rfl⟩
  have HNN := Lib.hid hn
  have HNX := Lib.hid (show ∀ i, i < n → ∃ x, L[i]? = some x from fun i h => ⟨L[i]'(by omega), by simp [show i < L.length by omega]⟩)
  rw [hn] at hm ⊢
  clear ha ka hch hone hin hn hA hN hg1 hs0
  go_enter Tryz.func16, Tryz.ntmps16
  go_upto_region 2 with (first | ((with_reducible refine atLoadS (ty := 27) (x := .tmp 2) rfl ?_); refine loadE (by rfl) 27 (.tmp 2) rfl _ (.agg (cellsB v a)) rfl (HBK.out _ (Below.refl _ _)) ?_) | (go_at_call 33; refine HRS.out.mono ?_; rintro e w1 ⟨vo, ox, rfl, hrs, hox⟩; have HRW := Lib.hid hrs; have HOX := Lib.hid hox; clear hrs hox))
  clear hW0 HRS
  obtain ⟨gx, px, rfl, hgx⟩ := rw_box HRW.out (by have h := rows_pos a; rw [← HOX.out, List.length_map] at h; exact h)
  have HGX := Lib.hid hgx
  have hsz1 := HRW.out.lo.size
  have HB1 := Lib.hid (show Below w.heap.size w w1 from HA.out.trans (HRW.out.lo.mono HA.out.size))
  have HSG := Lib.hid (show w.heap.size + 1 < w1.heap.size by have := HS0.out; omega)
  have h8 : ox.length ≤ 8001 := by
    have h := rows_few2 HKA.out
    rw [← HOX.out, List.length_map] at h
    omega
  obtain ⟨nx, hnx⟩ : ∃ m, ox.length = m := ⟨_, rfl⟩
  have HNXX := Lib.hid hnx
  have HNQ := Lib.hid hnx
  rw [hnx] at h8 ⊢
  have HL8 := Lib.hid h8
  have hz : (w1.alloc (.cells #[.slice none 0 0, .slice none 0 0, .slice none 0 0, .slice none 0 0, .int .i64 0] 27)).heap[w1.heap.size]? = some (.cells #[.slice none 0 0, .slice none 0 0, .slice none 0 0, .slice none 0 0, .int .i64 0] 27 (0, 0)) := heap_alloc_new w1 _
  have HZ := Lib.hid hz
  clear hz hgx hnx h8
  go_upto_region 3 with (first | ((with_reducible refine atLoadS (ty := 27) (x := .tmp 2) rfl ?_); refine loadE (by rfl) 27 (.tmp 2) rfl _ (.agg (cellsB v a)) rfl (HBK.out _ HRW.out.lo) ?_) | ((with_reducible refine atStoreP (ty := 27) (x := .tmp 7) (y := .tmp 11) rfl ?_); refine wpList_store_row rfl 27 (.tmp 7) (.tmp 11) rfl w1.heap.size (cellsB v a) rfl rfl 27 _ HZ.out info27 rfl (by simp [cellsB, Value.oneCell']) ?_))
  refine at_world (Φ := fun W => PatW w w1.heap.size v a W ∧ Below w1.heap.size w1 W) ⟨⟨setRow_heap _ _ _ _ _ _ HZ.out, (setRow_ne _ (by have := HSG.out; omega)).trans ((Below.heap_alloc _ _ _ (by have := HSG.out; omega)).trans (HRZ.out _ HRW.out.lo)), (HB1.out.alloc HB1.out.size _).trans (((TurnsK.refl (fun k _ => k = w1.heap.size) _).setRow HZ.out rfl _).lo (by simp; exact Nat.le_succ_of_le HB1.out.size) (fun k ob hk a => by have := HB1.out.size; omega)), ?_⟩, ?_⟩ ?_
  · exact HAI.out _ ((HB1.out.alloc HB1.out.size _).trans (((TurnsK.refl (fun k _ => k = w1.heap.size) _).setRow HZ.out rfl _).lo (by simp; exact Nat.le_succ_of_le HB1.out.size) (fun k ob hk a => by have := HB1.out.size; omega)))
  · exact ((Below.refl _ w1).alloc (Nat.le_refl _) _).trans (((TurnsK.refl (fun k _ => k = w1.heap.size) _).setRow HZ.out rfl _).lo (by simp) (fun k ob hk a => by omega))
  rintro W2 ⟨hpw, hb12⟩
  have HPW := Lib.hid hpw
  have HCL := Lib.hid (fun W (h : FrX w1.heap.size W2 W) (i : Nat) (x : RowV) (hx : ox[i]? = some x) => show W.cell? ⟨gx, i * 4, none⟩ = some (.int .i64 x.r.l) ∧ W.cell? ⟨gx, i * 4 + 1, none⟩ = some (.int .i64 x.r.a) ∧ W.cell? ⟨gx, i * 4 + 2, none⟩ = some (.int .i64 x.r.b) ∧ W.cell? ⟨gx, i * 4 + 3, none⟩ = some (.slice x.a x.r.v.length x.c) by
    have hne : gx ≠ w1.heap.size := by have := HGX.out; omega
    have hlt : gx < W2.heap.size := by have := HGX.out; have := hb12.size; omega
    rw [h.cell' hne hlt, h.cell' hne hlt, h.cell' hne hlt, h.cell' hne hlt]
    exact (HRW.out.below hb12).at hx rfl)
  have HVA := Lib.hid (fun W (h : FrX w1.heap.size W2 W) (x : RowV) (hx : x ∈ ox) => show ValAt W x.a x.r.v from (HRW.out.val x hx).keep (fun k cs hk => h.same k _ (by have := lt_of_blk hk; omega) ((hb12.block _ (lt_of_blk hk)).trans hk)))
  have HVS := Lib.hid (fun (x : RowV) (hx : x ∈ ox) => show x.r.v.length ≤ 5 from rows_short a x.r (by rw [← HOX.out]; exact List.mem_map_of_mem hx))
  have hal : w.heap.size ≤ w1.heap.size := HB1.out.size
  have HAL := Lib.hid hal
  generalize w1.heap.size = gb at *
  clear HRZ HBK HRW HNXX HZ HGX HB1 HA HS0 hpw hb12 hal hsz1 HAI
  go_wp2
  go_loopw [8] (fun vi W => ∃ (i : Nat) (vb : Slots) (b : BookT), vi = .int .i64 (i : Int) ∧ i ≤ n ∧ ((∀ c ∈ (L.map ChV.c).take i, valueT (rowsD a) c = c.was) ∧ ((L.map ChV.c).take i).foldl setChT a = b ∧ BookOk (200 + 2 * i) b) ∧ PatW w gb vb b W ∧ FrX gb W2 W) (fun vi _ => n - (intOf vi).toNat)
  case atStart => exact ⟨0, v, a, rfl, Nat.zero_le _, ⟨fun c hc => by simp at hc, by simp, HKA.out⟩, HPW.out, FrX.refl _ _⟩
  case round =>
    clear HPW
    obtain ⟨i, vb, b, rfl, hi, hmy, hpw, hfr⟩ := hrel
    have HMY := Lib.hid hmy
    have HPW := Lib.hid hpw
    have HFR := Lib.hid hfr
    clear hmy hpw hfr
    by_cases hlt : i < n
    case neg =>
      have hin : i = n := by omega
      subst hin
      have hre : refPatch a (L.map ChV.c) = if mayT b then (b, 0) else (zeroD, 1) := by
        have h := HMY.out
        rw [List.take_of_length_le (by rw [List.length_map, HNN.out]; omega)] at h
        exact rp_end h.1 h.2.1
      have HKB := Lib.hid (HMY.out.2.2.up (show 200 + 2 * i ≤ 2000 by omega))
      have HM := Lib.hid (may10 vb b wr HPW.out.inn HKB.out)
      have HLD := Lib.hid (load_book HPW.out.bx)
      cases hmt : mayT b with
      | false =>
        have HRE := Lib.hid (show refPatch a (L.map ChV.c) = (zeroD, 1) by rw [hre, hmt]; rfl)
        rw [hmt] at HM
        clear hmt hre
        go_wp2_with (first | ((with_reducible refine atLoadS (ty := 27) (x := .tmp 7) rfl ?_); refine loadE (by rfl) 27 (.tmp 7) rfl _ (.agg (cellsB vb b)) rfl HLD.out ?_) | (go_at_call 13; refine HM.out.mono ?_; rintro e w7 ⟨rfl, hb7⟩; have HB7 := Lib.hid hb7; have HP7 := Lib.hid (HPW.out.below hb7); clear hb7) | ((with_reducible refine atStoreP (ty := 27) (x := .tmp 4) (y := .tmp 41) rfl ?_); refine wpList_store_row rfl 27 (.tmp 4) (.tmp 41) rfl (w.heap.size + 1) (cellsB zeroV zeroD) rfl rfl 27 _ HP7.out.rz info27 rfl (by simp [cellsB, zeroV, zeroD, Value.oneCell']) ?_))
        obtain ⟨e1, e2⟩ := pat_end (v' := zeroV) (b' := zeroD) (n := 1) HP7.out.lo (zero_in _) ⟨fun x hx => by simp [zeroD] at hx, fun x hx => by simp [zeroD] at hx, fun x hx => by simp [zeroD] at hx, fun x hx => by simp [zeroD] at hx⟩ HP7.out.rz
        refine ret_cell_tmp rfl rfl rfl rfl e1 Tryz.underlying27 rfl info27 ?_
        rw [HRE.out]
        exact e2
      | true =>
        have HRE := Lib.hid (show refPatch a (L.map ChV.c) = (b, 0) by rw [hre, hmt]; rfl)
        rw [hmt] at HM
        clear hmt hre
        go_wp2_with (first | (have hq := HP7.out; clear hq; (with_reducible refine atLoadS (ty := 27) (x := .tmp 7) rfl ?_); refine loadE (by rfl) 27 (.tmp 7) rfl _ (.agg (cellsB vb b)) rfl (load_book HP7.out.bx) ?_) | ((with_reducible refine atLoadS (ty := 27) (x := .tmp 7) rfl ?_); refine loadE (by rfl) 27 (.tmp 7) rfl _ (.agg (cellsB vb b)) rfl HLD.out ?_) | (go_at_call 13; refine HM.out.mono ?_; rintro e w7 ⟨rfl, hb7⟩; have HB7 := Lib.hid hb7; have HP7 := Lib.hid (HPW.out.below hb7); clear hb7) | ((with_reducible refine atStoreP (ty := 27) (x := .tmp 4) (y := .tmp 42) rfl ?_); refine wpList_store_row rfl 27 (.tmp 4) (.tmp 42) rfl (w.heap.size + 1) (cellsB vb b) rfl rfl 27 _ HP7.out.rz info27 rfl (by simp [cellsB, Value.oneCell']) ?_))
        obtain ⟨e1, e2⟩ := pat_end (v' := vb) (b' := b) (n := 0) HP7.out.lo HP7.out.inn (len_ok HKB.out) HP7.out.rz
        refine ret_cell_tmp rfl rfl rfl rfl e1 Tryz.underlying27 rfl info27 ?_
        rw [HRE.out]
        exact e2
    obtain ⟨x, hx⟩ := HNX.out i hlt
    obtain ⟨g, o, ha, _⟩ := HCH.out.c wr HPW.out.lo i x hx
    subst ha
    have HLD := Lib.hid (fun W h => HCH.out.load hx W h)
    have HXV := Lib.hid (fun W (h : Below w.heap.size w W) => (HCH.out.below h).v x (List.mem_of_getElem? hx))
    have HXO := Lib.hid (HON.out i x hx)
    have HXI := Lib.hid (HIN.out i x hx)
    have HPX := Lib.hid (riseAt hx)
    clear hx
    obtain ⟨⟨xl, xa, xb, xv, yv⟩, A1, C1, A2, C2⟩ := x
    dsimp only at HLD HXV HXO HXI HPX
    have HVL := Lib.hid (fun W (h : Below wr.heap.size wr W) => rvalue34 gx nx px ox xl xa xb (.slice A1 xv.length C1) (.slice A2 yv.length C2) xv yv W HNQ.out HL8.out (fun W' h' => HCL.out W' (HFR.out.trans ((FrX.below h).trans (FrX.below h')))))
    rw [HOX.out] at HVL
    have hvi : ∀ (W : World) (_ : Below wr.heap.size wr W) (vv : List Int) (VA : Option Addr) (_ : vv = [] ∨ ∃ r ∈ ox, VA = r.a ∧ vv = r.r.v), ValAt W VA vv ∧ vv.length ≤ 1000000 := fun W h vv VA hq => by
      rcases hq with rfl | ⟨r, hr, rfl, rfl⟩
      · exact ⟨.inl rfl, by simp⟩
      · exact ⟨HVA.out W (HFR.out.trans (FrX.below h)) r hr, by have := HVS.out r hr; omega⟩
    have HSM := Lib.hid (fun (VA : Option Addr) (vv : List Int) (vc : Nat) (W : World) (h : Below wr.heap.size wr W) (_ : vv = valueT (rowsD a) ⟨xl, xa, xb, xv, yv⟩) (hq : vv = [] ∨ ∃ r ∈ ox, VA = r.a ∧ vv = r.r.v) => rsame12 VA A1 vv xv vc C1 W (hvi W h vv VA hq).1.i64s (HXV.out W (HPW.out.lo.trans (h.mono HPW.out.lo.size))).1 (hvi W h vv VA hq).2)
    clear hvi
    obtain ⟨z1, hz1⟩ : ∃ z, xv.length = z := ⟨_, rfl⟩
    obtain ⟨z2, hz2⟩ : ∃ z, yv.length = z := ⟨_, rfl⟩
    have HZ1 := Lib.hid hz1
    have HZ2 := Lib.hid hz2
    rw [hz1, hz2] at HLD HVL
    rw [hz1] at HSM
    clear hz1 hz2
    go_upto_region 6 with (fail)
    refine wp_region_held_drew (S := fun W => Below w.heap.size w W) (by kernel_rfl) (HPW.out.lo.drew) (fun hS => ?_)
    refine wpAnyH_take (i := 0) (v := .slice (some ⟨gx, 0, none⟩) nx px) rfl (by kernel_rfl) (by kernel_rfl) (by kernel_rfl) (fun _ _ _ h => h) (Or.inl ⟨by simp [Region.wanted], fun W _ => by go_simp⟩) hS ?_
    simp only [lgT, lgZ, Act.put, lsT, lsZ, lsS]
    refine wpAnyH_take (i := 1) (v := .slice (some ⟨g, o, none⟩) n lc) rfl (by kernel_rfl) (by kernel_rfl) (by kernel_rfl) (fun _ _ _ h => h) (Or.inl ⟨by simp [Region.wanted], fun W _ => by go_simp⟩) hS ?_
    simp only [lgT, lgZ, lgS, Act.put, lsT, lsZ, lsS]
    refine wpAnyH_take (i := 2) (v := .int .i64 (i : Int)) rfl (by kernel_rfl) (by kernel_rfl) (by kernel_rfl) (fun _ _ _ h => h) (Or.inl ⟨by simp [Region.wanted], fun W _ => by go_simp⟩) hS ?_
    simp only [lgT, lgZ, lgS, Act.put, lsT, lsZ, lsS]
    refine wpAnyH_take (i := 3) (v := .pointer (some ⟨g, o + i * 5, none⟩)) rfl (by kernel_rfl) (by kernel_rfl) (by kernel_rfl) (fun _ _ _ h => h) (Or.inl ⟨by simp [Region.wanted], fun W _ => by go_simp⟩) hS ?_
    simp only [lgT, lgZ, lgS, Act.put, lsT, lsZ, lsS]
    refine wpAnyH_take (i := 4) (v := .agg #[.int .i64 xl, .int .i64 xa, .int .i64 xb, .slice A1 z1 C1, .slice A2 z2 C2]) rfl (by kernel_rfl) (by kernel_rfl) (by kernel_rfl) (fun _ _ _ h => h) (yields_atD (by rfl) 43 (.tmp 21) rfl (.pointer (some ⟨g, o + i * 5, none⟩)) _ rfl (fun W hW => (HLD.out W hW).1)) hS ?_
    simp only [lgT, lgZ, lgS, Act.put, lsT, lsZ, lsS]
    refine wpAnyH_take (i := 6) (v := .slice (some ⟨g, o, none⟩) n lc) rfl (by kernel_rfl) (by kernel_rfl) (by kernel_rfl) (fun _ _ _ h => h) (Or.inl ⟨by simp [Region.wanted], fun W _ => by go_simp⟩) hS ?_
    simp only [lgT, lgZ, lgS, Act.put, lsT, lsZ, lsS]
    refine wpAnyH_take (i := 7) (v := .int .i64 (i : Int)) rfl (by kernel_rfl) (by kernel_rfl) (by kernel_rfl) (fun _ _ _ h => h) (Or.inl ⟨by simp [Region.wanted], fun W _ => by go_simp⟩) hS ?_
    simp only [lgT, lgZ, lgS, Act.put, lsT, lsZ, lsS]
    refine wpAnyH_take (i := 8) (v := .pointer (some ⟨g, o + i * 5, none⟩)) rfl (by kernel_rfl) (by kernel_rfl) (by kernel_rfl) (fun _ _ _ h => h) (Or.inl ⟨by simp [Region.wanted], fun W _ => by go_simp⟩) hS ?_
    simp only [lgT, lgZ, lgS, Act.put, lsT, lsZ, lsS]
    refine wpAnyH_take (i := 9) (v := .pointer (some ⟨g, o + i * 5 + 3, none⟩)) rfl (by kernel_rfl) (by kernel_rfl) (by kernel_rfl) (fun _ _ _ h => h) (Or.inl ⟨by simp [Region.wanted], fun W _ => by go_simp⟩) hS ?_
    simp only [lgT, lgZ, lgS, Act.put, lsT, lsZ, lsS]
    refine wpAnyH_take (i := 10) (v := .slice A1 z1 C1) rfl (by kernel_rfl) (by kernel_rfl) (by kernel_rfl) (fun _ _ _ h => h) (Or.inl ⟨by simp [Region.wanted], fun W hW => by have kc := (HLD.out W hW).2; go_simp⟩) hS ?_
    simp only [lgT, lgZ, lgS, Act.put, lsT, lsZ, lsS]
    refine wpAnyH_ready (rs := [5]) (by kernel_rfl) (by simp) ?_
    refine AllReadyH.cons rfl (fun K1 hK1 => ?_) AllReadyH.nil
    refine wanted_go rfl ?_
    simp only [lgT, lgZ, lgS]
    go_wp2_with (go_at_call 34; refine (HVL.out _ ((Below.refl _ wr).drew)).mono ?_; rintro e w9 ⟨VA, vv, vc, rfl, hvv, hva, hb9⟩; have HB9 := Lib.hid (((Below.refl _ wr).drew : Below wr.heap.size wr wr.drew).trans hb9); have HVV := Lib.hid hvv; have HVQ := Lib.hid hva; clear hvv hva hb9)
    refine hK1.out _ _ (HPW.out.lo.trans (HB9.out.mono HPW.out.lo.size)) (fun hS1 => ?_)
    refine wpAnyH_ready (rs := [11]) (by kernel_rfl) (by simp) ?_
    refine AllReadyH.cons rfl (fun K2 hK2 => ?_) AllReadyH.nil
    refine wanted_go rfl ?_
    simp only [lgT, lgZ, lgS]
    go_wp2_with (go_at_call 28; refine (HSM.out VA vv vc w9 HB9.out HVV.out HVQ.out).mono ?_; rintro e w6 ⟨rfl, kk, hkk⟩; have hb6 : Below w9.heap.size w9 w6 := (by rw [hkk]; exact below_drews kk); have HB6 := Lib.hid (HB9.out.trans (hb6.mono HB9.out.size)); clear hkk hb6)
    refine hK2.out _ _ (HPW.out.lo.trans (HB6.out.mono HPW.out.lo.size)) (fun hS2 => ?_)
    refine wpAnyH_take (i := 12) (v := .bool (!decide (vv = xv))) rfl (by kernel_rfl) (by kernel_rfl) (by kernel_rfl) (fun _ _ _ h => h) (Or.inl ⟨by simp [Region.wanted], fun W _ => by go_simp⟩) hS2 ?_
    simp only [lgT, lgZ, lgS, Act.put, lsT, lsZ, lsS]
    refine wpAnyH_done (by kernel_rfl) ?_ _
    by_cases heq : vv = xv
    case neg =>
      have HRE := Lib.hid (show refPatch a (L.map ChV.c) = (zeroD, 7) from rp_no HPX.out (fun h => heq (HVV.out.trans h)))
      have g0 : decide (vv = xv) = false := decide_eq_false heq
      have HP6 := Lib.hid (HPW.out.below HB6.out)
      rw [g0]
      clear heq g0 hS hS1 hS2
      go_wp2_with (first | ((with_reducible refine atStoreP (ty := 27) (x := .tmp 4) (y := .tmp 31) rfl ?_); refine wpList_store_row rfl 27 (.tmp 4) (.tmp 31) rfl (w.heap.size + 1) (cellsB zeroV zeroD) rfl rfl 27 _ HP6.out.rz info27 rfl (by simp [cellsB, zeroV, zeroD, Value.oneCell']) ?_))
      obtain ⟨e1, e2⟩ := pat_end (v' := zeroV) (b' := zeroD) (n := 7) HP6.out.lo (zero_in _) ⟨fun x hx => by simp [zeroD] at hx, fun x hx => by simp [zeroD] at hx, fun x hx => by simp [zeroD] at hx, fun x hx => by simp [zeroD] at hx⟩ HP6.out.rz
      refine ret_cell_tmp rfl rfl rfl rfl e1 Tryz.underlying27 rfl info27 ?_
      rw [HRE.out]
      exact e2
    case pos =>
      have g0 : decide (vv = xv) = true := decide_eq_true heq
      have hrl : (∀ c ∈ (L.map ChV.c).take (i + 1), valueT (rowsD a) c = c.was) ∧ ((L.map ChV.c).take (i + 1)).foldl setChT a = setChT b ⟨xl, xa, xb, xv, yv⟩ ∧ BookOk (200 + 2 * (i + 1)) (setChT b ⟨xl, xa, xb, xv, yv⟩) := by
        obtain ⟨m1, m2, m3⟩ := HMY.out
        rw [show (L.map ChV.c).take (i + 1) = (L.map ChV.c).take i ++ [⟨xl, xa, xb, xv, yv⟩] by rw [List.take_add_one, HPX.out]; rfl]
        refine ⟨fun c hc => ?_, ?_, ?_⟩
        · rcases List.mem_append.1 hc with h | h
          · exact m1 c h
          · rw [List.mem_singleton.1 h]; exact HVV.out.symm.trans heq
        · rw [List.foldl_append, m2]; rfl
        · exact (setch_ok m3 HXI.out.1 HXI.out.2.1 HXI.out.2.2).up (by omega)
      have HRL := Lib.hid hrl
      have HP6 := Lib.hid (HPW.out.below HB6.out)
      have HFR6 := Lib.hid (HFR.out.trans (FrX.below HB6.out))
      have HCT := Lib.hid (rset35 vb b A1 A2 C1 C2 z1 ⟨xl, xa, xb, xv, yv⟩ w6.drew (HP6.out.inn.below (Below.refl _ _).drew) (HMY.out.2.2.up (by omega)) HXO.out HXI.out.1 HXI.out.2.1 (HXV.out _ (HP6.out.lo.drew)).2)
      dsimp only at HCT
      rw [HZ2.out] at HCT
      rw [g0]
      clear heq g0 hrl hS hS1 hS2
      have hlk : LenB (setChT b ⟨xl, xa, xb, xv, yv⟩) := len_ok HRL.out.2.2
      go_upto_region 8 with (fail)
      refine wp_region_held_drew (S := fun W => Below w.heap.size w W) (by kernel_rfl) (HP6.out.lo.drew) (fun hS => ?_)
      refine wpAnyH_take (i := 1) (v := .slice (some ⟨g, o, none⟩) n lc) rfl (by kernel_rfl) (by kernel_rfl) (by kernel_rfl) (fun _ _ _ h => h) (Or.inl ⟨by simp [Region.wanted], fun W _ => by go_simp⟩) hS ?_
      simp only [lgT, lgZ, lgS, Act.put, lsT, lsZ, lsS]
      refine wpAnyH_take (i := 2) (v := .int .i64 (i : Int)) rfl (by kernel_rfl) (by kernel_rfl) (by kernel_rfl) (fun _ _ _ h => h) (Or.inl ⟨by simp [Region.wanted], fun W _ => by go_simp⟩) hS ?_
      simp only [lgT, lgZ, lgS, Act.put, lsT, lsZ, lsS]
      refine wpAnyH_take (i := 3) (v := .pointer (some ⟨g, o + i * 5, none⟩)) rfl (by kernel_rfl) (by kernel_rfl) (by kernel_rfl) (fun _ _ _ h => h) (Or.inl ⟨by simp [Region.wanted], fun W _ => by go_simp⟩) hS ?_
      simp only [lgT, lgZ, lgS, Act.put, lsT, lsZ, lsS]
      refine wpAnyH_take (i := 4) (v := .agg #[.int .i64 xl, .int .i64 xa, .int .i64 xb, .slice A1 z1 C1, .slice A2 z2 C2]) rfl (by kernel_rfl) (by kernel_rfl) (by kernel_rfl) (fun _ _ _ h => h) (yields_atD (by rfl) 43 (.tmp 35) rfl (.pointer (some ⟨g, o + i * 5, none⟩)) _ rfl (fun W hW => (HLD.out W hW).1)) hS ?_
      simp only [lgT, lgZ, lgS, Act.put, lsT, lsZ, lsS]
      refine wpAnyH_ready (rs := [0]) (by kernel_rfl) (by simp) ?_
      refine AllReadyH.cons rfl (fun K0 hK0 => ?_) AllReadyH.nil
      refine wanted_go rfl ?_
      simp only [lgT, lgZ]
      have hld0 := load_book (W := w6.drew) (show BoxB w6.drew gb vb b from HP6.out.bx)
      refine wp_load_known 27 (.tmp 7) rfl (.pointer (some ⟨gb, 0, none⟩)) _ rfl hld0 ?_
      refine hK0.out _ _ HP6.out.lo.drew (fun q0 => ?_)
      refine wpAnyH_ready (rs := [5]) (by kernel_rfl) (by simp) ?_
      refine AllReadyH.cons rfl (fun K1 hK1 => ?_) AllReadyH.nil
      refine wanted_go rfl ?_
      simp only [lgT, lgZ, lgS]
      go_wp2_with (go_at_call 35; refine HCT.out.mono ?_; rintro e w8 ⟨⟨v9, rfl, hi9⟩, hb9⟩; have HI9 := Lib.hid hi9; have HB9' := Lib.hid (((Below.refl _ w6).drew : Below w6.heap.size w6 w6.drew).trans hb9); clear hi9 hb9)
      have hs9 := HP6.out.below HB9'.out
      refine hK1.out _ _ hs9.lo (fun q1 => ?_)
      refine wpAnyH_ready (rs := [6]) (by kernel_rfl) (by simp) ?_
      refine AllReadyH.cons rfl (fun K2 hK2 => ?_) AllReadyH.nil
      refine wanted_go rfl ?_
      simp only [lgT, lgZ, lgS]
      refine wp_store_row 27 (.tmp 7) (.tmp 37) rfl gb (cellsB v9 (setChT b ⟨xl, xa, xb, xv, yv⟩)) rfl rfl 27 _ hs9.bx info27 rfl (by simp [cellsB, Value.oneCell']) ?_
      have hp9 := hs9.put HI9.out hlk HSG.out
      have HP9 := Lib.hid hp9
      have HF9 := Lib.hid ((HFR6.out.trans (FrX.below HB9'.out)).trans (FrX.row (cellsB v9 (setChT b ⟨xl, xa, xb, xv, yv⟩))))
      refine hK2.out _ _ hp9.lo (fun q2 => ?_)
      refine wpAnyH_done (by kernel_rfl) ?_ _
      clear hs9 hp9 q0 q1 q2 hld0 hS
      go_wp2
      go_roundw
      case rel => exact ⟨i + 1, v9, _, by go_num, hlt, HRL.out, HP9.out, HF9.out⟩
      case measure => simp [intOf]; omega
end Go.Proofs.YtellifcjamedkaaGreat

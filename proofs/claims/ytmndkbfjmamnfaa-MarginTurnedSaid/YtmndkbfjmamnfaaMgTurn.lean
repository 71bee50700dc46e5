/- A book with its stakes turned about: plain. -/
import Derived.Test.YtmndkbfjmamnfaaMgLaws
import Derived.Test.YtmndkbfjmamnfaaBkSet
namespace Go.Proofs.Ytmndkbfjmamnfaa
open Go.RowKit Go.Shelf Base Base2

def turnI (x : Item) : Item := [key 0 x, key 1 x, -key 2 x]
def turnB (b : BookT) : BookT := ⟨b.hs, b.ss.map turnI, b.os, b.rs, b.co⟩
def bareB (b : BookT) : BookT := ⟨b.hs, [], b.os, b.rs, b.co⟩
theorem ex_turn (b : BookT) (a : Int) : ∀ l : List Item, sumI (exW (turnB b)) (ofAcc 0 a (l.map turnI)) = sumI (exW b) (ofAcc 0 a l)
  | [] => rfl
  | x :: l => by
    have ih := ex_turn b a l
    have e : exW (turnB b) (turnI x) = exW b x := by
      show (((-key 2 x) * rateOf b (key 1 x)).natAbs : Int) = ((key 2 x * rateOf b (key 1 x)).natAbs : Int)
      rw [Int.neg_mul, Int.natAbs_neg]
    unfold ofAcc sumI at ih ⊢
    rw [List.map_cons, List.filter_cons, List.filter_cons, show key 0 (turnI x) = key 0 x from rfl]
    cases h : (key 0 x == a)
    · simpa using ih
    · simp only [if_true, List.map_cons, List.sum_cons, e, ih]
theorem exT_turn (b : BookT) (a q p : Int) : exT (turnB b) a q p = exT b a q p := by
  unfold exT
  rw [show (turnB b).ss = b.ss.map turnI from rfl, ex_turn b a b.ss]
  rfl
theorem rise_turn : ∀ l : List Item, riseL lt2 (l.map turnI) = riseL lt2 l
  | [] => rfl
  | [_] => rfl
  | x :: y :: r => by
    have ih := rise_turn (y :: r)
    rw [List.map_cons] at ih
    rw [List.map_cons, List.map_cons, riseL_two, riseL_two, ih]
    rfl
theorem stake_turn (b : BookT) (x : Item) : stakeT (turnB b) (turnI x) = stakeT b x := by
  show ((-key 2 x != 0) && thereT b (key 0 x) (key 1 x)) = ((key 2 x != 0) && thereT b (key 0 x) (key 1 x))
  have : (-key 2 x != 0) = (key 2 x != 0) := by
    generalize key 2 x = q
    by_cases h : q = 0
    · subst h; rfl
    · rw [bne_iff_ne.2 h, bne_iff_ne.2 (show -q ≠ 0 by omega)]
  rw [this]
theorem may_turn (b : BookT) : mayT (turnB b) = mayT b := by
  have h1 : (turnB b).ss.all (stakeT (turnB b)) = b.ss.all (stakeT b) := by
    rw [show (turnB b).ss = b.ss.map turnI from rfl, List.all_map]
    congr 1
    funext x
    exact stake_turn b x
  have h2 : riseT (turnB b) = riseT b := by
    unfold riseT
    rw [show (turnB b).ss = b.ss.map turnI from rfl, rise_turn]
    rfl
  unfold mayT
  rw [h1, h2]
  rfl
theorem may_bare {b : BookT} (h : mayT b = true) : mayT (bareB b) = true := by
  simp only [mayT, riseT, Bool.and_eq_true] at h ⊢
  obtain ⟨⟨⟨⟨⟨⟨⟨⟨h1, h2⟩, h3⟩, _⟩, h5⟩, h6⟩, h7⟩, _⟩, h9⟩ := h
  exact ⟨⟨⟨⟨⟨⟨⟨⟨h1, h2⟩, h3⟩, rfl⟩, h5⟩, h6⟩, h7⟩, rfl⟩, h9⟩
theorem eq_bare (b : BookT) (a : Int) : eqT (bareB b) a = cashOf b a := by
  show cashOf b a + 0 = cashOf b a
  rw [Int.add_zero]
theorem ok_bare {b : BookT} (h : BookOk 2000 b) : BookOk 2000 (bareB b) := ⟨h.hs, ⟨Nat.zero_le _, fun x hx => by cases hx⟩, h.os, h.rs, h.co⟩
theorem ok_turn {b : BookT} (h : BookOk 2000 b) (hn : ∀ x ∈ b.ss, key 2 x ≠ -9223372036854775808) : BookOk 2000 (turnB b) := by
  refine ⟨h.hs, ⟨?_, fun x hx => ?_⟩, h.os, h.rs, h.co⟩
  · show (b.ss.map turnI).length ≤ 2000
    rw [List.length_map]; exact h.ss.1
  · obtain ⟨y, hy, rfl⟩ := List.mem_map.1 hx
    have h0 := key_in h.ss hy 0
    have h1 := key_in h.ss hy 1
    have h2 := key_in h.ss hy 2
    have h3 := hn y hy
    refine ⟨rfl, fun z hz => ?_⟩
    unfold In64' at h0 h1 h2
    have hz2 : z = key 0 y ∨ z = key 1 y ∨ z = -key 2 y := by simpa [turnI] using hz
    rcases hz2 with rfl | rfl | rfl
    · exact ⟨h0.1, h0.2⟩
    · exact ⟨h1.1, h1.2⟩
    · exact ⟨by omega, by omega⟩
theorem fit_64 {z : Int} (h : In64' z) : fitV z = z ∧ fitB z = true := ⟨(fit_yes h).2, (fit_yes h).1⟩
theorem own_neM {W : World} {B n sz : Nat} {e : TypeId} {v : Value} {xs : List Value} (h : W.ownsRow B e sz v n xs) {k : Nat} {cs : Array Value} {t : TypeId} {fz : Nat × Nat} (hk : W.heap[k]? = some (.cells cs t fz)) (ht : t ≠ e) : some k ≠ v.ownBlock := by
  rcases h.2 with ⟨rfl, _⟩ | ⟨g, cap, cur, rfl, _, h2, _⟩
  · simp [Value.ownBlock]
  · intro e'
    obtain rfl : k = g := by simpa [Value.ownBlock] using e'
    rw [hk] at h2
    cases h2
    exact ht rfl
theorem own_turnM {W W' : World} {B n : Nat} {e : TypeId} {sz : Nat} {v : Value} {xs : List Value} {T : Nat → Obj → Prop} (h : W.ownsRow B e sz v n xs) (hT : NoT [e] T) (ht : TurnsK T W W') : W'.ownsRow B e sz v n xs := by
  refine ⟨h.1, ?_⟩
  rcases h.2 with h0 | ⟨g, cap, cur, rfl, h1, h2, h3⟩
  · exact .inl h0
  · exact .inr ⟨g, cap, cur, rfl, h1, hT.at ht h2 (by simp), h3⟩
/-- The turned book's box, and its stakes that are being made. -/
structure TurnS (gd : Nat) (W0 : World) (ca cb cc cd : Value) (o : List Item) (vs : Value) (W : World) : Prop where
  bx : W.heap[gd]? = some (.cells #[ca, vs, cb, cc, cd] 27 (0, 0))
  st : SetSt gd W0 43 3 o vs W
theorem TurnS.below {gd : Nat} {W0 : World} {ca cb cc cd : Value} {o : List Item} {vs : Value} {W W' : World} (h : TurnS gd W0 ca cb cc cd o vs W) (hb : Below W.heap.size W W') : TurnS gd W0 ca cb cc cd o vs W' :=
  ⟨(hb.block _ (blk_ltK h.bx)).trans h.bx, own_turnM h.st.row (NoT.false _) (TurnsK.below hb), h.st.lo.trans (hb.mono h.st.sz), Nat.le_trans h.st.sz hb.size⟩
/-- Behind an append, and the store. -/
theorem TurnS.put {gd : Nat} {W0 : World} {ca cb cc cd : Value} {o : List Item} {vs v' : Value} {W w2 : World} {ob : Obj} {x : Item} (h : TurnS gd W0 ca cb cc cd o vs W) (hr : w2.ownsRow gd 43 3 v' (o.length + 1) (flatI o ++ x.map (Value.int .i64))) (hg : (W.alloc ob).grownBy w2 vs.ownBlock) :
    w2.heap[gd]? = some (.cells #[ca, vs, cb, cc, cd] 27 (0, 0)) ∧ TurnS gd W0 ca cb cc cd (o ++ [x]) v' (w2.setCell ⟨gd, 1, none⟩ v') := by
  have hg2 := World_grown_alloc hg
  have hb := (hg2.block gd (blk_ltK h.bx) (own_neM h.st.row h.bx (by decide))).trans h.bx
  have h3 := SetSt.app (x := x) h.st hr hg
  have ht : TurnsK (fun k o => k = gd ∧ ∃ cs, o = .cells cs 27 (0, 0)) w2 (w2.setCell ⟨gd, 1, none⟩ v') := (TurnsK.refl _ w2).setCell (p := ⟨gd, 1, none⟩) hb ⟨rfl, _, rfl⟩ _
  refine ⟨hb, set_blkN hb 1 v', own_turnM h3.row (fun k cs t fz a => by obtain ⟨_, cs', e⟩ := a; cases e; decide) ht, h3.lo.setCell (p := ⟨gd, 1, none⟩) (Nat.le_refl _) _, Nat.le_trans h3.sz ht.size⟩
end Go.Proofs.Ytmndkbfjmamnfaa

/- The program's files: a map from names to rows of bytes of its own; the laws of what is done with it. -/
import Derived.Test.YtcedkilgfoiifaaDkPlay
import Derived.Test.YtcedkilgfoiifaaDkRows
import Derived.Test.YtcedkilgfoiifaaBase2
import Derived.Maps.RangeWalk
import Derived.Maps.OwnSet
import Derived.Sort.KeysCollected
import Derived.Lib.BufferWrite
import Derived.Lib.AppendZeros
import Derived.Lib.AppendZerosOnto
namespace Go.Proofs.Ytcedkilgfoiifaa
open Go.RowKit Base Base2

theorem keyed9 : Maps.Keyed Try.prog 9 := Maps.string_keyed Try.underlying9
theorem zero72 (w : World) : (zeroValue 72).run Try.prog w = .ok (.slice none 0 0) w := by kernel_rfl
def RH : Value → Option (DataW Value × List MemPlace)
  | .slice a n c => some (.held (.slice a n c), [])
  | _ => none
theorem RH_inv {v : Value} {y : DataW Value × List MemPlace} (h : RH v = some y) : y = (.held v, []) ∧ ∃ c : Option Addr × Nat × Nat, v = .slice c.1 c.2.1 c.2.2 := by
  cases v <;> simp [RH] at h
  subst h
  exact ⟨rfl, ⟨_, _, _⟩, rfl⟩
def kS (s : ByteArray) : Lit := .string s.data.toList
theorem kS_inj {s t : ByteArray} (h : kS s = kS t) : s = t := by
  have : s.data = t.data := by simpa [kS] using h
  exact ByteArray.ext this
theorem kS_key (s : ByteArray) : WideAt.IsKeyLit (kS s) := trivial
theorem key_of (s : ByteArray) (hs : s.size ≤ maxLen) : keyOf Try.prog 9 (.string s) = some (kS s) := WideMaps.keyOf_string_mk Try.underlying9 hs
/-- The value of a row of bytes that the program keeps: the block, its room. -/
def sliceB (g : Nat × Nat) (s : ByteArray) : Value := .slice (some ⟨g.1, 0, none⟩) s.size g.2
/-- Bytes in a row of the program's own; all its room may be written. -/
structure BytsAt (W : World) (g : Nat × Nat) (s : ByteArray) : Prop where
  row : ∃ cur fz, W.heap[g.1]? = some (.cells cur 5 fz)
  le : s.size ≤ g.2
  max : g.2 ≤ maxLen
  isc : ∀ j, j < g.2 → (W.cell? ⟨g.1, j, none⟩).isSome = true
  free : ∀ j, j < g.2 → W.frozen? ⟨g.1, j, none⟩ = false
  get : ∀ j u, (Lib.byteCells s.data.toList)[j]? = some u → W.cell? ⟨g.1, j, none⟩ = some u
theorem frozen_heap {W W' : World} {k j : Nat} (h : W'.heap[k]? = W.heap[k]?) : W'.frozen? ⟨k, j, none⟩ = W.frozen? ⟨k, j, none⟩ := by
  simp [World.frozen?, h]
theorem BytsAt.block {W W' : World} {g : Nat × Nat} {s : ByteArray} (h : BytsAt W g s) (hb : W'.heap[g.1]? = W.heap[g.1]?) : BytsAt W' g s := by
  obtain ⟨cur, fz, hr⟩ := h.row
  exact ⟨⟨cur, fz, hb.trans hr⟩, h.le, h.max, fun j hj => by rw [cell_heap hb]; exact h.isc j hj, fun j hj => by rw [frozen_heap hb]; exact h.free j hj, fun j u hu => by rw [cell_heap hb]; exact h.get j u hu⟩
theorem BytsAt.lt {W : World} {g : Nat × Nat} {s : ByteArray} (h : BytsAt W g s) : g.1 < W.heap.size := by
  obtain ⟨cur, fz, hr⟩ := h.row
  exact (Array.getElem?_eq_some_iff.1 hr).1
/-- The map at a block: what the names have (nothing: they aren't there). -/
structure MapG (W : World) (F : Nat → Prop) (m : Nat) (r : ByteArray → ByteArray) (D : DataW Value) (G : ByteArray → Nat × Nat) : Prop where
  own : W.ownsMap Try.prog 9 RH m (Maps.size D) D
  has : ∀ s, Maps.has D (kS s) = decide ((r s).size ≠ 0)
  val : ∀ s, (r s).size ≠ 0 → ∀ z, D.atKey (kS s) z = .held (sliceB (G s) (r s))
  byt : ∀ s, (r s).size ≠ 0 → BytsAt W (G s) (r s)
  inG : ∀ s, (r s).size ≠ 0 → F (G s).1
  apart : ∀ s t, s ≠ t → (r s).size ≠ 0 → (r t).size ≠ 0 → (G s).1 ≠ (G t).1
  inF : F m
def MapAt (W : World) (F : Nat → Prop) (m : Nat) (r : ByteArray → ByteArray) : Prop := ∃ D G, MapG W F m r D G
theorem owns_tight {W : World} {m n : Nat} {D : DataW Value} (h : W.ownsMap Try.prog 9 RH m n D) : W.ownsMap Try.prog 9 RH m (Maps.size D) D := by
  obtain ⟨es, clock, hb, F, _, rfl⟩ := h
  exact ⟨es, clock, hb, F, by simp [Maps.size, length_sorted], rfl⟩
theorem owns_block {W W' : World} {m n : Nat} {D : DataW Value} (h : W.ownsMap Try.prog 9 RH m n D) (hb : W'.heap[m]? = W.heap[m]?) : W'.ownsMap Try.prog 9 RH m n D := by
  obtain ⟨es, clock, hb0, F, hs, rfl⟩ := h
  exact ⟨es, clock, hb.trans hb0, F, hs, rfl⟩
theorem MapG.lt {W : World} {F : Nat → Prop} {m : Nat} {r : ByteArray → ByteArray} {D : DataW Value} {G : ByteArray → Nat × Nat} (h : MapG W F m r D G) : m < W.heap.size := h.own.lt
/-- The objects that a map is of: itself, rows of bytes. -/
def isMB : Obj → Bool
  | .cells _ t _ => t == 5
  | .map _ _ => true
  | _ => false
theorem MapG.keepT {W W' : World} {F F' : Nat → Prop} {m : Nat} {r : ByteArray → ByteArray} {D : DataW Value} {G : ByteArray → Nat × Nat} (h : MapG W F m r D G) (hb : ∀ (k : Nat) (o : Obj), W.heap[k]? = some o → isMB o = true → F k → W'.heap[k]? = some o) (hF : ∀ k, F k → F' k) : MapG W' F' m r D G := by
  refine ⟨?_, h.has, h.val, fun s hs => ?_, fun s hs => hF _ (h.inG s hs), h.apart, hF _ h.inF⟩
  · obtain ⟨es, clock, hm, h2⟩ := h.own
    exact ⟨es, clock, hb m _ hm rfl h.inF, h2⟩
  · have hB := h.byt s hs
    obtain ⟨cur, fz, hr⟩ := hB.row
    exact hB.block ((hb _ _ hr rfl (h.inG s hs)).trans hr.symm)
theorem MapAt.keepT {W W' : World} {F F' : Nat → Prop} {m : Nat} {r : ByteArray → ByteArray} (h : MapAt W F m r) (hb : ∀ (k : Nat) (o : Obj), W.heap[k]? = some o → isMB o = true → F k → W'.heap[k]? = some o) (hF : ∀ k, F k → F' k) : MapAt W' F' m r := by
  obtain ⟨D, G, h⟩ := h
  exact ⟨D, G, h.keepT hb hF⟩
/-- Blocks of the kind stay: so does the map. -/
theorem MapG.keep {W W' : World} {F F' : Nat → Prop} {m : Nat} {r : ByteArray → ByteArray} {D : DataW Value} {G : ByteArray → Nat × Nat} (h : MapG W F m r D G) (hb : ∀ k, k < W.heap.size → F k → W'.heap[k]? = W.heap[k]?) (hF : ∀ k, F k → F' k) : MapG W' F' m r D G :=
  h.keepT (fun k _ ho _ hF => (hb k (lt_of_blkD ho) hF).trans ho) hF
theorem MapAt.keep {W W' : World} {F F' : Nat → Prop} {m : Nat} {r : ByteArray → ByteArray} (h : MapAt W F m r) (hb : ∀ k, k < W.heap.size → F k → W'.heap[k]? = W.heap[k]?) (hF : ∀ k, F k → F' k) : MapAt W' F' m r := by
  obtain ⟨D, G, h⟩ := h
  exact ⟨D, G, h.keep hb hF⟩
theorem ranges_iter {W : World} {m it n : Nat} {D : DataW Value} {left : Lit → Bool} {cnt : Nat} (h : W.ranges Try.prog 9 RH m it n D left cnt) : ∃ o, W.heap[it]? = some o ∧ isMB o = false := by
  obtain ⟨es, clock, since, seen, c0, hb, F, hs, rfl, hr, _⟩ := h
  exact ⟨_, hr, rfl⟩
theorem MapAt.same {W : World} {F : Nat → Prop} {m : Nat} {r r' : ByteArray → ByteArray} (h : MapAt W F m r) (he : ∀ s, r' s = r s) : MapAt W F m r' := by
  rw [show r' = r from funext he]; exact h
theorem MapAt.lt {W : World} {F : Nat → Prop} {m : Nat} {r : ByteArray → ByteArray} (h : MapAt W F m r) : m < W.heap.size := by
  obtain ⟨D, G, h⟩ := h; exact h.lt
theorem MapG.own_ne {W : World} {F : Nat → Prop} {m : Nat} {r : ByteArray → ByteArray} {D : DataW Value} {G : ByteArray → Nat × Nat} (h : MapG W F m r D G) {k : Nat} {cs : Array Value} {t : TypeId} {fz : Nat × Nat} (hk : W.heap[k]? = some (.cells cs t fz)) : k ≠ m := by
  obtain ⟨es, clock, hb, _⟩ := h.own
  rintro rfl
  rw [hk] at hb; cases hb
/-- A new map. -/
theorem MapAt.made (w : World) (F : Nat → Prop) (hF : F w.heap.size) : MapAt (w.alloc (.map #[] 0)) F w.heap.size (fun _ => ⟨#[]⟩) :=
  ⟨.map [], fun _ => (0, 0), World.ownsMap_made _ _ _ _, fun s => by simp [Maps.has_eq]; rfl, fun s h => absurd rfl h, fun s h => absurd rfl h, fun s h => absurd rfl h, fun s t _ h => absurd rfl h, hF⟩
/-- How many there are. -/
theorem len_apart {α : Type} : ∀ (es : List (Lit × α)) (K : List Lit), es.Pairwise (fun p q => p.1 ≠ q.1) → (∀ p ∈ es, p.1 ∈ K) → es.length ≤ K.length
  | [], _, _, _ => Nat.zero_le _
  | p :: es, K, h, hk => by
    classical
    have h2 := List.pairwise_cons.1 h
    have hm := hk p (List.mem_cons_self ..)
    have ih := len_apart es (K.erase p.1) h2.2 (fun q hq => (List.mem_erase_of_ne (fun e => h2.1 q hq e.symm)).2 (hk q (List.mem_cons_of_mem _ hq)))
    rw [List.length_erase_of_mem hm] at ih
    have : 0 < K.length := List.length_pos_of_mem hm
    simp; omega
theorem MapG.size_le {W : World} {F : Nat → Prop} {m : Nat} {r : ByteArray → ByteArray} {D : DataW Value} {G : ByteArray → Nat × Nat} (h : MapG W F m r D G) {L : List ByteArray} (hL : ∀ s, (r s).size ≠ 0 → s ∈ L) : Maps.size D ≤ L.length := by
  obtain ⟨es, he, hp, _⟩ := h.own.entries keyed9
  obtain ⟨es', he', hk⟩ := h.own.keysOf
  subst he
  obtain rfl : es = es' := by simpa using he'
  refine Nat.le_trans (len_apart es (L.map kS) hp (fun p hpm => ?_)) (by simp)
  obtain ⟨v, hv⟩ := hk p hpm
  obtain ⟨x, _, hx, _⟩ := Maps.keyOf_str Try.underlying9 hv
  have hkS : p.1 = kS ⟨x.toArray⟩ := by rw [hx]; simp [kS]
  have hh := h.has ⟨x.toArray⟩
  have ht : Maps.has (.map es) (kS ⟨x.toArray⟩) = true := by
    rw [Maps.has_eq, List.any_eq_true]
    exact ⟨p, hpm, by rw [hkS]; exact WideAt.sameKey_self (kS_key _)⟩
  rw [ht] at hh
  exact List.mem_map.2 ⟨_, hL _ (of_decide_eq_true hh.symm), hkS.symm⟩
/-- What a name finds. -/
theorem MapG.look {W : World} {F : Nat → Prop} {m : Nat} {r : ByteArray → ByteArray} {D : DataW Value} {G : ByteArray → Nat × Nat} (h : MapG W F m r D G) (s : ByteArray) (hs : s.size ≤ maxLen) :
    (Instr.lookup 63 (.map (some m)) (.string s) false).run Try.prog W = .ok (if (r s).size = 0 then .slice none 0 0 else sliceB (G s) (r s)) W := by
  obtain ⟨es, clock, hb, Ft, hsz, hD⟩ := h.own
  rcases Maps.fit_look false keyed9 Try.underlying63 (zero72 W) hb Ft (key_of s hs) with ⟨hrun, _, hat⟩ | ⟨e0, y, _, _, hrun, hRv, hat, _⟩
  · rw [← hD] at hat
    have hh := h.has s
    rw [Maps.has_false_of_atKey hat] at hh
    have h0 : (r s).size = 0 := by have := of_decide_eq_false hh.symm; omega
    rw [if_pos h0]; exact hrun
  · rw [← hD] at hat
    have hh := h.has s
    rw [Maps.has_true_of_atKey hat] at hh
    have h0 : (r s).size ≠ 0 := of_decide_eq_true hh.symm
    have hv := h.val s h0 .nil
    rw [hat] at hv
    obtain ⟨hy, _⟩ := RH_inv hRv
    rw [hy] at hv
    have hv2 : e0.val = sliceB (G s) (r s) := by simpa using hv
    rw [if_neg h0, ← hv2]; exact hrun
def upd (r : ByteArray → ByteArray) (s b : ByteArray) : ByteArray → ByteArray := fun t => if t = s then b else r t
theorem upd_same (r : ByteArray → ByteArray) (s b : ByteArray) : upd r s b s = b := by simp [upd]
theorem upd_other {r : ByteArray → ByteArray} {s b t : ByteArray} (h : t ≠ s) : upd r s b t = r t := by simp [upd, h]
/-- A name is given a row of bytes: its own anew, or another one. -/
theorem MapG.store {W W1 : World} {F F' : Nat → Prop} {m : Nat} {r : ByteArray → ByteArray} {D : DataW Value} {G : ByteArray → Nat × Nat} (h : MapG W F m r D G) {L : List ByteArray} (hL : ∀ s, (r s).size ≠ 0 → s ∈ L) (hl : L.length ≤ 100000)
    (s b : ByteArray) (g : Nat × Nat) (hs : s.size ≤ maxLen) (hb0 : b.size ≠ 0) (hm : W1.heap[m]? = W.heap[m]?) (hk : ∀ t, t ≠ s → (r t).size ≠ 0 → W1.heap[(G t).1]? = W.heap[(G t).1]?) (hg : BytsAt W1 g b) (hF : ∀ k, F k → F' k) (hFg : F' g.1) (hap : ∀ t, t ≠ s → (r t).size ≠ 0 → g.1 ≠ (G t).1) :
    ∃ W2, (Instr.mapUpdate 63 (.map (some m)) (.string s) (sliceB g b)).run Try.prog W1 = .ok () W2 ∧ MapAt W2 F' m (upd r s b) ∧ W1.grownBy W2 (some m) ∧ W2.heap.size = W1.heap.size := by
  have hsz := h.size_le hL
  obtain ⟨W2, hrun, how, htn⟩ := (owns_block h.own hm).store (val := sliceB g b) (d := .held (sliceB g b)) (ps := []) keyed9 Try.underlying63 (by unfold maxLen; omega) (key_of s hs) rfl
  have hgr := htn.grown
  have hne : ∀ k : Nat, (∃ cs t fz, W1.heap[k]? = some (Obj.cells cs t fz)) → W2.heap[k]? = W1.heap[k]? := by
    rintro k ⟨cs, t, fz, hc⟩
    refine hgr.block k (lt_of_blkD hc) (fun e => ?_)
    obtain rfl : k = m := by simpa using e
    obtain ⟨es, clock, hbm, _⟩ := h.own
    rw [hm, hbm] at hc; cases hc
  have hT := h.own.isMap
  refine ⟨W2, hrun, ⟨_, fun t => if t = s then g else G t, owns_tight how, fun t => ?_, fun t ht z => ?_, fun t ht => ?_, fun t ht => ?_, fun t u htu ht hu => ?_, hF _ h.inF⟩, hgr, ?_⟩
  · by_cases e : t = s
    · subst e; rw [Maps.has_put_same hT (kS_key _), upd_same]; simp [hb0]
    · rw [Maps.has_put_other (fun e2 => e (kS_inj e2)), upd_other e]; exact h.has t
  · by_cases e : t = s
    · subst e; rw [Maps.atKey_put_same hT (kS_key _), upd_same, if_pos rfl]
    · rw [Maps.atKey_put_other (fun e2 => e (kS_inj e2)), upd_other e, if_neg e]; rw [upd_other e] at ht; exact h.val t ht z
  · by_cases e : t = s
    · subst e
      rw [upd_same]; simp only [if_true]
      obtain ⟨cs, fz, hc⟩ := hg.row
      exact hg.block (hne _ ⟨_, _, _, hc⟩)
    · rw [upd_other e] at ht ⊢; simp only [if_neg e]
      have hb := (h.byt t ht).block (hk t e ht)
      obtain ⟨cs, fz, hc⟩ := hb.row
      exact hb.block (hne _ ⟨_, _, _, hc⟩)
  · by_cases e : t = s
    · simp only [if_pos e]; exact hFg
    · rw [upd_other e] at ht; simp only [if_neg e]; exact hF _ (h.inG t ht)
  · by_cases e : t = s
    · by_cases e2 : u = s
      · exact absurd (e.trans e2.symm) htu
      · rw [upd_other e2] at hu; simp only [if_pos e, if_neg e2]; exact hap u e2 hu
    · rw [upd_other e] at ht
      by_cases e2 : u = s
      · simp only [if_neg e, if_pos e2]; exact fun x => hap t e ht x.symm
      · rw [upd_other e2] at hu; simp only [if_neg e, if_neg e2]; exact h.apart t u htu ht hu
  · obtain ⟨es, clock, es', clock', _, rfl⟩ := htn; simp [ChangeMaps.setBlock]
/-- A name is struck. -/
theorem MapG.strike {W : World} {F : Nat → Prop} {m : Nat} {r : ByteArray → ByteArray} {D : DataW Value} {G : ByteArray → Nat × Nat} (h : MapG W F m r D G) (s : ByteArray) (hs : s.size ≤ maxLen) (ty : TypeId) :
    ∃ W2, (Builtin.delete_ #[63, 9] ty #[.map (some m), .string s]).run Try.prog W = .ok (.tuple #[]) W2 ∧ MapAt W2 F m (upd r s ⟨#[]⟩) ∧ W.grownBy W2 (some m) ∧ W2.heap.size = W.heap.size := by
  obtain ⟨W2, hrun, how, htn⟩ := h.own.drop keyed9 Try.underlying63 (key_of s hs) ty
  have hgr := htn.grown
  refine ⟨W2, hrun, ⟨_, G, owns_tight how, fun t => ?_, fun t ht z => ?_, fun t ht => ?_, fun t ht => ?_, fun t u htu ht hu => ?_, h.inF⟩, hgr, ?_⟩
  · by_cases e : t = s
    · subst e; rw [Maps.has_del_same, upd_same]; simp; rfl
    · rw [Maps.has_del_other (fun e2 => e (kS_inj e2)), upd_other e]; exact h.has t
  · by_cases e : t = s
    · subst e; rw [upd_same] at ht; exact absurd rfl ht
    · rw [upd_other e] at ht ⊢; rw [Maps.atKey_del_other (fun e2 => e (kS_inj e2))]; exact h.val t ht z
  · by_cases e : t = s
    · subst e; rw [upd_same] at ht; exact absurd rfl ht
    · rw [upd_other e] at ht ⊢
      have hb := h.byt t ht
      obtain ⟨cs, fz, hc⟩ := hb.row
      exact hb.block (hgr.block _ hb.lt (fun e => h.own_ne hc (by simpa using e)))
  · by_cases e : t = s
    · subst e; rw [upd_same] at ht; exact absurd rfl ht
    · rw [upd_other e] at ht; exact h.inG t ht
  · by_cases e : t = s
    · subst e; rw [upd_same] at ht; exact absurd rfl ht
    · by_cases e2 : u = s
      · subst e2; rw [upd_same] at hu; exact absurd rfl hu
      · rw [upd_other e] at ht; rw [upd_other e2] at hu; exact h.apart t u htu ht hu
  · obtain ⟨es, clock, es', clock', _, rfl⟩ := htn; simp [ChangeMaps.setBlock]
end Go.Proofs.Ytcedkilgfoiifaa

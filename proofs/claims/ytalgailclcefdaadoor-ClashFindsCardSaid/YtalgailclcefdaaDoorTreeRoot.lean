/- The root and the proof of some leaves: the contracts of rootOf, proofOf, Root, Proof. -/
import Derived.Test.YtalgailclcefdaaDoorTreeHash
import Derived.Test.YtalgailclcefdaaDoorTreeTurns
namespace Go.Proofs.YtalgailclcefdaaDoor
open Go.RowKit

theorem below_drews {a : World} (m : Nat) : Below a.heap.size a (a.drewN m) := ⟨rfl, rfl, rfl, Nat.le_refl _, fun _ _ => rfl⟩
theorem below_drewN' {a b : World} {B : Nat} (h : Below B a b) (m : Nat) : Below B a (b.drewN m) := h.trans ⟨rfl, rfl, rfl, Nat.le_refl _, fun _ _ => rfl⟩
theorem own_below {w w' : World} {base n : Nat} {e : TypeId} {v : Value} {xs : List Value} (h : w.ownsRow base e 1 v n xs) (hb : Below w.heap.size w w') : w'.ownsRow base e 1 v n xs :=
  h.kept (row := none) ⟨hb.os, hb.tape, hb.output, hb.size, fun k hk _ => hb.block k hk⟩ (by cases v.ownBlock <;> simp)
theorem info9 : (Tryd.prog.info? 9).map (fun i => (i.zero, i.size, i.bytes)) = some (some (.string ⟨#[]⟩), 1, 16) := by kernel_rfl
theorem one_cell_str (s : ByteArray) : ∀ u ∈ [Value.string s], u.oneCell' = true := by
  intro u hu; simp at hu; subst hu; rfl
theorem strs_of_own {w : World} {base : Nat} {v : Value} {l : List ByteArray} (h : w.ownsRow base 9 1 v l.length (l.map Value.string)) : ∃ a cap, v = .slice a l.length cap ∧ l.length ≤ cap ∧ cap ≤ maxLen ∧ StrsAt w a l := by
  rcases h.2 with ⟨rfl, h0⟩ | ⟨g, cap, cur, rfl, h1, h2, h3, h4, h5, h6⟩
  · have : l = [] := List.eq_nil_of_length_eq_zero (by omega)
    subst this
    exact ⟨none, 0, rfl, Nat.le_refl _, by unfold maxLen; omega, .inl rfl⟩
  · refine ⟨some ⟨g, 0, none⟩, cap, rfl, h3, h4, .inr ⟨g, 0, rfl, lt_of_block h2, fun i t hi => ?_⟩⟩
    have := h.cells (g := g) rfl i (.string t) (by simp [hi])
    rwa [Addr.add_mid] at this
theorem mem_take' {l : List ByteArray} {s : Nat} {p : ByteArray → Prop} (h : ∀ t ∈ l, p t) : ∀ t ∈ l.take s, p t := fun t ht => h t (List.mem_of_mem_take ht)
theorem mem_drop' {l : List ByteArray} {s : Nat} {p : ByteArray → Prop} (h : ∀ t ∈ l, p t) : ∀ t ∈ l.drop s, p t := fun t ht => h t (List.mem_of_mem_drop ht)

set_option maxRecDepth 100000 in
set_option maxHeartbeats 1000000 in
theorem root19 (n : Nat) (h0 : 1 ≤ n) (h1 : n ≤ 32) : ∀ (m : Nat) (l : List ByteArray) (a : Option Addr) (cap : Nat) (w : World), l.length = m → m ≤ 4096 → (∀ t ∈ l, t.size ≤ 700000) → StrsAt w a l → m ≤ cap → KHeld w →
    Calls Tryd.prog 49 #[.slice a m cap, .int .i64 (n : Int)] w fun e w' => e = .returned (.string (rootS (cutH n) l)) ∧ Below w.heap.size w w' := by
  intro m
  induction m using Nat.strongRecOn with
  | ind m ih =>
  intro l a cap w hl hm hz hr hcap hK
  by_cases e0 : m = 0
  · subst e0
    rw [rootS_nil _ hl]
    have HC := Lib.hid (digest33 ⟨#[]⟩ n w h0 h1 (by decide) hK)
    generalize cutH n ⟨#[]⟩ = D at *
    clear hr hK ih
    go_enter Tryd.func49, Tryd.ntmps49
    go_wp2_with (go_at_call 59; refine HC.out.mono ?_; rintro e w1 ⟨rfl, hb1⟩; have HB1 := Lib.hid hb1; clear hb1)
    go_ret
    exact ⟨rfl, HB1.out⟩
  · by_cases e1 : m = 1
    · subst e1
      rw [rootS_one _ hl]
      obtain ⟨t, ht⟩ : ∃ t, l = [t] := List.length_eq_one_iff.1 hl
      subst ht
      have hts := hz t (by simp)
      obtain ⟨b, off, rfl, hbw, hcell⟩ := hr.some (by simp)
      have c1 := hcell 0 t rfl
      rw [Nat.add_zero] at c1
      have HC := Lib.hid (leaf29 t n w h0 h1 hts hK)
      rw [show [t].getD 0 ⟨#[]⟩ = t from rfl]
      generalize leafS (cutH n) t = D at *
      clear hr hK ih hcell
      go_enter Tryd.func49, Tryd.ntmps49
      go_wp2_with (go_at_call 60; refine HC.out.mono ?_; rintro e w1 ⟨rfl, hb1⟩; have HB1 := Lib.hid hb1; clear hb1)
      go_ret
      exact ⟨rfl, HB1.out⟩
    · have h2 : 2 ≤ m := by omega
      rw [rootS_two _ (by omega), hl]
      obtain ⟨b, off, rfl, hbw, hcell⟩ := hr.some (by omega)
      clear hcell
      have p1 := spl_pos h2
      have p2 := spl_lt h2
      have HS := Lib.hid (sides34 b off m cap w h2 (by omega) hcap)
      have HI1 := Lib.hid (fun (W : World) (hb : Below w.heap.size w W) => ih (spl m) p2 (l.take (spl m)) _ (spl m) W (by simp; omega) (by omega) (mem_take' hz) ((hr.take (spl m)).below hb) (Nat.le_refl _) (KHeld_of hK hb))
      have HI2 := Lib.hid (fun (W : World) (hb : Below w.heap.size w W) => ih (m - spl m) (by omega) (l.drop (spl m)) _ (m - spl m) W (by simp; omega) (by omega) (mem_drop' hz) ((hr.drop (spl m)).below hb) (Nat.le_refl _) (KHeld_of hK hb))
      have s1 := rootS_size (cutH n) n (cutH_size n h1) (l.take (spl m))
      have s2 := rootS_size (cutH n) n (cutH_size n h1) (l.drop (spl m))
      generalize rootS (cutH n) (l.take (spl m)) = R1 at *
      generalize rootS (cutH n) (l.drop (spl m)) = R2 at *
      have HN := Lib.hid (fun (W : World) (hb : Below w.heap.size w W) => node31 R1 R2 n W h0 h1 (by omega) (by omega) (KHeld_of hK hb))
      generalize nodeS (cutH n) R1 R2 = D at *
      generalize spl m = s at *
      have b0 : ((m : Int) == 0) = false := by simpa using e0
      have b1 : ((m : Int) == 1) = false := by simp; omega
      clear hr hK ih hz hl
      go_enter Tryd.func49, Tryd.ntmps49
      go_wp2_with (first
        | (go_at_call 61; refine HS.out.mono ?_; rintro e w1 ⟨rfl, q, rfl⟩)
        | (go_at_call 62; refine (HN.out _ HB2.out).mono ?_; rintro e w4 ⟨rfl, hb4⟩; have HB3 := Lib.hid (bt2 HB2.out hb4); clear hb4)
        | (go_at_call_of 49 (Value.slice (some ⟨b, off, none⟩) s s); refine (HI1.out _ (below_drews q)).mono ?_; rintro e w2 ⟨rfl, hb2⟩; have HB1 := Lib.hid (bt2 (below_drews (a := w) q) hb2); clear hb2)
        | (go_at_call_of 49 (Value.slice (some ⟨b, off + s, none⟩) (m - s) (m - s)); refine (HI2.out _ HB1.out).mono ?_; rintro e w3 ⟨rfl, hb3⟩; have HB2 := Lib.hid (bt2 HB1.out hb3); clear hb3))
      go_ret
      exact ⟨rfl, HB3.out⟩

theorem proofS_len_le (h : ByteArray → ByteArray) (n : Nat) (hn : ∀ s, (h s).size = n) (l : List ByteArray) (k : Nat) (hk : k < l.length) : (proofS h l k).length ≤ l.length := by
  rw [(proof_shows h n hn l k hk).1]; exact turnsS_len _ _
end Go.Proofs.YtalgailclcefdaaDoor

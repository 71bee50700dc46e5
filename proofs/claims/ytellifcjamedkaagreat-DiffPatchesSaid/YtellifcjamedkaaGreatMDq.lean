/- The program's patch is the document's; plain. The program's patch is the document's: what is laid is a book's rows; plain. -/
import Derived.Test.YtellifcjamedkaaGreatMDp
namespace Go.Proofs.YtellifcjamedkaaGreat
open Go.RowKit Base Base2
/-- A book whose lists rise, with things that are whole. -/
structure MayL (b : BookT) : Prop where
  hs : Sorted lt1 b.hs
  ss : Sorted lt2 b.ss
  os : Sorted lt1 b.os
  rs : Sorted lt1 b.rs
  lh : ∀ x ∈ b.hs, x.length = 4
  ls : ∀ x ∈ b.ss, x.length = 3 ∧ key 2 x ≠ 0
  lo : ∀ x ∈ b.os, x.length = 6 ∧ key 4 x ≠ 0
  lr : ∀ x ∈ b.rs, x.length = 2
theorem fold_diff2 {a b : BookT} (ha : MayB a) (hb : MayL b) : (diffT a b).foldl setChT a = b := by
  obtain ⟨ah, as1, ao, ar, ac⟩ := a
  obtain ⟨bh, bs, bo, br, bc⟩ := b
  rw [diff_parts, List.foldl_append, List.foldl_append, List.foldl_append, List.foldl_append]
  dsimp only
  have f1 := fold_hs ah bh ⟨ah, as1, ao, ar, ac⟩ ha.lh hb.lh ha.hs hb.hs
  have f2 := fold_ss as1 bs ⟨bh, as1, ao, ar, ac⟩ ha.ls hb.ls ha.ss hb.ss
  have f3 := fold_os ao bo ⟨bh, bs, ao, ar, ac⟩ ha.lo hb.lo ha.os hb.os
  have f4 := fold_rs ar br ⟨bh, bs, bo, ar, ac⟩ ha.lr hb.lr ha.rs hb.rs
  dsimp only at f1 f2 f3 f4
  rw [f1, f2, f3, f4, merge_cnt]
  by_cases h : ac = bc
  · rw [if_pos h, h]; rfl
  · rw [if_neg h]
    have h0 : 0 ≤ ac := ha.co
    show setChT ⟨bh, bs, bo, br, ac⟩ ⟨5, 0, 0, [ac], [bc]⟩ = _
    unfold setChT
    dsimp only
    rw [if_neg (by decide), if_neg (by decide), if_neg (by decide), if_neg (by decide), if_pos rfl, if_pos h0]
    rfl
theorem key_iff {c : ChT} {r : RowT} : keyR c r ↔ keyC c = keyT r := by unfold keyR keyC keyT; simp only [Prod.mk.injEq]
theorem value_ne {x : RowT} {xs : List RowT} {c : ChT} (h : keyC c ≠ keyT x) : valueT (x :: xs) c = valueT xs c := by
  unfold valueT
  have e : isKey c x = false := by rw [← Bool.not_eq_true, isKey_iff, key_iff]; exact h
  rw [List.find?_cons, e]
theorem value_eq {x : RowT} {xs : List RowT} {c : ChT} (h : keyC c = keyT x) : valueT (x :: xs) c = x.v := by
  unfold valueT
  rw [List.find?_cons, isKey_iff.2 (key_iff.2 h)]
theorem less_ne {k q : K3} (h : less3 k q = true) : k ≠ q := by rintro rfl; rw [less3_irr] at h; cases h
theorem value_above {c : ChT} {xs : List RowT} (h : ∀ x ∈ xs, less3 (keyC c) (keyT x) = true) : valueT xs c = [] := value_none (fun r hr hk => less_ne (h r hr) (key_iff.1 hk))
def RiseC (l : List ChT) : Prop := l.Pairwise (fun c d => less3 (keyC c) (keyC d) = true)
theorem all_congrD {A : Type} {p q : A → Bool} : ∀ {l : List A}, (∀ x ∈ l, p x = q x) → l.all p = l.all q
  | [], _ => rfl
  | x :: l, h => by rw [List.all_cons, List.all_cons, h x (List.mem_cons_self ..), all_congrD (fun z hz => h z (List.mem_cons_of_mem _ hz))]
/-- The ways in which two rising lists go on. -/
theorem above_all {x : RowT} {c : ChT} {cs : List ChT} (e : less3 (keyT x) (keyC c) = true) (hq : ∀ d ∈ cs, less3 (keyC c) (keyC d) = true) : ∀ d ∈ c :: cs, less3 (keyT x) (keyC d) = true := fun d hd => by
  rcases List.mem_cons.1 hd with rfl | hd
  · exact e
  · exact less3_trans e (hq d hd)
theorem under_all {x : RowT} {xs : List RowT} {c : ChT} (e : less3 (keyC c) (keyT x) = true) (hp : ∀ z ∈ xs, ltR x z = true) : ∀ z ∈ x :: xs, less3 (keyC c) (keyT z) = true := fun z hz => by
  rcases List.mem_cons.1 hz with rfl | hz
  · exact e
  · exact less3_trans (b := keyT x) e (hp z hz)
theorem same_all {x : RowT} {c : ChT} {cs : List ChT} (e : keyC c = keyT x) (hq : ∀ d ∈ cs, less3 (keyC c) (keyC d) = true) : ∀ d ∈ cs, less3 (keyT x) (keyC d) = true := fun d hd => by rw [← e]; exact hq d hd
theorem pairs_iff : ∀ (xs : List RowT) (l : List ChT), RiseR xs → RiseC l → (besideS keyT keyC xs l).all pairOkB = l.all (fun c => valueT xs c == c.was)
  | [], l, _, _ => by
    rw [besideS, List.all_map]
    exact all_congrD (fun c _ => rfl)
  | x :: xs, [], h1, h2 => by
    rw [beside_nil, List.all_cons, pairs_iff xs [] (List.pairwise_cons.1 h1).2 h2]; rfl
  | x :: xs, c :: cs, h1, h2 => by
    have hp := List.pairwise_cons.1 h1
    have hq := List.pairwise_cons.1 h2
    cases e1 : less3 (keyC c) (keyT x) with
    | true =>
      rw [beside_ins keyT keyC x xs c cs e1, List.all_cons, List.all_cons, pairs_iff (x :: xs) cs h1 hq.2, value_above (under_all e1 hp.1)]
      rfl
    | false =>
      cases e2 : less3 (keyT x) (keyC c) with
      | true =>
        rw [beside_del keyT keyC x xs c cs e1 e2, List.all_cons, pairs_iff xs (c :: cs) hp.2 h2]
        show (true && _) = _
        rw [Bool.true_and]
        exact all_congrD (fun d hd => by rw [value_ne (fun e => less_ne (above_all e2 hq.1 d hd) e.symm)])
      | false =>
        have ek : keyC c = keyT x := less3_eq e1 e2
        rw [beside_both keyT keyC x xs c cs e1 e2, List.all_cons, List.all_cons, pairs_iff xs cs hp.2 hq.2, value_eq ek]
        have h3 : cs.all (fun d => valueT xs d == d.was) = cs.all (fun d => valueT (x :: xs) d == d.was) := all_congrD (fun d hd => by rw [value_ne (fun e => less_ne (same_all ek hq.1 d hd) e.symm)])
        rw [h3]; rfl
  termination_by xs l => xs.length + l.length
/-- What is laid. -/
def rowsP (xs : List RowT) (l : List ChT) : List RowT := (besideS keyT keyC xs l).flatMap layOf
def rowOf (c : ChT) : RowT := ⟨c.l, c.a, c.b, c.now⟩
theorem lay_some (p : Option RowT) (c : ChT) : layOf (p, some c) = if c.now = [] then [] else [rowOf c] := by cases p <;> rfl
theorem rowsP_nc (c : ChT) (cs : List ChT) : rowsP [] (c :: cs) = layOf (none, some c) ++ rowsP [] cs := by
  unfold rowsP
  rw [besideS, besideS, List.map_cons, List.flatMap_cons]
theorem rowsP_cn (x : RowT) (xs : List RowT) : rowsP (x :: xs) [] = x :: rowsP xs [] := by
  unfold rowsP
  rw [beside_nil, List.flatMap_cons]; rfl
theorem rowsP_ins {x : RowT} {xs : List RowT} {c : ChT} {cs : List ChT} (h : less3 (keyC c) (keyT x) = true) : rowsP (x :: xs) (c :: cs) = layOf (none, some c) ++ rowsP (x :: xs) cs := by
  unfold rowsP
  rw [beside_ins keyT keyC x xs c cs h, List.flatMap_cons]
theorem rowsP_del {x : RowT} {xs : List RowT} {c : ChT} {cs : List ChT} (h : less3 (keyC c) (keyT x) = false) (h2 : less3 (keyT x) (keyC c) = true) : rowsP (x :: xs) (c :: cs) = x :: rowsP xs (c :: cs) := by
  unfold rowsP
  rw [beside_del keyT keyC x xs c cs h h2, List.flatMap_cons]; rfl
theorem rowsP_both {x : RowT} {xs : List RowT} {c : ChT} {cs : List ChT} (h : less3 (keyC c) (keyT x) = false) (h2 : less3 (keyT x) (keyC c) = false) : rowsP (x :: xs) (c :: cs) = layOf (some x, some c) ++ rowsP xs cs := by
  unfold rowsP
  rw [beside_both keyT keyC x xs c cs h h2, List.flatMap_cons]
/-- Where what is laid comes from. -/
theorem rowsP_mem {xs : List RowT} {l : List ChT} : ∀ r ∈ rowsP xs l, r ∈ xs ∨ ∃ c ∈ l, r = rowOf c ∧ c.now ≠ [] := fun r hr => by
  unfold rowsP at hr
  obtain ⟨p, hp, hr⟩ := List.mem_flatMap.1 hr
  obtain ⟨h1, h2, _⟩ := beside_mem keyT keyC xs l p hp
  obtain ⟨y, z⟩ := p
  cases z with
  | some c =>
    rw [lay_some] at hr
    split at hr
    · cases hr
    · rename_i hn
      exact .inr ⟨c, h2 c rfl, List.mem_singleton.1 hr, hn⟩
  | none =>
    cases y with
    | none => cases hr
    | some x =>
      obtain rfl := List.mem_singleton.1 hr
      exact .inl (h1 r rfl)
theorem rowsP_above {k : K3} {xs : List RowT} {l : List ChT} (h1 : ∀ x ∈ xs, less3 k (keyT x) = true) (h2 : ∀ c ∈ l, less3 k (keyC c) = true) : ∀ r ∈ rowsP xs l, less3 k (keyT r) = true := fun r hr => by
  rcases rowsP_mem r hr with h | ⟨c, hc, rfl, _⟩
  · exact h1 r h
  · exact h2 c hc
theorem rise_add {r : RowT} {L : List RowT} (c : Prop) [Decidable c] (hL : RiseR L) (h : ∀ y ∈ L, less3 (keyT r) (keyT y) = true) : RiseR ((if c then [] else [r]) ++ L) := by
  split
  · exact hL
  · exact List.pairwise_cons.2 ⟨h, hL⟩
/-- It rises. -/
theorem rowsP_rise : ∀ (xs : List RowT) (l : List ChT), RiseR xs → RiseC l → RiseR (rowsP xs l)
  | [], [], _, _ => List.Pairwise.nil
  | [], c :: cs, h1, h2 => by
    have hq := List.pairwise_cons.1 h2
    rw [rowsP_nc, lay_some]
    exact rise_add _ (rowsP_rise [] cs h1 hq.2) (rowsP_above (fun x hx => by cases hx) hq.1)
  | x :: xs, [], h1, h2 => by
    have hp := List.pairwise_cons.1 h1
    rw [rowsP_cn]
    exact List.pairwise_cons.2 ⟨rowsP_above (k := keyT x) hp.1 (fun c hc => by cases hc), rowsP_rise xs [] hp.2 h2⟩
  | x :: xs, c :: cs, h1, h2 => by
    have hp := List.pairwise_cons.1 h1
    have hq := List.pairwise_cons.1 h2
    cases e1 : less3 (keyC c) (keyT x) with
    | true =>
      rw [rowsP_ins e1, lay_some]
      exact rise_add _ (rowsP_rise (x :: xs) cs h1 hq.2) (rowsP_above (k := keyC c) (under_all e1 hp.1) hq.1)
    | false =>
      cases e2 : less3 (keyT x) (keyC c) with
      | true =>
        rw [rowsP_del e1 e2]
        exact List.pairwise_cons.2 ⟨rowsP_above (k := keyT x) hp.1 (above_all e2 hq.1), rowsP_rise xs (c :: cs) hp.2 h2⟩
      | false =>
        have ek : keyC c = keyT x := less3_eq e1 e2
        rw [rowsP_both e1 e2, lay_some]
        exact rise_add _ (rowsP_rise xs cs hp.2 hq.2) (rowsP_above (k := keyC c) (fun z hz => by rw [ek]; exact hp.1 z hz) hq.1)
  termination_by xs l => xs.length + l.length
/-- Changes that tell what was are what the one list and what is laid are unlike by. -/
theorem merge_rowsP : ∀ (xs : List RowT) (l : List ChT), RiseR xs → RiseC l → (∀ x ∈ xs, x.v ≠ []) → (∀ c ∈ l, valueT xs c = c.was ∧ c.was ≠ c.now) → mergeD xs (rowsP xs l) = l
  | [], [], _, _, _, _ => by show mergeD [] [] = []; rw [mergeD]
  | [], c :: cs, h1, h2, hv, hw => by
    have hq := List.pairwise_cons.1 h2
    obtain ⟨w1, w2⟩ := hw c (List.mem_cons_self ..)
    have w3 : c.was = [] := w1.symm
    have hn : c.now ≠ [] := fun e => w2 (by rw [w3, e])
    rw [rowsP_nc, lay_some, if_neg hn, List.singleton_append, merge_nc, merge_rowsP [] cs h1 hq.2 hv (fun d hd => hw d (List.mem_cons_of_mem _ hd))]
    obtain ⟨cl, ca, cb, cw, cn⟩ := c
    dsimp only at w3
    subst w3
    rfl
  | x :: xs, [], h1, h2, hv, hw => by
    have hp := List.pairwise_cons.1 h1
    have ih := merge_rowsP xs [] hp.2 h2 (fun z hz => hv z (List.mem_cons_of_mem _ hz)) (fun d hd => by cases hd)
    rw [rowsP_cn, merge_cc]
    have e : ltR x x = false := (less3_irr (a := keyT x) : less3 (keyT x) (keyT x) = false)
    rw [e]
    simp only [Bool.false_eq_true, if_false, if_true]
    exact ih
  | x :: xs, c :: cs, h1, h2, hv, hw => by
    have hp := List.pairwise_cons.1 h1
    have hq := List.pairwise_cons.1 h2
    obtain ⟨w1, w2⟩ := hw c (List.mem_cons_self ..)
    have vs : ∀ z ∈ xs, z.v ≠ [] := fun z hz => hv z (List.mem_cons_of_mem _ hz)
    cases e1 : less3 (keyC c) (keyT x) with
    | true =>
      have w3 : c.was = [] := by rw [← w1, value_above (under_all e1 hp.1)]
      have hn : c.now ≠ [] := fun e => w2 (by rw [w3, e])
      rw [rowsP_ins e1, lay_some, if_neg hn, List.singleton_append, merge_cc]
      have f1 : ltR (rowOf c) x = true := e1
      have f2 : ltR x (rowOf c) = false := ltR_asym f1
      rw [f1, f2]
      simp only [Bool.false_eq_true, if_false, if_true]
      rw [merge_rowsP (x :: xs) cs h1 hq.2 hv (fun d hd => hw d (List.mem_cons_of_mem _ hd))]
      obtain ⟨cl, ca, cb, cw, cn⟩ := c
      dsimp only at w3
      subst w3
      rfl
    | false =>
      cases e2 : less3 (keyT x) (keyC c) with
      | true =>
        rw [rowsP_del e1 e2, merge_cc]
        have e : ltR x x = false := (less3_irr (a := keyT x) : less3 (keyT x) (keyT x) = false)
        rw [e]
        simp only [Bool.false_eq_true, if_false, if_true]
        exact merge_rowsP xs (c :: cs) hp.2 h2 vs (fun d hd => by
          have h := hw d hd
          rw [value_ne (fun e => less_ne (above_all e2 hq.1 d hd) e.symm)] at h
          exact h)
      | false =>
        have ek : keyC c = keyT x := less3_eq e1 e2
        have ih := merge_rowsP xs cs hp.2 hq.2 vs (fun d hd => by
          have h := hw d (List.mem_cons_of_mem _ hd)
          rw [value_ne (fun e => less_ne (same_all ek hq.1 d hd) e.symm)] at h
          exact h)
        have w3 : x.v = c.was := by rw [← w1, value_eq ek]
        have hk := ek
        unfold keyC keyT at hk
        simp only [Prod.mk.injEq] at hk
        rw [rowsP_both e1 e2, lay_some]
        by_cases hn : c.now = []
        · rw [if_pos hn, List.nil_append]
          have hc : delC x = c := by
            obtain ⟨cl, ca, cb, cw, cn⟩ := c
            dsimp only at hk w3 hn
            obtain ⟨rfl, rfl, rfl⟩ := hk
            subst w3 hn
            rfl
          have hab := rowsP_above (k := keyT x) (xs := xs) (l := cs) hp.1 (same_all ek hq.1)
          cases hL : rowsP xs cs with
          | nil => rw [hL] at ih; rw [merge_cn, ih, hc]
          | cons y L =>
            rw [hL] at ih hab
            have f1 : ltR x y = true := hab y (List.mem_cons_self ..)
            rw [merge_cc, f1]
            simp only [if_true]
            rw [ih, hc]
        · rw [if_neg hn, List.singleton_append, merge_cc]
          have f1 : ltR x (rowOf c) = false := e2
          have f2 : ltR (rowOf c) x = false := e1
          rw [f1, f2]
          simp only [Bool.false_eq_true, if_false]
          rw [if_neg (show ¬ x.v = (rowOf c).v from fun e => w2 (by rw [← w3, e]; rfl)), ih]
          obtain ⟨cl, ca, cb, cw, cn⟩ := c
          dsimp only at hk w3
          obtain ⟨rfl, rfl, rfl⟩ := hk
          subst w3
          rfl
  termination_by xs l => xs.length + l.length
/-- What stays, what comes. -/
theorem rowsP_has : ∀ (xs : List RowT) (l : List ChT), (∀ x ∈ xs, x ∈ rowsP xs l ∨ ∃ c ∈ l, keyC c = keyT x) ∧ (∀ c ∈ l, c.now ≠ [] → rowOf c ∈ rowsP xs l)
  | [], [] => ⟨fun x hx => (by cases hx), fun c hc => by cases hc⟩
  | [], c :: cs => by
    obtain ⟨_, h2⟩ := rowsP_has [] cs
    refine ⟨fun x hx => (by cases hx), fun d hd hn => ?_⟩
    rw [rowsP_nc, lay_some]
    rcases List.mem_cons.1 hd with rfl | hd
    · rw [if_neg hn]; exact List.mem_append_left _ (List.mem_singleton.2 rfl)
    · exact List.mem_append_right _ (h2 d hd hn)
  | x :: xs, [] => by
    obtain ⟨h1, _⟩ := rowsP_has xs []
    refine ⟨fun z hz => ?_, fun c hc => by cases hc⟩
    rw [rowsP_cn]
    rcases List.mem_cons.1 hz with rfl | hz
    · exact .inl (List.mem_cons_self ..)
    · exact (h1 z hz).imp (List.mem_cons_of_mem _) id
  | x :: xs, c :: cs => by
    cases e1 : less3 (keyC c) (keyT x) with
    | true =>
      obtain ⟨h1, h2⟩ := rowsP_has (x :: xs) cs
      rw [rowsP_ins e1, lay_some]
      refine ⟨fun z hz => ?_, fun d hd hn => ?_⟩
      · rcases h1 z hz with h | ⟨d, hd, hk⟩
        · exact .inl (List.mem_append_right _ h)
        · exact .inr ⟨d, List.mem_cons_of_mem _ hd, hk⟩
      · rcases List.mem_cons.1 hd with rfl | hd
        · rw [if_neg hn]; exact List.mem_append_left _ (List.mem_singleton.2 rfl)
        · exact List.mem_append_right _ (h2 d hd hn)
    | false =>
      cases e2 : less3 (keyT x) (keyC c) with
      | true =>
        obtain ⟨h1, h2⟩ := rowsP_has xs (c :: cs)
        rw [rowsP_del e1 e2]
        refine ⟨fun z hz => ?_, fun d hd hn => List.mem_cons_of_mem _ (h2 d hd hn)⟩
        rcases List.mem_cons.1 hz with rfl | hz
        · exact .inl (List.mem_cons_self ..)
        · exact (h1 z hz).imp (List.mem_cons_of_mem _) id
      | false =>
        obtain ⟨h1, h2⟩ := rowsP_has xs cs
        rw [rowsP_both e1 e2, lay_some]
        refine ⟨fun z hz => ?_, fun d hd hn => ?_⟩
        · rcases List.mem_cons.1 hz with rfl | hz
          · exact .inr ⟨c, List.mem_cons_self .., less3_eq e1 e2⟩
          · rcases h1 z hz with h | ⟨d, hd, hk⟩
            · exact .inl (List.mem_append_right _ h)
            · exact .inr ⟨d, List.mem_cons_of_mem _ hd, hk⟩
        · rcases List.mem_cons.1 hd with rfl | hd
          · rw [if_neg hn]; exact List.mem_append_left _ (List.mem_singleton.2 rfl)
          · exact List.mem_append_right _ (h2 d hd hn)
  termination_by xs l => xs.length + l.length
end Go.Proofs.YtellifcjamedkaaGreat
namespace Go.Proofs.YtellifcjamedkaaGreat
open Go.RowKit Base Base2
def rows4 (b : BookT) : List RowT := b.hs.map rwH ++ (b.ss.map rwS ++ (b.os.map rwO ++ b.rs.map rwR))
theorem rowsD_4 (b : BookT) : rowsD b = rows4 b ++ [rwC b.co] := by unfold rowsD rows4; simp only [List.append_assoc]
/-- No thing of a list above. -/
structure Emp (n : Int) (b : BookT) : Prop where
  s : n < 2 → b.ss = []
  o : n < 3 → b.os = []
  r : n < 4 → b.rs = []
theorem Emp.up {n m : Int} {b : BookT} (h : Emp n b) (hm : n ≤ m) : Emp m b := ⟨fun k => h.s (by omega), fun k => h.o (by omega), fun k => h.r (by omega)⟩
/-- All things have their lengths. -/
structure LenB (b : BookT) : Prop where
  h : ∀ x ∈ b.hs, x.length = 4
  s : ∀ x ∈ b.ss, x.length = 3
  o : ∀ x ∈ b.os, x.length = 6
  r : ∀ x ∈ b.rs, x.length = 2
theorem mem_snoc {A : Type} {P : A → Prop} {l : List A} {x : A} (h : ∀ y ∈ l, P y) (hx : P x) : ∀ y ∈ l ++ [x], P y := fun y hy => by
  rcases List.mem_append.1 hy with hy | hy
  · exact h y hy
  · rw [List.mem_singleton.1 hy]; exact hx
theorem layB_1 (b : BookT) (a kb : Int) (v : List Int) : layB b ⟨1, a, kb, v⟩ = { b with hs := b.hs ++ [[a, key 0 v, key 1 v, key 2 v]] } := rfl
theorem layB_2 (b : BookT) (a kb : Int) (v : List Int) : layB b ⟨2, a, kb, v⟩ = { b with ss := b.ss ++ [[a, kb, key 0 v]] } := rfl
theorem layB_3 (b : BookT) (a kb : Int) (v : List Int) : layB b ⟨3, a, kb, v⟩ = { b with os := b.os ++ [[a, key 0 v, key 1 v, key 2 v, key 3 v, key 4 v]] } := rfl
theorem layB_4 (b : BookT) (a kb : Int) (v : List Int) : layB b ⟨4, a, kb, v⟩ = { b with rs := b.rs ++ [[a, key 0 v]] } := rfl
theorem layB_5 (b : BookT) (a kb : Int) (v : List Int) : layB b ⟨5, a, kb, v⟩ = { b with co := key 0 v } := rfl
theorem lay_len4 {b : BookT} {r : RowT} (h : LenB b) : LenB (layB b r) := by
  unfold layB
  split
  · exact ⟨mem_snoc h.h rfl, h.s, h.o, h.r⟩
  split
  · exact ⟨h.h, mem_snoc h.s rfl, h.o, h.r⟩
  split
  · exact ⟨h.h, h.s, mem_snoc h.o rfl, h.r⟩
  split
  · exact ⟨h.h, h.s, h.o, mem_snoc h.r rfl⟩
  · exact ⟨h.h, h.s, h.o, h.r⟩
theorem fold_len4 : ∀ (L : List RowT) {b : BookT}, LenB b → LenB (L.foldl layB b)
  | [], _, h => h
  | r :: L, _, h => fold_len4 L (lay_len4 (r := r) h)
theorem val1 {v : List Int} (h : v.length = 1) : v = [key 0 v] := by
  match v, h with
  | [a], _ => rfl
theorem valV3 {v : List Int} (h : v.length = 3) : v = [key 0 v, key 1 v, key 2 v] := by
  match v, h with
  | [a, b, c], _ => rfl
theorem val5 {v : List Int} (h : v.length = 5) : v = [key 0 v, key 1 v, key 2 v, key 3 v, key 4 v] := by
  match v, h with
  | [a, b, c, d, e], _ => rfl
theorem lay_one {b : BookT} {r : RowT} (hr : RowOk r) (h4 : r.l ≤ 4) (he : Emp r.l b) : rows4 (layB b r) = rows4 b ++ [r] ∧ Emp r.l (layB b r) := by
  obtain ⟨l, a, kb, v⟩ := r
  have h1 := hr.l1
  have hv := hr.v
  have hb := hr.b
  dsimp only at h1 h4 he hv hb
  obtain rfl | rfl | rfl | rfl : l = 1 ∨ l = 2 ∨ l = 3 ∨ l = 4 := by omega
  · have e1 := he.s (by decide)
    have e2 := he.o (by decide)
    have e3 := he.r (by decide)
    have e4 : kb = 0 := hb (by decide)
    have e5 := valV3 (show v.length = 3 from hv)
    rw [layB_1]
    refine ⟨?_, ⟨fun _ => e1, fun _ => e2, fun _ => e3⟩⟩
    unfold rows4
    dsimp only
    rw [e1, e2, e3, List.map_append]
    simp only [List.map_nil, List.append_nil, List.map_cons]
    rw [show rwH [a, key 0 v, key 1 v, key 2 v] = (⟨1, a, kb, v⟩ : RowT) by rw [e4]; show (⟨1, a, 0, [key 0 v, key 1 v, key 2 v]⟩ : RowT) = _; rw [← e5]]
  · have e2 := he.o (by decide)
    have e3 := he.r (by decide)
    have e5 := val1 (show v.length = 1 from hv)
    rw [layB_2]
    refine ⟨?_, ⟨fun h => absurd (show (2 : Int) < 2 from h) (by decide), fun _ => e2, fun _ => e3⟩⟩
    unfold rows4
    dsimp only
    rw [e2, e3, List.map_append]
    simp only [List.map_nil, List.append_nil, List.map_cons, List.append_assoc]
    rw [show rwS [a, kb, key 0 v] = (⟨2, a, kb, v⟩ : RowT) by show (⟨2, a, kb, [key 0 v]⟩ : RowT) = _; rw [← e5]]
  · have e3 := he.r (by decide)
    have e4 : kb = 0 := hb (by decide)
    have e5 := val5 (show v.length = 5 from hv)
    rw [layB_3]
    refine ⟨?_, ⟨fun h => absurd (show (3 : Int) < 2 from h) (by decide), fun h => absurd (show (3 : Int) < 3 from h) (by decide), fun _ => e3⟩⟩
    unfold rows4
    dsimp only
    rw [e3, List.map_append]
    simp only [List.map_nil, List.append_nil, List.map_cons, List.append_assoc]
    rw [show rwO [a, key 0 v, key 1 v, key 2 v, key 3 v, key 4 v] = (⟨3, a, kb, v⟩ : RowT) by rw [e4]; show (⟨3, a, 0, [key 0 v, key 1 v, key 2 v, key 3 v, key 4 v]⟩ : RowT) = _; rw [← e5]]
  · have e4 : kb = 0 := hb (by decide)
    have e5 := val1 (show v.length = 1 from hv)
    rw [layB_4]
    refine ⟨?_, ⟨fun h => absurd (show (4 : Int) < 2 from h) (by decide), fun h => absurd (show (4 : Int) < 3 from h) (by decide), fun h => absurd (show (4 : Int) < 4 from h) (by decide)⟩⟩
    unfold rows4
    dsimp only
    rw [List.map_append]
    simp only [List.map_nil, List.map_cons, List.append_assoc]
    rw [show rwR [a, key 0 v] = (⟨4, a, kb, v⟩ : RowT) by rw [e4]; show (⟨4, a, 0, [key 0 v]⟩ : RowT) = _; rw [← e5]]
theorem fold_rows4 : ∀ (L : List RowT) (b : BookT) (n : Int), (∀ r ∈ L, RowOk r ∧ n ≤ r.l ∧ r.l ≤ 4) → L.Pairwise (fun x y => x.l ≤ y.l) → Emp n b → rows4 (L.foldl layB b) = rows4 b ++ L
  | [], b, _, _, _, _ => by simp
  | r :: L, b, n, h, hp, he => by
    have hq := List.pairwise_cons.1 hp
    obtain ⟨h1, h2, h3⟩ := h r (List.mem_cons_self ..)
    obtain ⟨k1, k2⟩ := lay_one h1 h3 (he.up h2)
    rw [List.foldl_cons, fold_rows4 L _ r.l (fun y hy => ⟨(h y (List.mem_cons_of_mem _ hy)).1, hq.1 y hy, (h y (List.mem_cons_of_mem _ hy)).2.2⟩) hq.2 k2, k1, List.append_assoc]
    rfl
/-- Rows that rise, the count among them, are a book's. -/
theorem rows_fold {L : List RowT} (h : RiseR L) (hk : ∀ r ∈ L, RowOk r) (h5 : ∃ r ∈ L, r.l = 5) : rowsD (L.foldl layB zeroD) = L := by
  obtain ⟨q, hq, h5⟩ := h5
  obtain ⟨s, t, rfl⟩ := List.append_of_mem hq
  have hp := List.pairwise_append.1 h
  have ht := List.pairwise_cons.1 hp.2.1
  have kq := hk q hq
  have qa := kq.a h5
  have qb := kq.b (by rw [h5]; decide)
  have e : t = [] := by
    cases t with
    | nil => rfl
    | cons y t =>
      exfalso
      have h1 := ltR_iff.1 (ht.1 y (List.mem_cons_self ..))
      have ky := hk y (by simp)
      have y5 : y.l = 5 := by have := ky.l5; omega
      have ya := ky.a y5
      have yb := ky.b (by rw [y5]; decide)
      omega
  subst e
  have hs : ∀ r ∈ s, RowOk r ∧ 1 ≤ r.l ∧ r.l ≤ 4 := fun r hr => by
    have kr := hk r (List.mem_append_left _ hr)
    refine ⟨kr, kr.l1, ?_⟩
    have h1 := ltR_iff.1 (hp.2.2 r hr q (List.mem_cons_self ..))
    have := kr.l5
    by_cases h6 : r.l = 5
    · exfalso
      have ra := kr.a h6
      have rb := kr.b (by rw [h6]; decide)
      omega
    · omega
  have h4 := fold_rows4 s zeroD 1 hs (hp.1.imp (fun h => by have := ltR_iff.1 h; omega)) ⟨fun _ => rfl, fun _ => rfl, fun _ => rfl⟩
  rw [List.foldl_append, List.foldl_cons, List.foldl_nil, rowsD_4]
  obtain ⟨l, a, kb, v⟩ := q
  dsimp only at h5 qa qb
  subst h5 qa qb
  have e5 := val1 (show v.length = 1 from kq.v)
  rw [layB_5]
  show rows4 (s.foldl layB zeroD) ++ [rwC (key 0 v)] = _
  rw [h4]
  show s ++ [(⟨5, 0, 0, [key 0 v]⟩ : RowT)] = _
  rw [← e5]
theorem sub_rise {b : BookT} (h : RiseR (rowsD b)) : Sorted lt1 b.hs ∧ Sorted lt2 b.ss ∧ Sorted lt1 b.os ∧ Sorted lt1 b.rs := by
  unfold rowsD at h
  have p1 := List.pairwise_append.1 h
  have p2 := List.pairwise_append.1 p1.2.1
  have p3 := List.pairwise_append.1 p2.2.1
  have p4 := List.pairwise_append.1 p3.2.1
  exact ⟨(List.pairwise_map.1 p1.1).imp (fun h => by rw [ordH] at h; exact h), (List.pairwise_map.1 p2.1).imp (fun h => by rw [ordS] at h; exact h), (List.pairwise_map.1 p3.1).imp (fun h => by rw [ordO] at h; exact h), (List.pairwise_map.1 p4.1).imp (fun h => by rw [ordR] at h; exact h)⟩
theorem row_stake {b : BookT} {r : RowT} (h : r ∈ rowsD b) (hl : r.l = 2) : ∃ x ∈ b.ss, rwS x = r := by
  unfold rowsD at h
  simp only [List.mem_append, List.mem_map, List.mem_singleton] at h
  rcases h with ⟨x, _, rfl⟩ | ⟨x, hx, rfl⟩ | ⟨x, _, rfl⟩ | ⟨x, _, rfl⟩ | rfl
  · exact absurd (show (1 : Int) = 2 from hl) (by decide)
  · exact ⟨x, hx, rfl⟩
  · exact absurd (show (3 : Int) = 2 from hl) (by decide)
  · exact absurd (show (4 : Int) = 2 from hl) (by decide)
  · exact absurd (show (5 : Int) = 2 from hl) (by decide)
theorem row_open {b : BookT} {r : RowT} (h : r ∈ rowsD b) (hl : r.l = 3) : ∃ x ∈ b.os, rwO x = r := by
  unfold rowsD at h
  simp only [List.mem_append, List.mem_map, List.mem_singleton] at h
  rcases h with ⟨x, _, rfl⟩ | ⟨x, _, rfl⟩ | ⟨x, hx, rfl⟩ | ⟨x, _, rfl⟩ | rfl
  · exact absurd (show (1 : Int) = 3 from hl) (by decide)
  · exact absurd (show (2 : Int) = 3 from hl) (by decide)
  · exact ⟨x, hx, rfl⟩
  · exact absurd (show (4 : Int) = 3 from hl) (by decide)
  · exact absurd (show (5 : Int) = 3 from hl) (by decide)
theorem mem_stake {b : BookT} {x : Item} (hx : x ∈ b.ss) : rwS x ∈ rowsD b := by unfold rowsD; exact List.mem_append_right _ (List.mem_append_left _ (List.mem_map_of_mem hx))
theorem mem_open {b : BookT} {x : Item} (hx : x ∈ b.os) : rwO x ∈ rowsD b := by unfold rowsD; exact List.mem_append_right _ (List.mem_append_right _ (List.mem_append_left _ (List.mem_map_of_mem hx)))
/-- A change to a thing of nothing. -/
def badC (c : ChT) : Prop := c.now ≠ [] ∧ ((c.l = 2 ∧ key 0 c.now = 0) ∨ (c.l = 3 ∧ key 3 c.now = 0))
theorem set_co_neg {b : BookT} (c : ChT) (h : b.co < 0) : (setChT b c).co < 0 := by
  unfold setChT
  split
  · split <;> exact h
  split
  · split
    · show (-1 : Int) < 0; decide
    · exact h
  split
  · split
    · show (-1 : Int) < 0; decide
    · exact h
  split
  · split <;> exact h
  split
  · rw [if_neg (by omega)]; exact h
  · exact h
theorem set_co_bad {b : BookT} {c : ChT} (h : badC c) : (setChT b c).co < 0 := by
  obtain ⟨hn, ⟨hl, h0⟩ | ⟨hl, h0⟩⟩ := h
  · unfold setChT
    rw [if_neg (by omega), if_pos hl, if_pos ⟨hn, h0⟩]
    show (-1 : Int) < 0; decide
  · unfold setChT
    rw [if_neg (by omega), if_neg (by omega), if_pos hl, if_pos ⟨hn, h0⟩]
    show (-1 : Int) < 0; decide
theorem fold_co_neg : ∀ (l : List ChT) {b : BookT}, b.co < 0 → (l.foldl setChT b).co < 0
  | [], _, h => h
  | c :: l, _, h => fold_co_neg l (set_co_neg c h)
theorem fold_co_bad : ∀ (l : List ChT) (b : BookT), (∃ c ∈ l, badC c) → (l.foldl setChT b).co < 0
  | [], _, h => by obtain ⟨c, hc, _⟩ := h; cases hc
  | c :: l, b, h => by
    obtain ⟨d, hd, hb⟩ := h
    rw [List.foldl_cons]
    rcases List.mem_cons.1 hd with rfl | hd
    · exact fold_co_neg l (set_co_bad hb)
    · exact fold_co_bad l _ ⟨d, hd, hb⟩
theorem may_co {b : BookT} (h : b.co < 0) : mayT b = false := by
  unfold mayT sizesT
  have e : decide (0 ≤ b.co) = false := by simpa using h
  rw [e]; simp
theorem patchGo_all {rows : List RowT} : ∀ {l : List ChT} {b : BookT}, patchGo rows b l = if l.all (fun c => valueT rows c == c.was) = true then some (l.foldl setChT b) else none
  | [], _ => rfl
  | c :: cs, b => by
    unfold patchGo
    rw [List.all_cons]
    by_cases h : valueT rows c = c.was
    · rw [if_pos h, patchGo_all, List.foldl_cons]
      have e : (valueT rows c == c.was) = true := by simpa using h
      rw [e, Bool.true_and]
    · have e : (valueT rows c == c.was) = false := by simpa using h
      rw [if_neg h, e]; simp
theorem rise_C : ∀ {l : List ChT}, riseC l = true → RiseC l
  | [], _ => List.Pairwise.nil
  | [_], _ => List.pairwise_singleton _ _
  | x :: y :: r, h => by
    have h' : (ltC x y && riseC (y :: r)) = true := h
    rw [Bool.and_eq_true] at h'
    have ih := rise_C h'.2
    have hp := List.pairwise_cons.1 ih
    refine List.pairwise_cons.2 ⟨fun z hz => ?_, ih⟩
    rcases List.mem_cons.1 hz with rfl | hz
    · exact h'.1
    · exact less3_trans (a := keyC x) (b := keyC y) (c := keyC z) h'.1 (hp.1 z hz)
theorem one_row {c : ChT} (h : mayOne c = true) (hn : c.now ≠ []) : RowOk (rowOf c) := by
  unfold mayOne at h
  simp only [Bool.and_eq_true, decide_eq_true_eq, Bool.or_eq_true, beq_iff_eq, bne_iff_ne] at h
  obtain ⟨⟨⟨⟨⟨⟨h1, h2⟩, _⟩, h3⟩, _⟩, h4⟩, h5⟩ := h
  unfold valuesT at h3
  rw [if_neg hn] at h3
  simp only [Bool.and_eq_true, beq_iff_eq, Bool.or_eq_true, bne_iff_ne] at h3
  exact ⟨h1, h2, h3.1, fun e => by
    rcases h3.2 with (h | h) | h
    · exact absurd e h
    · exact .inl h
    · exact .inr h, fun e => by
    rcases h4 with h | h
    · exact absurd h e
    · exact h, fun e => by
    rcases h5 with h | h
    · exact absurd e h
    · exact h⟩
theorem one_five {c : ChT} (h : mayOne c = true) (h5 : c.l = 5) : c.now ≠ [] := fun e => by
  unfold mayOne at h
  simp only [Bool.and_eq_true] at h
  have h3 := h.1.1.1.2
  unfold valuesT at h3
  rw [if_pos e, h5] at h3
  exact absurd h3 (by decide)
theorem one_ne {c : ChT} (h : mayOne c = true) : c.was ≠ c.now := by
  unfold mayOne at h
  simp only [Bool.and_eq_true, bne_iff_ne] at h
  exact h.1.1.2
/-- THE PROGRAM'S PATCH IS THE DOCUMENT'S. -/
theorem patchP_ref {m : Nat} {a : BookT} {l : List ChT} (ha : mayT a = true) (ka : BookOk m a) (hl : mayCh l = true) : patchP a l = refPatch a l := by
  have MA := mayB ha ka
  obtain ⟨ra, oa, x5, hx5, l5⟩ := rows_book MA
  have hl' := hl
  unfold mayCh at hl'
  rw [Bool.and_eq_true] at hl'
  have hone := List.all_eq_true.1 hl'.1
  have hri := rise_C hl'.2
  have hpi := pairs_iff (rowsD a) l ra hri
  unfold patchP refPatch
  rw [if_neg (by rw [ha]; decide), if_neg (by rw [hl]; decide), patchGo_all]
  rw [show (sideP a l).all pairOkB = l.all (fun c => valueT (rowsD a) c == c.was) from hpi]
  cases hall : l.all (fun c => valueT (rowsD a) c == c.was) with
  | false => simp
  | true =>
    rw [if_neg (by decide), if_pos rfl]
    have hwas : ∀ c ∈ l, valueT (rowsD a) c = c.was ∧ c.was ≠ c.now := fun c hc => ⟨by simpa using List.all_eq_true.1 hall c hc, one_ne (hone c hc)⟩
    have hnz : ∀ x ∈ rowsD a, x.v ≠ [] := fun x hx => (oa x hx).ne
    have hm := merge_rowsP (rowsD a) l ra hri hnz hwas
    have hrr := rowsP_rise (rowsD a) l ra hri
    obtain ⟨hs1, hs2⟩ := rowsP_has (rowsD a) l
    have hro : ∀ r ∈ rowsP (rowsD a) l, RowOk r := fun r hr => by
      rcases rowsP_mem r hr with h | ⟨c, hc, rfl, hn⟩
      · exact oa r h
      · exact one_row (hone c hc) hn
    have h5 : ∃ r ∈ rowsP (rowsD a) l, r.l = 5 := by
      rcases hs1 x5 hx5 with h | ⟨c, hc, hk⟩
      · exact ⟨x5, h, l5⟩
      · have hk1 : c.l = 5 := by have := congrArg (fun k : K3 => k.1) hk; exact (show c.l = x5.l from this).trans l5
        exact ⟨rowOf c, hs2 c hc (one_five (hone c hc) hk1), hk1⟩
    have hrf := rows_fold hrr hro h5
    have hb : layAll (sideP a l) = (rowsP (rowsD a) l).foldl layB zeroD := rfl
    rw [hb]
    obtain ⟨b, hbb⟩ : ∃ b, (rowsP (rowsD a) l).foldl layB zeroD = b := ⟨_, rfl⟩
    rw [hbb] at hrf ⊢
    have hlen : LenB b := by rw [← hbb]; exact fold_len4 _ ⟨fun x hx => (by cases hx), fun x hx => (by cases hx), fun x hx => (by cases hx), fun x hx => by cases hx⟩
    by_cases hbad : ∃ c ∈ l, badC c
    · have h1 := may_co (fold_co_bad l a hbad)
      have h2 : mayT b = false := by
        obtain ⟨c, hc, hn, h⟩ := hbad
        have hr := hs2 c hc hn
        rw [← hrf] at hr
        rcases h with ⟨hl2, h0⟩ | ⟨hl3, h0⟩
        · obtain ⟨x, hx, e⟩ := row_stake hr hl2
          have hk : key 2 x = 0 := by
            have := congrArg (fun r : RowT => key 0 r.v) e
            exact (show key 2 x = key 0 c.now from this).trans h0
          have : b.ss.all (stakeT b) = false := by
            rw [List.all_eq_false]
            exact ⟨x, hx, by unfold stakeT; rw [hk]; simp⟩
          unfold mayT
          rw [this]; simp
        · obtain ⟨x, hx, e⟩ := row_open hr hl3
          have hk : key 4 x = 0 := by
            have := congrArg (fun r : RowT => key 3 r.v) e
            exact (show key 4 x = key 3 c.now from this).trans h0
          have : b.os.all (openT b) = false := by
            rw [List.all_eq_false]
            exact ⟨x, hx, by unfold openT; rw [hk]; simp⟩
          unfold mayT
          rw [this]; simp
      dsimp only
      rw [h1, h2]
      simp
    · have hgood : ∀ r ∈ rowsD b, (r.l = 2 → key 0 r.v ≠ 0) ∧ (r.l = 3 → key 3 r.v ≠ 0) := fun r hr => by
        rw [hrf] at hr
        rcases rowsP_mem r hr with h | ⟨c, hc, rfl, hn⟩
        · refine ⟨fun h2 => ?_, fun h3 => ?_⟩
          · obtain ⟨x, hx, rfl⟩ := row_stake h h2
            exact (MA.ls x hx).2
          · obtain ⟨x, hx, rfl⟩ := row_open h h3
            exact (MA.lo x hx).2
        · exact ⟨fun h2 h0 => hbad ⟨c, hc, hn, .inl ⟨h2, h0⟩⟩, fun h3 h0 => hbad ⟨c, hc, hn, .inr ⟨h3, h0⟩⟩⟩
      obtain ⟨s1, s2, s3, s4⟩ := sub_rise (b := b) (by rw [hrf]; exact hrr)
      have ML : MayL b := ⟨s1, s2, s3, s4, hlen.h, fun x hx => ⟨hlen.s x hx, (hgood (rwS x) (mem_stake hx)).1 rfl⟩, fun x hx => ⟨hlen.o x hx, (hgood (rwO x) (mem_open hx)).2 rfl⟩, hlen.r⟩
      have hd : diffT a b = l := by unfold diffT; rw [hrf]; exact hm
      have hf := fold_diff2 MA ML
      rw [hd] at hf
      dsimp only
      rw [hf]
end Go.Proofs.YtellifcjamedkaaGreat

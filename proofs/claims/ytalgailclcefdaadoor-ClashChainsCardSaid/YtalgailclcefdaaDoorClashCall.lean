/- Two things: the contracts of descent, clash, Find, Chain. -/
import Derived.Test.YtalgailclcefdaaDoorClashDownC
namespace Go.Proofs.YtalgailclcefdaaDoor
open Go.RowKit

theorem enters18 (args : Array Value) (w : World) : (callFunc 18 args).run Tryd.prog w = .ok (.enter 18 args) w := by kernel_rfl
theorem enters25 (args : Array Value) (w : World) : (callFunc 25 args).run Tryd.prog w = .ok (.enter 25 args) w := by kernel_rfl

theorem four_allocF {w : World} {A B C D : Obj} : ((((w.alloc A).alloc B).alloc C).alloc D).heap[w.heap.size]? = some A ∧ ((((w.alloc A).alloc B).alloc C).alloc D).heap[w.heap.size + 1]? = some B ∧ ((((w.alloc A).alloc B).alloc C).alloc D).heap[w.heap.size + 1 + 1]? = some C ∧
    ((((w.alloc A).alloc B).alloc C).alloc D).heap[w.heap.size + 1 + 1 + 1]? = some D ∧ Below w.heap.size w ((((w.alloc A).alloc B).alloc C).alloc D) := by
  obtain ⟨h1, h2, h3, h4⟩ := three_alloc (w := w) (A := A) (B := B) (C := C)
  have hs : (((w.alloc A).alloc B).alloc C).heap.size = w.heap.size + 1 + 1 + 1 := by simp
  have h5 := heap_alloc_new (((w.alloc A).alloc B).alloc C) D
  rw [hs] at h5
  exact ⟨(Below.heap_alloc _ _ _ (by omega)).trans h1, (Below.heap_alloc _ _ _ (by omega)).trans h2, (Below.heap_alloc _ _ _ (by omega)).trans h3, h5, h4.alloc (by omega) _⟩

theorem descent32 (f g gA gB : Nat) (w : World) :
    Calls Tryd.prog 32 #[.func (.func f) #[] #[.pointer (some ⟨gA, 0, none⟩)], .func (.func f) #[] #[.pointer (some ⟨gB, 0, none⟩)], .func (.func g) #[] #[]] w fun e w' => ∃ p2 p3 p4 p5, e = .returned (.func (.func 46) #[] #[.pointer (some ⟨p2, 0, none⟩), .pointer (some ⟨p3, 0, none⟩), .pointer (some ⟨p4, 0, none⟩), .pointer (some ⟨p5, 0, none⟩)]) ∧
      w'.cell? ⟨p2, 0, none⟩ = some (.func (.func f) #[] #[.pointer (some ⟨gA, 0, none⟩)]) ∧ w'.cell? ⟨p3, 0, none⟩ = some (.func (.func f) #[] #[.pointer (some ⟨gB, 0, none⟩)]) ∧ w'.cell? ⟨p4, 0, none⟩ = some (.func (.func g) #[] #[]) ∧
      w'.cell? ⟨p5, 0, none⟩ = some (.func (.func 46) #[] #[.pointer (some ⟨p2, 0, none⟩), .pointer (some ⟨p3, 0, none⟩), .pointer (some ⟨p4, 0, none⟩), .pointer (some ⟨p5, 0, none⟩)]) ∧ Below w.heap.size w w' := by
  go_enter Tryd.func32, Tryd.ntmps32
  go_wp2
  go_ret
  obtain ⟨k1, k2, k3, k4, k5⟩ := four_allocF (w := w) (A := .cells #[.func (.func f) #[] #[.pointer (some ⟨gA, 0, none⟩)]] 51) (B := .cells #[.func (.func f) #[] #[.pointer (some ⟨gB, 0, none⟩)]] 51) (C := .cells #[.func (.func g) #[] #[]] 43)
    (D := .cells #[.func (.func 46) #[] #[.pointer (some ⟨w.heap.size, 0, none⟩), .pointer (some ⟨w.heap.size + 1, 0, none⟩), .pointer (some ⟨w.heap.size + 1 + 1, 0, none⟩), .pointer (some ⟨w.heap.size + 1 + 1 + 1, 0, none⟩)]] 53)
  exact ⟨_, _, _, _, rfl, cell_of_one k1, cell_of_one k2, cell_of_one k3, cell_of_one k4, k5⟩

/-- What is held while clash runs. -/
def CW (n gA gB : Nat) (w W : World) : Prop := Below w.heap.size w W ∧ W.cell? ⟨gA, 0, none⟩ = some (.int .i64 (n : Int)) ∧ W.cell? ⟨gB, 0, none⟩ = some (.int .i64 (n : Int))
theorem CW.below {n gA gB : Nat} {w W W' : World} (h : CW n gA gB w W) (hb : Below W.heap.size W W') : CW n gA gB w W' := by
  have k := fun (p : Addr) (v : Value) (hv : W.cell? p = some v) => (hb.cell (p := p) (World.block_lt_of_cell? W _ hv)).trans hv
  exact ⟨bt2 h.1 hb, k _ _ h.2.1, k _ _ h.2.2⟩
theorem CW.lo {n gA gB : Nat} {w W : World} (h : CW n gA gB w W) : Below w.heap.size w W := h.1
theorem CW.ga {n gA gB : Nat} {w W : World} (h : CW n gA gB w W) : W.cell? ⟨gA, 0, none⟩ = some (.int .i64 (n : Int)) := h.2.1
theorem CW.gb {n gA gB : Nat} {w W : World} (h : CW n gA gB w W) : W.cell? ⟨gB, 0, none⟩ = some (.int .i64 (n : Int)) := h.2.2
def CWC (h : ByteArray → ByteArray) (la lb : List ByteArray) (gA gB : Nat) (w W : World) : Prop := Below w.heap.size w W ∧ ChHeld h la gA W ∧ ChHeld h lb gB W
theorem CWC.below {h : ByteArray → ByteArray} {la lb : List ByteArray} {gA gB : Nat} {w W W' : World} (k : CWC h la lb gA gB w W) (hb : Below W.heap.size W W') : CWC h la lb gA gB w W' := ⟨bt2 k.1 hb, k.2.1.below hb, k.2.2.below hb⟩
theorem CWC.lo {h : ByteArray → ByteArray} {la lb : List ByteArray} {gA gB : Nat} {w W : World} (k : CWC h la lb gA gB w W) : Below w.heap.size w W := k.1
theorem CWC.ga {h : ByteArray → ByteArray} {la lb : List ByteArray} {gA gB : Nat} {w W : World} (k : CWC h la lb gA gB w W) : ChHeld h la gA W := k.2.1
theorem CWC.gb {h : ByteArray → ByteArray} {la lb : List ByteArray} {gA gB : Nat} {w W : World} (k : CWC h la lb gA gB w W) : ChHeld h lb gB W := k.2.2
theorem hashedC_size (n : Nat) (h1 : n ≤ 32) (l : List ByteArray) (j : Nat) (hj : j ≤ l.length) (hz : ∀ t ∈ l, t.size ≤ 700000) : (hashedC (cutH n) l j).size ≤ 700100 := by
  by_cases h0 : j = 0
  · subst h0; rw [hashedC_zero]; show 0 ≤ _; omega
  · rw [hashedC_pos _ _ h0]
    have := lastS_size (chainS (cutH n) (l.take (j - 1))) (l.getD (j - 1) ⟨#[]⟩)
    rw [chain_size (cutH n) n (cutH_size n h1)] at this
    have g : (l.getD (j - 1) ⟨#[]⟩).size ≤ 700000 := by rw [List.getD_eq_getElem?_getD, List.getElem?_eq_getElem (by omega)]; exact hz _ (List.getElem_mem _)
    omega

/-- What is told of two rows. -/
def resR (h : ByteArray → ByteArray) (la lb : List ByteArray) : ByteArray × ByteArray × Int :=
  if rootS h la ≠ rootS h lb then (⟨#[]⟩, ⟨#[]⟩, 12) else if la = lb then (⟨#[]⟩, ⟨#[]⟩, 7) else ((findS h la lb).1, (findS h la lb).2, 0)
theorem resR_twin {h : ByteArray → ByteArray} {la lb : List ByteArray} (e : rootS h la ≠ rootS h lb) : resR h la lb = (⟨#[]⟩, ⟨#[]⟩, 12) := by unfold resR; rw [if_pos e]
theorem resR_none {h : ByteArray → ByteArray} {la : List ByteArray} : resR h la la = (⟨#[]⟩, ⟨#[]⟩, 7) := by unfold resR; rw [if_neg (by simp), if_pos rfl]
theorem resR_ok {h : ByteArray → ByteArray} {la lb : List ByteArray} (e : rootS h la = rootS h lb) (ne : la ≠ lb) : resR h la lb = ((findS h la lb).1, (findS h la lb).2, 0) := by unfold resR; rw [if_neg (by simpa using e), if_neg ne]

theorem clash17R_no (a a2 : Option Addr) (la lb ca cb : Nat) (n e : Int) (w : World) (h1 : la ≤ maxLen) (h2 : lb ≤ maxLen) (he : refC n la lb = e) (hne : e ≠ 0) :
    Calls Tryd.prog 17 #[.slice a la ca, .slice a2 lb cb, .int .i64 n, .func (.func 18) #[] #[], .func (.func 19) #[] #[]] w fun x w' => x = .returned (.tuple #[.string ⟨#[]⟩, .string ⟨#[]⟩, .int .i64 e]) ∧ w = w' := by
  have HR := Lib.hid (refusal29 n a a2 la lb ca cb w h1 h2)
  rw [he] at HR
  have hb : (e != 0) = true := by simpa using hne
  clear he h1 h2
  go_enter Tryd.func17, Tryd.ntmps17
  go_wp2_with (go_at_call 29; refine HR.out.mono ?_; rintro e w' ⟨rfl, rfl⟩)
  go_ret3
  exact ⟨rfl, rfl⟩
set_option maxRecDepth 100000 in
set_option maxHeartbeats 1000000 in
theorem clash17R (n : Nat) (h0 : 1 ≤ n) (h1 : n ≤ 32) (m : Nat) (la lb : List ByteArray) (a a2 : Option Addr) (ca cb : Nat) (w : World) (hla : la.length = m) (hlb : lb.length = m) (hm : m ≤ 4096) (hza : ∀ t ∈ la, t.size ≤ 700000) (hzb : ∀ t ∈ lb, t.size ≤ 700000)
    (hra : StrsAt w a la) (hrb : StrsAt w a2 lb) (hca : m ≤ ca) (hcb : m ≤ cb) (hK : KHeld w) :
    Calls Tryd.prog 17 #[.slice a m ca, .slice a2 m cb, .int .i64 (n : Int), .func (.func 18) #[] #[], .func (.func 19) #[] #[]] w fun x w' => x = .returned (.tuple #[.string (resR (cutH n) la lb).1, .string (resR (cutH n) la lb).2.1, .int .i64 (resR (cutH n) la lb).2.2]) ∧ Below w.heap.size w w' := by
  have HRF := Lib.hid (refusal29 (n : Int) a a2 m m ca cb w (by unfold maxLen; omega) (by unfold maxLen; omega))
  rw [refC_ok (by omega) hm] at HRF
  have hn7 := fun e => resR_twin (h := cutH n) (la := la) (lb := lb) e
  have hnn : la = lb → resR (cutH n) la lb = (⟨#[]⟩, ⟨#[]⟩, 7) := by rintro rfl; exact resR_none
  have hno := fun e ne => resR_ok (h := cutH n) (la := la) (lb := lb) e ne
  obtain ⟨RES, hRES⟩ : ∃ R, resR (cutH n) la lb = R := ⟨_, rfl⟩
  rw [hRES] at hn7 hnn hno ⊢
  clear hRES
  have HOA := Lib.hid (fun W => ofRows18 (.slice a m ca) (n : Int) W)
  have HOB := Lib.hid (fun W => ofRows18 (.slice a2 m cb) (n : Int) W)
  have HA := Lib.hid (fun (g : Nat) (W : World) (hb : Below w.heap.size w W) (hg : W.cell? ⟨g, 0, none⟩ = some (.int .i64 (n : Int))) => hashed33 n h0 h1 m la a ca g W hla hm hza (hra.below hb) hca (KHeld_of hK hb) hg)
  have HB := Lib.hid (fun (g : Nat) (W : World) (hb : Below w.heap.size w W) (hg : W.cell? ⟨g, 0, none⟩ = some (.int .i64 (n : Int))) => hashed33 n h0 h1 m lb a2 cb g W hlb hm hzb (hrb.below hb) hcb (KHeld_of hK hb) hg)
  have HDN := Lib.hid (fun (ne : la ≠ lb) (gA gB p2 p3 p4 p5 : Nat) (W : World) (hb : Below w.heap.size w W) (hd : DR n gA gB p2 p3 p4 p5 W) => down46R n h0 h1 gA gB p2 p3 p4 p5 m la lb a a2 ca cb W hla hlb hm hza hzb (hra.below hb) (hrb.below hb) hca hcb (KHeld_of hK hb) hd ne)
  have zA := hashedS_size (cutH n) n (cutH_size n h1) la 700000 hza
  have zB := hashedS_size (cutH n) n (cutH_size n h1) lb 700000 hzb
  have rA := (root_hashed (cutH n) la).symm
  have rB := (root_hashed (cutH n) lb).symm
  obtain ⟨X, hX⟩ : ∃ X, hashedS (cutH n) la = X := ⟨_, rfl⟩
  obtain ⟨Y, hY⟩ : ∃ Y, hashedS (cutH n) lb = Y := ⟨_, rfl⟩
  rw [hX] at HA zA rA
  rw [hY] at HB zB rB
  have HDA := Lib.hid (fun (W : World) (hb : Below w.heap.size w W) => digest30 X n W h0 h1 (by omega) (KHeld_of hK hb))
  have HDB := Lib.hid (fun (W : World) (hb : Below w.heap.size w W) => digest30 Y n W h0 h1 (by omega) (KHeld_of hK hb))
  rw [rA] at HDA
  rw [rB] at HDB
  have HEQ := Lib.hid (fun (W : World) (hb : Below w.heap.size w W) => equal31b a a2 la lb m m ca cb W hla hlb (hra.below hb) (hrb.below hb) (by omega) (by omega))
  obtain ⟨RA, hRA⟩ : ∃ R, rootS (cutH n) la = R := ⟨_, rfl⟩
  obtain ⟨RB, hRB⟩ : ∃ R, rootS (cutH n) lb = R := ⟨_, rfl⟩
  rw [hRA] at HDA
  rw [hRB] at HDB
  rw [hRA, hRB] at hn7 hno
  have HDE := Lib.hid (fun (gA gB : Nat) (W : World) => descent32 33 19 gA gB W)
  have HE1 := enters18; have HE2 := enters33; have HE3 := enters46
  have HT := Lib.hid hn7; have HN := Lib.hid hnn; have HO := Lib.hid hno
  clear hn7 hnn hno hla hlb hza hzb hra hrb hK zA zB rA rB hX hY hRA hRB
  go_enter Tryd.func17, Tryd.ntmps17
  go_upto_region 5 with (first
    | (go_at_call 29; refine HRF.out.mono ?_; rintro e w' ⟨rfl, rfl⟩)
    | (with_reducible refine (HOA.out _).mono ?_; rintro e w1 ⟨rfl, hc1, hs1, hb1⟩; have HC1 := Lib.hid hc1; have HB1 := Lib.hid hb1; have HS1 := Lib.hid hs1; clear hc1 hb1 hs1)
    | (with_reducible refine (HOB.out _).mono ?_; rintro e w2 ⟨rfl, hc2, hs2, hb2⟩; have HC2 := Lib.hid hc2; have HB2 := Lib.hid hb2; clear hc2 hb2 hs2))
  have hgA : w2.cell? ⟨w.heap.size, 0, none⟩ = some (.int .i64 (n : Int)) := (HB2.out.cell (p := ⟨w.heap.size, 0, none⟩) HS1.out).trans HC1.out
  have HW2 := Lib.hid (show Below w.heap.size w w2 from bt2 HB1.out HB2.out)
  obtain ⟨gB, hgBe⟩ : ∃ g, g = w1.heap.size := ⟨_, rfl⟩
  obtain ⟨gA, hgAe⟩ : ∃ g, g = w.heap.size := ⟨_, rfl⟩
  have HGB := Lib.hid (show w2.cell? ⟨gB, 0, none⟩ = some (.int .i64 (n : Int)) by rw [hgBe]; exact HC2.out)
  have HGA := Lib.hid (show w2.cell? ⟨gA, 0, none⟩ = some (.int .i64 (n : Int)) by rw [hgAe]; exact hgA)
  rw [← hgAe, ← hgBe]
  clear hgA HC1 HC2 HB1 HB2 HS1 hgAe hgBe
  refine at_world (Φ := fun W => CW n gA gB w W) ⟨HW2.out, HGA.out, HGB.out⟩ ?_
  clear HGA HGB HW2
  rintro w3 hw3
  have HW3 := Lib.hid hw3
  clear hw3
  by_cases hne : RA = RB
  · have hnb : (RA.toList == RB.toList) = true := by rw [hne]; simp
    by_cases hl : la = lb
    · have HEND := Lib.hid (HN.out hl)
      have HEQ' := Lib.hid HEQ.out
      rw [decide_eq_true hl] at HEQ'
      clear hl hne HEQ HDN HT HN HO
      go_wp2_with (first
          | (with_reducible refine (HA.out gA _ HW3.out.lo HW3.out.ga).mono ?_; rintro e w4 ⟨rfl, hb4⟩; have HW4 := Lib.hid (HW3.out.below hb4); clear hb4)
          | (go_at_call_of 30 (Value.string X); refine (HDA.out _ HW4.out.lo).mono ?_; rintro e w5 ⟨rfl, hb5⟩; have HW5 := Lib.hid (HW4.out.below hb5); clear hb5)
          | (with_reducible refine (HB.out gB _ HW5.out.lo HW5.out.gb).mono ?_; rintro e w6 ⟨rfl, hb6⟩; have HW6 := Lib.hid (HW5.out.below hb6); clear hb6)
          | (go_at_call_of 30 (Value.string Y); refine (HDB.out _ HW6.out.lo).mono ?_; rintro e w7 ⟨rfl, hb7⟩; have HW7 := Lib.hid (HW6.out.below hb7); clear hb7)
          | (go_at_call 31; refine (HEQ'.out _ HW7.out.lo).mono ?_; rintro e w8 ⟨rfl, hb8⟩; have HW8 := Lib.hid (HW7.out.below hb8); clear hb8))
      go_ret3
      exact ⟨by have h := HEND.out; subst h; rfl, HW8.out.1⟩
    · have HEND := Lib.hid (HO.out hne hl)
      have HEQ' := Lib.hid HEQ.out
      rw [decide_eq_false hl] at HEQ'
      have HDN' := Lib.hid (HDN.out hl)
      clear hl hne HEQ HDN HT HN HO
      generalize findS (cutH n) la lb = FS at *
      go_wp2_with (first
          | (with_reducible refine (HA.out gA _ HW3.out.lo HW3.out.ga).mono ?_; rintro e w4 ⟨rfl, hb4⟩; have HW4 := Lib.hid (HW3.out.below hb4); clear hb4)
          | (go_at_call_of 30 (Value.string X); refine (HDA.out _ HW4.out.lo).mono ?_; rintro e w5 ⟨rfl, hb5⟩; have HW5 := Lib.hid (HW4.out.below hb5); clear hb5)
          | (with_reducible refine (HB.out gB _ HW5.out.lo HW5.out.gb).mono ?_; rintro e w6 ⟨rfl, hb6⟩; have HW6 := Lib.hid (HW5.out.below hb6); clear hb6)
          | (go_at_call_of 30 (Value.string Y); refine (HDB.out _ HW6.out.lo).mono ?_; rintro e w7 ⟨rfl, hb7⟩; have HW7 := Lib.hid (HW6.out.below hb7); clear hb7)
          | (go_at_call 31; refine (HEQ'.out _ HW7.out.lo).mono ?_; rintro e w8 ⟨rfl, hb8⟩; have HW8 := Lib.hid (HW7.out.below hb8); clear hb8)
          | (go_at_call 32; refine (HDE.out gA gB _).mono ?_; rintro e w9 ⟨p2, p3, p4, p5, rfl, q2, q3, q4, q5, hb9⟩; have HD9 := Lib.hid (show DR n gA gB p2 p3 p4 p5 w9 from ⟨q2, q3, q4, q5, (HW8.out.below hb9).2.1, (HW8.out.below hb9).2.2⟩); have HW9 := Lib.hid (HW8.out.below hb9); clear hb9 q2 q3 q4 q5)
          | (with_reducible refine (HDN'.out gA gB p2 p3 p4 p5 _ HW9.out.lo HD9.out).mono ?_; rintro e w10 ⟨rfl, hb10⟩; have HW10 := Lib.hid (HW9.out.below hb10); clear hb10))
      go_ret3
      exact ⟨by have h := HEND.out; subst h; rfl, HW10.out.1⟩
  · have hnb : (RA.toList == RB.toList) = false := eqB_ne hne
    have HEND := Lib.hid (HT.out hne)
    clear hne HEQ HDN HN HO HT
    go_wp2_with (first
        | (with_reducible refine (HA.out gA _ HW3.out.lo HW3.out.ga).mono ?_; rintro e w4 ⟨rfl, hb4⟩; have HW4 := Lib.hid (HW3.out.below hb4); clear hb4)
        | (go_at_call_of 30 (Value.string X); refine (HDA.out _ HW4.out.lo).mono ?_; rintro e w5 ⟨rfl, hb5⟩; have HW5 := Lib.hid (HW4.out.below hb5); clear hb5)
        | (with_reducible refine (HB.out gB _ HW5.out.lo HW5.out.gb).mono ?_; rintro e w6 ⟨rfl, hb6⟩; have HW6 := Lib.hid (HW5.out.below hb6); clear hb6)
        | (go_at_call_of 30 (Value.string Y); refine (HDB.out _ HW6.out.lo).mono ?_; rintro e w7 ⟨rfl, hb7⟩; have HW7 := Lib.hid (HW6.out.below hb7); clear hb7))
    go_ret3
    exact ⟨by have h := HEND.out; subst h; rfl, HW7.out.1⟩

/-- What is told of two chains. -/
def resC (h : ByteArray → ByteArray) (la lb : List ByteArray) : ByteArray × ByteArray × Int :=
  if chainS h la ≠ chainS h lb then (⟨#[]⟩, ⟨#[]⟩, 12) else if la = lb then (⟨#[]⟩, ⟨#[]⟩, 7) else ((chainF h la.reverse lb.reverse).1, (chainF h la.reverse lb.reverse).2, 0)
theorem resC_twin {h : ByteArray → ByteArray} {la lb : List ByteArray} (e : chainS h la ≠ chainS h lb) : resC h la lb = (⟨#[]⟩, ⟨#[]⟩, 12) := by unfold resC; rw [if_pos e]
theorem resC_none {h : ByteArray → ByteArray} {la : List ByteArray} : resC h la la = (⟨#[]⟩, ⟨#[]⟩, 7) := by unfold resC; rw [if_neg (by simp), if_pos rfl]
theorem resC_ok {h : ByteArray → ByteArray} {la lb : List ByteArray} (e : chainS h la = chainS h lb) (ne : la ≠ lb) : resC h la lb = ((chainF h la.reverse lb.reverse).1, (chainF h la.reverse lb.reverse).2, 0) := by unfold resC; rw [if_neg (by simpa using e), if_neg ne]

theorem clash17C_no (a a2 : Option Addr) (la lb ca cb : Nat) (n e : Int) (w : World) (h1 : la ≤ maxLen) (h2 : lb ≤ maxLen) (he : refC n la lb = e) (hne : e ≠ 0) :
    Calls Tryd.prog 17 #[.slice a la ca, .slice a2 lb cb, .int .i64 n, .func (.func 25) #[] #[], .func (.func 26) #[] #[]] w fun x w' => x = .returned (.tuple #[.string ⟨#[]⟩, .string ⟨#[]⟩, .int .i64 e]) ∧ w = w' := by
  have HR := Lib.hid (refusal29 n a a2 la lb ca cb w h1 h2)
  rw [he] at HR
  have hb : (e != 0) = true := by simpa using hne
  clear he h1 h2
  go_enter Tryd.func17, Tryd.ntmps17
  go_wp2_with (go_at_call 29; refine HR.out.mono ?_; rintro e w' ⟨rfl, rfl⟩)
  go_ret3
  exact ⟨rfl, rfl⟩
set_option maxRecDepth 100000 in
set_option maxHeartbeats 1000000 in
theorem clash17C (n : Nat) (h0 : 1 ≤ n) (h1 : n ≤ 32) (m : Nat) (la lb : List ByteArray) (a a2 : Option Addr) (ca cb : Nat) (w : World) (hla : la.length = m) (hlb : lb.length = m) (hm : m ≤ 4096) (hza : ∀ t ∈ la, t.size ≤ 700000) (hzb : ∀ t ∈ lb, t.size ≤ 700000)
    (hra : StrsAt w a la) (hrb : StrsAt w a2 lb) (hca : m ≤ ca) (hcb : m ≤ cb) (hK : KHeld w) :
    Calls Tryd.prog 17 #[.slice a m ca, .slice a2 m cb, .int .i64 (n : Int), .func (.func 25) #[] #[], .func (.func 26) #[] #[]] w fun x w' => x = .returned (.tuple #[.string (resC (cutH n) la lb).1, .string (resC (cutH n) la lb).2.1, .int .i64 (resC (cutH n) la lb).2.2]) ∧ Below w.heap.size w w' := by
  have HRF := Lib.hid (refusal29 (n : Int) a a2 m m ca cb w (by unfold maxLen; omega) (by unfold maxLen; omega))
  rw [refC_ok (by omega) hm] at HRF
  have hn7 := fun e => resC_twin (h := cutH n) (la := la) (lb := lb) e
  have hnn : la = lb → resC (cutH n) la lb = (⟨#[]⟩, ⟨#[]⟩, 7) := by rintro rfl; exact resC_none
  have hno := fun e ne => resC_ok (h := cutH n) (la := la) (lb := lb) e ne
  obtain ⟨RES, hRES⟩ : ∃ R, resC (cutH n) la lb = R := ⟨_, rfl⟩
  rw [hRES] at hn7 hnn hno ⊢
  clear hRES
  have HOA := Lib.hid (fun (W : World) (hb : Below w.heap.size w W) => ofChain25 n h0 h1 la a m ca W hla hm hza (hra.below hb) (KHeld_of hK hb))
  have HOB := Lib.hid (fun (W : World) (hb : Below w.heap.size w W) => ofChain25 n h0 h1 lb a2 m cb W hlb hm hzb (hrb.below hb) (KHeld_of hK hb))
  have HA := Lib.hid (fun (g : Nat) (W : World) (hg : ChHeld (cutH n) la g W) => hashed41 (cutH n) n (cutH_size n h1) (by omega) la la.length a ca g W (Nat.le_refl _) (by omega) hza hg)
  have HB := Lib.hid (fun (g : Nat) (W : World) (hg : ChHeld (cutH n) lb g W) => hashed41 (cutH n) n (cutH_size n h1) (by omega) lb lb.length a2 cb g W (Nat.le_refl _) (by omega) hzb hg)
  have HDN := Lib.hid (fun (ne : la ≠ lb) (gA gB p2 p3 p4 p5 : Nat) (W : World) (hb : Below w.heap.size w W) (hd : DC (cutH n) la lb gA gB p2 p3 p4 p5 W) => down46C n h1 gA gB p2 p3 p4 p5 la lb a a2 (by omega) (by omega) hza hzb m ca cb W (hra.below hb) (hrb.below hb) (by omega) hca hcb hd (by rw [List.take_of_length_le (by omega), List.take_of_length_le (by omega)]; exact ne))
  rw [List.take_of_length_le (by omega), List.take_of_length_le (by omega)] at HDN
  have zA := hashedC_size n h1 la la.length (Nat.le_refl _) hza
  have zB := hashedC_size n h1 lb lb.length (Nat.le_refl _) hzb
  have rA := (chain_hashed (cutH n) la la.length (Nat.le_refl _)).symm
  have rB := (chain_hashed (cutH n) lb lb.length (Nat.le_refl _)).symm
  rw [List.take_length] at rA rB
  rw [hla] at HA zA rA
  rw [hlb] at HB zB rB
  obtain ⟨X, hX⟩ : ∃ X, hashedC (cutH n) la m = X := ⟨_, rfl⟩
  obtain ⟨Y, hY⟩ : ∃ Y, hashedC (cutH n) lb m = Y := ⟨_, rfl⟩
  rw [hX] at HA zA rA
  rw [hY] at HB zB rB
  have HDA := Lib.hid (fun (W : World) (hb : Below w.heap.size w W) => digest30 X n W h0 h1 (by omega) (KHeld_of hK hb))
  have HDB := Lib.hid (fun (W : World) (hb : Below w.heap.size w W) => digest30 Y n W h0 h1 (by omega) (KHeld_of hK hb))
  rw [rA] at HDA
  rw [rB] at HDB
  have HEQ := Lib.hid (fun (W : World) (hb : Below w.heap.size w W) => equal31b a a2 la lb m m ca cb W hla hlb (hra.below hb) (hrb.below hb) (by omega) (by omega))
  obtain ⟨RA, hRA⟩ : ∃ R, chainS (cutH n) la = R := ⟨_, rfl⟩
  obtain ⟨RB, hRB⟩ : ∃ R, chainS (cutH n) lb = R := ⟨_, rfl⟩
  rw [hRA] at HDA
  rw [hRB] at HDB
  rw [hRA, hRB] at hn7 hno
  have HDE := Lib.hid (fun (gA gB : Nat) (W : World) => descent32 41 26 gA gB W)
  have HE1 := enters25; have HE2 := enters41; have HE3 := enters46
  have HT := Lib.hid hn7; have HN := Lib.hid hnn; have HO := Lib.hid hno
  clear hn7 hnn hno hla hlb hza hzb hra hrb hK zA zB rA rB hX hY hRA hRB
  go_enter Tryd.func17, Tryd.ntmps17
  go_upto_region 5 with (first
    | (go_at_call 29; refine HRF.out.mono ?_; rintro e w' ⟨rfl, rfl⟩)
    | (with_reducible refine (HOA.out _ (Below.refl _ _)).mono ?_; rintro e w1 ⟨gA, rfl, hc1, hb1⟩; have HC1 := Lib.hid hc1; have HB1 := Lib.hid hb1; clear hc1 hb1)
    | (with_reducible refine (HOB.out _ HB1.out).mono ?_; rintro e w2 ⟨gB, rfl, hc2, hb2⟩; have HC2 := Lib.hid hc2; have HB2 := Lib.hid hb2; clear hc2 hb2))
  have HW2 := Lib.hid (show Below w.heap.size w w2 from bt2 HB1.out HB2.out)
  have HGA := Lib.hid (HC1.out.below HB2.out)
  refine at_world (Φ := fun W => CWC (cutH n) la lb gA gB w W) ⟨HW2.out, HGA.out, HC2.out⟩ ?_
  clear HC1 HC2 HB1 HB2 HGA HW2
  clear HOA HOB
  rintro w3 hw3
  have HW3 := Lib.hid hw3
  clear hw3
  by_cases hne : RA = RB
  · have hnb : (RA.toList == RB.toList) = true := by rw [hne]; simp
    by_cases hl : la = lb
    · have HEND := Lib.hid (HN.out hl)
      have HEQ' := Lib.hid HEQ.out
      rw [decide_eq_true hl] at HEQ'
      clear hl hne HEQ HDN HT HN HO
      go_wp2_with (first
          | (with_reducible refine (HA.out gA _ HW3.out.ga).mono ?_; rintro e w4 ⟨rfl, hb4⟩; have HW4 := Lib.hid (HW3.out.below hb4); clear hb4)
          | (go_at_call_of 30 (Value.string X); refine (HDA.out _ HW4.out.lo).mono ?_; rintro e w5 ⟨rfl, hb5⟩; have HW5 := Lib.hid (HW4.out.below hb5); clear hb5)
          | (with_reducible refine (HB.out gB _ HW5.out.gb).mono ?_; rintro e w6 ⟨rfl, hb6⟩; have HW6 := Lib.hid (HW5.out.below hb6); clear hb6)
          | (go_at_call_of 30 (Value.string Y); refine (HDB.out _ HW6.out.lo).mono ?_; rintro e w7 ⟨rfl, hb7⟩; have HW7 := Lib.hid (HW6.out.below hb7); clear hb7)
          | (go_at_call 31; refine (HEQ'.out _ HW7.out.lo).mono ?_; rintro e w8 ⟨rfl, hb8⟩; have HW8 := Lib.hid (HW7.out.below hb8); clear hb8))
      go_ret3
      exact ⟨by have h := HEND.out; subst h; rfl, HW8.out.1⟩
    · have HEND := Lib.hid (HO.out hne hl)
      have HEQ' := Lib.hid HEQ.out
      rw [decide_eq_false hl] at HEQ'
      have HDN' := Lib.hid (HDN.out hl)
      clear hl hne HEQ HDN HT HN HO
      generalize chainF (cutH n) la.reverse lb.reverse = FS at *
      go_wp2_with (first
          | (with_reducible refine (HA.out gA _ HW3.out.ga).mono ?_; rintro e w4 ⟨rfl, hb4⟩; have HW4 := Lib.hid (HW3.out.below hb4); clear hb4)
          | (go_at_call_of 30 (Value.string X); refine (HDA.out _ HW4.out.lo).mono ?_; rintro e w5 ⟨rfl, hb5⟩; have HW5 := Lib.hid (HW4.out.below hb5); clear hb5)
          | (with_reducible refine (HB.out gB _ HW5.out.gb).mono ?_; rintro e w6 ⟨rfl, hb6⟩; have HW6 := Lib.hid (HW5.out.below hb6); clear hb6)
          | (go_at_call_of 30 (Value.string Y); refine (HDB.out _ HW6.out.lo).mono ?_; rintro e w7 ⟨rfl, hb7⟩; have HW7 := Lib.hid (HW6.out.below hb7); clear hb7)
          | (go_at_call 31; refine (HEQ'.out _ HW7.out.lo).mono ?_; rintro e w8 ⟨rfl, hb8⟩; have HW8 := Lib.hid (HW7.out.below hb8); clear hb8)
          | (go_at_call 32; refine (HDE.out gA gB _).mono ?_; rintro e w9 ⟨p2, p3, p4, p5, rfl, q2, q3, q4, q5, hb9⟩; have HD9 := Lib.hid (show DC (cutH n) la lb gA gB p2 p3 p4 p5 w9 from ⟨q2, q3, q4, q5, (HW8.out.below hb9).2.1, (HW8.out.below hb9).2.2⟩); have HW9 := Lib.hid (HW8.out.below hb9); clear hb9 q2 q3 q4 q5)
          | (with_reducible refine (HDN'.out gA gB p2 p3 p4 p5 _ HW9.out.lo HD9.out).mono ?_; rintro e w10 ⟨rfl, hb10⟩; have HW10 := Lib.hid (HW9.out.below hb10); clear hb10))
      go_ret3
      exact ⟨by have h := HEND.out; subst h; rfl, HW10.out.1⟩
  · have hnb : (RA.toList == RB.toList) = false := eqB_ne hne
    have HEND := Lib.hid (HT.out hne)
    clear hne HEQ HDN HN HO HT
    go_wp2_with (first
        | (with_reducible refine (HA.out gA _ HW3.out.ga).mono ?_; rintro e w4 ⟨rfl, hb4⟩; have HW4 := Lib.hid (HW3.out.below hb4); clear hb4)
        | (go_at_call_of 30 (Value.string X); refine (HDA.out _ HW4.out.lo).mono ?_; rintro e w5 ⟨rfl, hb5⟩; have HW5 := Lib.hid (HW4.out.below hb5); clear hb5)
        | (with_reducible refine (HB.out gB _ HW5.out.gb).mono ?_; rintro e w6 ⟨rfl, hb6⟩; have HW6 := Lib.hid (HW5.out.below hb6); clear hb6)
        | (go_at_call_of 30 (Value.string Y); refine (HDB.out _ HW6.out.lo).mono ?_; rintro e w7 ⟨rfl, hb7⟩; have HW7 := Lib.hid (HW6.out.below hb7); clear hb7))
    go_ret3
    exact ⟨by have h := HEND.out; subst h; rfl, HW7.out.1⟩

theorem top8 (a a2 : Option Addr) (la lb ca cb : Nat) (n : Int) (w : World) (x y : ByteArray) (e : Int) (h : Calls Tryd.prog 17 #[.slice a la ca, .slice a2 lb cb, .int .i64 n, .func (.func 18) #[] #[], .func (.func 19) #[] #[]] w fun r w' => r = .returned (.tuple #[.string x, .string y, .int .i64 e]) ∧ Below w.heap.size w w') :
    Calls Tryd.prog 8 #[.slice a la ca, .slice a2 lb cb, .int .i64 n] w fun r w' => r = .returned (.tuple #[.string x, .string y, .int .i64 e]) ∧ Below w.heap.size w w' := by
  have H := Lib.hid h
  clear h
  go_enter Tryd.func8, Tryd.ntmps8
  go_wp2_with (go_at_call 17; refine H.out.mono ?_; rintro e w1 ⟨rfl, hb1⟩; have HB1 := Lib.hid hb1; clear hb1)
  go_ret3
  exact ⟨rfl, HB1.out⟩

theorem top13 (a a2 : Option Addr) (la lb ca cb : Nat) (n : Int) (w : World) (x y : ByteArray) (e : Int) (h : Calls Tryd.prog 17 #[.slice a la ca, .slice a2 lb cb, .int .i64 n, .func (.func 25) #[] #[], .func (.func 26) #[] #[]] w fun r w' => r = .returned (.tuple #[.string x, .string y, .int .i64 e]) ∧ Below w.heap.size w w') :
    Calls Tryd.prog 13 #[.slice a la ca, .slice a2 lb cb, .int .i64 n] w fun r w' => r = .returned (.tuple #[.string x, .string y, .int .i64 e]) ∧ Below w.heap.size w w' := by
  have H := Lib.hid h
  clear h
  go_enter Tryd.func13, Tryd.ntmps13
  go_wp2_with (go_at_call 17; refine H.out.mono ?_; rintro e w1 ⟨rfl, hb1⟩; have HB1 := Lib.hid hb1; clear hb1)
  go_ret3
  exact ⟨rfl, HB1.out⟩
end Go.Proofs.YtalgailclcefdaaDoor

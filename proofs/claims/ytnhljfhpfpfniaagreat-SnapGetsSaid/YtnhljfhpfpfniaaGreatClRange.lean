/- A range over a function whose iterator keeps state of its own in memory: what the iterator promises, what the rounds promise it, and the law for the caller. -/
import Derived.RangeFuncNested
import Derived.RangeFuncBound
import Derived.RangeFuncCalls
import Derived.RangeFuncLeaves
import Derived.Shelf.Abstract
import Derived.Shelf.RegionOpen
import Derived.OwnWalkIn
import Derived.TacticsInMore
import Derived.LoopNIn
import Derived.LoopIn
import Derived.Test.YtnhljfhpfpfniaaGreatBase
namespace Go.Proofs.YtnhljfhpfpfniaaGreat
open Go.RowKit Go.Shelf Base

/-- All that lay lies as it lay, but for the blocks of T. -/
structure Turns (T : Nat → Prop) (W W' : World) : Prop where
  os : W'.os = W.os
  tape : W'.tape = W.tape
  output : W'.output = W.output
  size : W.heap.size ≤ W'.heap.size
  block : ∀ k, k < W.heap.size → ¬ T k → W'.heap[k]? = W.heap[k]?
theorem Turns.refl (T : Nat → Prop) (W : World) : Turns T W W := ⟨rfl, rfl, rfl, Nat.le_refl _, fun _ _ _ => rfl⟩
theorem Turns.trans {T : Nat → Prop} {A B C : World} (h : Turns T A B) (k : Turns T B C) : Turns T A C :=
  ⟨k.os.trans h.os, k.tape.trans h.tape, k.output.trans h.output, Nat.le_trans h.size k.size, fun i hi ht => (k.block i (Nat.lt_of_lt_of_le hi h.size) ht).trans (h.block i hi ht)⟩
theorem Turns.grown {T : Nat → Prop} {A B C : World} {row : Option Nat} (h : Turns T A B) (hg : B.grownBy C row) (hr : ∀ k, row = some k → T k) : Turns T A C :=
  h.trans ⟨hg.os, hg.tape, hg.output, hg.size, fun i hi ht => hg.block i hi (fun e => ht (hr i e.symm))⟩
theorem Turns.below {T : Nat → Prop} {A B C : World} (h : Turns T A B) (hb : Below B.heap.size B C) : Turns T A C :=
  h.trans ⟨hb.os, hb.tape, hb.output, hb.size, fun i hi _ => hb.block i hi⟩
theorem Turns.drew {T : Nat → Prop} {A B : World} (h : Turns T A B) : Turns T A B.drew := ⟨h.os, h.tape, h.output, h.size, h.block⟩
theorem Turns.alloc {T : Nat → Prop} {A B : World} (h : Turns T A B) (o : Obj) : Turns T A (B.alloc o) := h.below ((Below.refl _ B).alloc (Nat.le_refl _) o)
theorem Turns.setCell {T : Nat → Prop} {A B : World} (h : Turns T A B) {p : Addr} (hp : T p.block) (v : Value) : Turns T A (B.setCell p v) :=
  h.trans ⟨rfl, rfl, rfl, by simp [World.setCell], fun i _ ht => Below.heap_setCell _ _ _ _ (fun e => ht (e ▸ hp))⟩
/-- What turns nothing below a block is 'Below' it. -/
theorem Turns.lo {T : Nat → Prop} {A B : World} {n : Nat} (h : Turns T A B) (hn : n ≤ A.heap.size) (ht : ∀ k, k < n → ¬ T k) : Below n A B := ⟨h.os, h.tape, h.output, h.size, fun k hk => h.block k (by omega) (ht k hk)⟩
theorem Turns.at {T : Nat → Prop} {A B : World} (h : Turns T A B) {k : Nat} {o : Obj} (hk : A.heap[k]? = some o) (ht : ¬ T k) : B.heap[k]? = some o := (h.block k (Array.getElem?_eq_some_iff.1 hk).1 ht).trans hk

/-- What the iterator's own steps leave standing. -/
def Bears {β : Type} (T : Nat → Prop) (J : β → World → Prop) : Prop := ∀ s W W', J s W → Turns T W W' → J s W'
theorem Bears.and {β : Type} {T : Nat → Prop} {J K : β → World → Prop} (h : Bears T J) (k : Bears T K) : Bears T (fun s W => J s W ∧ K s W) := fun s W W' hs ht => ⟨h s W W' hs.1 ht, k s W W' hs.2 ht⟩

/-- THE ITERATOR: called at a loop's yield it hands over one thing behind the other, of each 'Tl' of what came and of it; it turns the blocks of T alone; a round that goes on keeps Kp. In the end: all have come, 'Fin' of the world too; or a round said no more. -/
def SeqT {α : Type} (F : Fence) (n : Nat) (P : Program) (g : Nat) (lb : Array Value) (encs : α → Array Value) (T : Nat → Prop) (Kp : World → World → Prop) (Tl : List α → α → Prop) (Fin Cut : List α → World → Prop) (w : World) : Prop :=
  ∀ (l : Nat) (J Jx : List α → World → Prop) (W : World), Below w.heap.size w W → Bears T J → Bears T Jx →
    (∀ pre x W1, J pre W1 → Tl pre x → YieldAt F (n - 1) P l (encs x) W1 fun e W' =>
      (e = .returned (.bool true) ∧ J (pre ++ [x]) W' ∧ Kp W1 W') ∨ (e = .returned (.bool false) ∧ Jx (pre ++ [x]) W')) →
    J [] W →
    CallsIn F n P g (#[.func (.yield l) #[] #[]] ++ lb) W fun e W' => (∃ v, e = .returned v) ∧ ((∃ xs, Fin xs W' ∧ J xs W') ∨ (∃ pre, Cut pre W' ∧ Jx pre W'))

/-- The two blocks that a loop lays for itself: one for what the rounds defer, its record behind it. -/
def Kept (b : Nat) (r : Loop) (W : World) : Prop := W.heap[b]? = some (.deferred (some [])) ∧ W.heap[b + 1]? = some (.loop r)
theorem Kept.lt {b : Nat} {r : Loop} {W : World} (h : Kept b r W) : b + 1 < W.heap.size := (Array.getElem?_eq_some_iff.1 h.2).1
theorem Kept.turn {b : Nat} {r : Loop} {W W' : World} {T : Nat → Prop} (h : Kept b r W) (ht : Turns T W W') (hT : ∀ k, T k → k < b) : Kept b r W' :=
  ⟨ht.at h.1 (fun a => by have := hT _ a; omega), ht.at h.2 (fun a => by have := hT _ a; omega)⟩
theorem Kept.from {b : Nat} {r : Loop} {W W' : World} (h : Kept b r W) (hk : KeepsFrom b W W') : Kept b r W' := ⟨hk.same b _ (Nat.le_refl _) h.1 rfl, hk.same (b + 1) _ (Nat.le_succ _) h.2 rfl⟩
theorem Kept.put {b : Nat} {r : Loop} {W : World} (h : Kept b r W) (r' : Loop) : Kept b r' (W.putObj (b + 1) (.loop r')) := ⟨(World.putObj_heap_other (by omega)).trans h.1, World.putObj_heap_same h.lt⟩

variable {F : Fence} {n : Nat} {P : Program}

set_option maxHeartbeats 1000000 in
/-- THE CALLER: its invariant bears the iterator's steps and the loop's own book-keeping; its body is walked once. -/
theorem range_turns {α : Type} {g : Operand} {ps : Array Tmp} {assign body : Code} {Q : Exit → Act → World → Prop} {a : Act} {w w0 : World}
    (hro : F.round = none) (h1 : 1 ≤ n) {gf : Nat} {lb : Array Value} (hg : a.eval g = .func (.func gf) #[] lb) (hFg : F.fn gf) (eg : ∀ args w, (callFunc gf args).run P w = .ok (.enter gf args) w)
    {encs : α → Array Value} {T : Nat → Prop} {Kp : World → World → Prop} {Tl : List α → α → Prop} {Fin Cut : List α → World → Prop} (hseq : SeqT F (n - 1) P gf lb encs T Kp Tl Fin Cut w0)
    (hT : ∀ k, T k → k < w.heap.size) (hKt : ∀ {A B C : World}, Kp A B → Kp B C → Kp A C) (hKb : ∀ (W : World) (l : Nat) (o : Obj), w.heap.size < l → Kp W (W.putObj l o)) (hb0 : Below w0.heap.size w0 w) (hps : ∀ x, (encs x).size = ps.size)
    (hFin : OwnFrom w.heap.size Fin) (hCut : OwnFrom w.heap.size Cut)
    (I : List α → World → Prop) (Ix : Code → List α → World → Prop) (hI : OwnFrom w.heap.size I) (hIx : ∀ c, OwnFrom w.heap.size (Ix c)) (bI : Bears T I) (bIx : ∀ c, Bears T (Ix c)) (h0 : I [] w) (a₁ : α → Act)
    (hassign : ∀ (l : Nat) (x : α) (W : World) (K : Act → World → Prop), K (a₁ x) W →
      assign.wpIn (F.inRound l) (n - 1 - 1) P (Exit.then K (fun _ _ _ => False)) { tmps := (ps.zip (encs x)).foldl (fun t (p, v) => t.setIfInBounds p v) a.tmps, defers := [] } W)
    (hbody : ∀ (l : Nat) (pre : List α) (x : α) (W : World), I pre W → Tl pre x → body.wpIn (F.inRound l) (n - 1 - 1) P (ownPostG w.heap.size Kp I Ix (pre ++ [x]) W) (a₁ x) W)
    (hdone : ∀ (D : Nat) (xs : List α) (W : World), w.heap.size ≤ D → Fin xs W → I xs W → W.heap[D]? = some (.deferred (some [])) → Q .normal { a with defers := { target := .collected D, args := #[] } :: a.defers } W)
    (hstop : ∀ (D : Nat) (c : Code) (pre : List α) (W : World), w.heap.size ≤ D → Cut pre W → Ix c pre W → W.heap[D]? = some (.deferred (some [])) → c.wpIn F n P Q { a with defers := { target := .collected D, args := #[] } :: a.defers } W) :
    (Code.rangeFunc g ps assign body).wpIn F n P Q a w := by
  refine wpIn_rangeFunc fun fn hfn => ?_
  obtain ⟨R, hR⟩ : ∃ R : LoopState → Option Code → Loop, R = fun s j => ⟨s, j, fn, a.tmps, ps, assign, body, w.heap.size⟩ := ⟨_, rfl⟩
  obtain ⟨b, hb⟩ : ∃ b, w.heap.size = b := ⟨_, rfl⟩
  have hent := run_enterLoop_outer (P := P) (w := w) fn a.tmps ps assign body
  rw [← hro] at hent
  have hlay : Kept b (R .ready none) ((w.alloc (.deferred (some []))).alloc (.loop (R .ready none))) := by
    have e1 := World.alloc_heap_new w (.deferred (some []))
    have e2 := World.alloc_heap_new (w.alloc (.deferred (some []))) (.loop (R .ready none))
    rw [World.size_alloc, hb] at e2
    rw [hb] at e1
    exact ⟨(Below.heap_alloc _ _ _ (by simp; omega)).trans e1, e2⟩
  have hlo : Below w0.heap.size w0 ((w.alloc (.deferred (some []))).alloc (.loop (R .ready none))) := (hb0.alloc hb0.size _).alloc (by have := hb0.size; simp; omega) _
  have hst : I [] ((w.alloc (.deferred (some []))).alloc (.loop (R .ready none))) := hI.alloc _ (hI.alloc _ h0)
  rw [show (Loop.mk .ready none fn a.tmps ps assign body w.heap.size) = R .ready none by rw [hR]] at hent
  obtain ⟨W1, hW1⟩ : ∃ W1, (w.alloc (.deferred (some []))).alloc (.loop (R .ready none)) = W1 := ⟨_, rfl⟩
  rw [hW1] at hent hlay hlo hst
  refine ⟨w.heap.size + 1, [⟨.collected w.heap.size, #[]⟩], W1, ⟨.fn (.func gf) lb, #[.func (.yield (w.heap.size + 1)) #[] #[]]⟩, W1, gf, #[.func (.yield (w.heap.size + 1)) #[] #[]] ++ lb, W1, hent, ?_, ?_, ?_, fun _ => h1, ?_⟩
  · simp only [resolve, hg]; simp [go_sem]
  · intro f' hf; simp [Target.leads] at hf; subst hf; exact hFg
  · simp [invoke, go_sem, eg]
  rw [hb] at hT hI hIx hKb hFin hCut hbody hdone hstop ⊢
  have end_run : ∀ (s : LoopState) (j : Option Code) (W : World), Kept b (R s j) W → s ≠ .busy → (Instr.endLoop (b + 1)).run P W = .ok j (W.putObj (b + 1) (.loop (R .exhausted j))) := fun s j W h hs => by
    have := run_endLoop (P := P) h.2 (by rw [hR]; exact hs); rw [hR] at this ⊢; exact this
  refine (hseq (b + 1) (fun pre W => I pre W ∧ Kept b (R .ready none) W) (fun pre W => ∃ c, Ix c pre W ∧ Kept b (R .done (some c)) W) W1 hlo
    (bI.and (fun _ _ _ hs ht => hs.turn ht hT)) (fun _ _ _ ⟨c, h, hs⟩ ht => ⟨c, bIx c _ _ _ h ht, hs.turn ht hT⟩) ?round ⟨hst, hlay⟩).mono ?last
  case round =>
    rintro pre x W ⟨hi, hk⟩ htl
    have hyl := run_yield (P := P) (args := encs x) hk.2 (by rw [hR]; exact hps x)
    rw [hR] at hyl
    refine ⟨fn, _, assign, body, hyl, roundIn_of_wpIn hfn (hassign _ x W _ ⟨_, run_beginRound hk.2 (by rw [hR]), ?_⟩)⟩
    have hk2 : Kept b (R .busy none) (W.putObj (b + 1) (.loop { R .ready none with state := .busy })) := by rw [show ({ R .ready none with state := .busy } : Loop) = R .busy none by rw [hR]]; exact hk.put _
    have hp2 := hKb W (b + 1) (.loop { R .ready none with state := .busy }) (Nat.lt_succ_self _)
    refine wpIn_mono (hbody _ pre x _ (hI.putObj _ hi (Nat.le_succ _) hk.2 rfl) htl) ?_
    generalize W.putObj (b + 1) (.loop { R .ready none with state := .busy }) = W2 at *
    have fin : ∀ (j : Option Code) (W3 : World), KeepsFrom b W2 W3 → Kept b (R .busy none) W3 ∧ (Instr.endRound (b + 1) j).run P W3 = .ok (.bool j.isNone) (W3.putObj (b + 1) (.loop (R (if j.isNone then .ready else .done) j))) := fun j W3 h3 => by
      have k3 := hk2.from h3
      have := run_endRound (P := P) j k3.2
      exact ⟨k3, by rw [hR] at this ⊢; exact this⟩
    have out : ∀ (c : Code) (W3 : World), KeepsFrom b W2 W3 → Ix c (pre ++ [x]) W3 → ∃ v W', (Instr.endRound (b + 1) (some c)).run P W3 = .ok v W' ∧ v = .bool false ∧ ∃ c, Ix c (pre ++ [x]) W' ∧ Kept b (R .done (some c)) W' := fun c W3 h3 h4 =>
      have k3 := fin (some c) W3 h3
      ⟨_, _, k3.2, rfl, c, (hIx c).putObj _ h4 (Nat.le_succ _) k3.1.2 rfl, k3.1.put _⟩
    rintro e a3 W3 hp
    cases e with
    | normal =>
      obtain ⟨h3, hkp, h4⟩ := hp
      have k3 := fin none W3 h3
      exact ⟨_, _, k3.2, .inl ⟨rfl, ⟨hI.putObj _ h4 (Nat.le_succ _) k3.1.2 rfl, k3.1.put _⟩, hKt (hKt hp2 hkp) (hKb _ _ _ (Nat.lt_succ_self _))⟩⟩
    | ret => obtain ⟨v, W', r1, rfl, r2⟩ := out _ W3 hp.1 hp.2; exact ⟨_, _, r1, .inr ⟨rfl, r2⟩⟩
    | exit id => obtain ⟨v, W', r1, rfl, r2⟩ := out _ W3 hp.1 hp.2; exact ⟨_, _, r1, .inr ⟨rfl, r2⟩⟩
    | goto t => obtain ⟨v, W', r1, rfl, r2⟩ := out _ W3 hp.1 hp.2; exact ⟨_, _, r1, .inr ⟨rfl, r2⟩⟩
    | panic ch => exact hp.elim
    | outgrown => exact hp.elim
  case last =>
    rintro e W2 ⟨⟨v, rfl⟩, ⟨xs, hf, hi, hk⟩ | ⟨pre, hf, c, hi, hk⟩⟩
    · exact ⟨none, _, end_run _ _ _ hk (by intro h; cases h), hdone b xs _ (Nat.le_refl _) (hFin.putObj _ hf (Nat.le_succ _) hk.2 rfl) (hI.putObj _ hi (Nat.le_succ _) hk.2 rfl) (hk.put _).1⟩
    · exact ⟨some c, _, end_run _ _ _ hk (by intro h; cases h), hstop b c pre _ (Nat.le_refl _) (hCut.putObj _ hf (Nat.le_succ _) hk.2 rfl) ((hIx c).putObj _ hi (Nat.le_succ _) hk.2 rfl) (hk.put _).1⟩
end Go.Proofs.YtnhljfhpfpfniaaGreat

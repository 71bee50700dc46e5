/- Ranges over functions whose iterators make, and turn, memory of their own: what lies is told apart by block and by kind; nested ranges; regions that draw within a round. -/
import Derived.RangeFuncNested
import Derived.RangeFuncBound
import Derived.RangeFuncCalls
import Derived.RangeFuncLeaves
import Derived.Shelf.Abstract
import Derived.Shelf.RegionOpen
import Derived.OwnWalkIn
import Derived.TacticsInMore
import Derived.LoopNIn
import Derived.LoopIn
import Derived.Deep.RegionHeld
import Derived.Test.YtmndkbfjmamnfaaBase
namespace Go.Proofs.Ytmndkbfjmamnfaa
open Go.RowKit Go.Shelf Base

/-- Whatever lies that is none of T's lies as it lay. -/
structure TurnsK (T : Nat → Obj → Prop) (W W' : World) : Prop where
  os : W'.os = W.os
  tape : W'.tape = W.tape
  output : W'.output = W.output
  size : W.heap.size ≤ W'.heap.size
  block : ∀ (k : Nat) (o : Obj), W.heap[k]? = some o → ¬ T k o → W'.heap[k]? = some o
theorem TurnsK.refl (T : Nat → Obj → Prop) (W : World) : TurnsK T W W := ⟨rfl, rfl, rfl, Nat.le_refl _, fun _ _ h _ => h⟩
theorem TurnsK.trans {T : Nat → Obj → Prop} {A B C : World} (h : TurnsK T A B) (k : TurnsK T B C) : TurnsK T A C :=
  ⟨k.os.trans h.os, k.tape.trans h.tape, k.output.trans h.output, Nat.le_trans h.size k.size, fun i o hi ht => k.block i o (h.block i o hi ht) ht⟩
theorem TurnsK.mono {T S : Nat → Obj → Prop} {A B : World} (h : TurnsK T A B) (hs : ∀ k o, T k o → S k o) : TurnsK S A B := ⟨h.os, h.tape, h.output, h.size, fun i o hi ht => h.block i o hi (fun a => ht (hs _ _ a))⟩
theorem blk_ltK {W : World} {k : Nat} {o : Obj} (h : W.heap[k]? = some o) : k < W.heap.size := (Array.getElem?_eq_some_iff.1 h).1
theorem TurnsK.below {T : Nat → Obj → Prop} {A B : World} (hb : Below A.heap.size A B) : TurnsK T A B := ⟨hb.os, hb.tape, hb.output, hb.size, fun i _ hi _ => (hb.block i (blk_ltK hi)).trans hi⟩
theorem TurnsK.drew {T : Nat → Obj → Prop} {A B : World} (h : TurnsK T A B) : TurnsK T A B.drew := ⟨h.os, h.tape, h.output, h.size, h.block⟩
theorem TurnsK.alloc {T : Nat → Obj → Prop} {A B : World} (h : TurnsK T A B) (o : Obj) : TurnsK T A (B.alloc o) := h.trans (.below ((Below.refl _ B).alloc (Nat.le_refl _) o))
theorem TurnsK.grown {T : Nat → Obj → Prop} {A B : World} {row : Option Nat} (hg : A.grownBy B row) (hr : ∀ k o, row = some k → A.heap[k]? = some o → T k o) : TurnsK T A B :=
  ⟨hg.os, hg.tape, hg.output, hg.size, fun i o hi ht => (hg.block i (blk_ltK hi) (fun e => ht (hr i o e.symm hi))).trans hi⟩
theorem TurnsK.setCell {T : Nat → Obj → Prop} {A B : World} (h : TurnsK T A B) {p : Addr} {o : Obj} (hb : B.heap[p.block]? = some o) (hp : T p.block o) (v : Value) : TurnsK T A (B.setCell p v) :=
  h.trans ⟨rfl, rfl, rfl, by simp [World.setCell], fun i o' hi ht => (Below.heap_setCell _ _ _ _ (fun e => by subst e; rw [hb] at hi; cases hi; exact ht hp)).trans hi⟩
theorem TurnsK.setRow {T : Nat → Obj → Prop} {A B : World} (h : TurnsK T A B) {g : Nat} {o : Obj} (hb : B.heap[g]? = some o) (hp : T g o) (ks : Array Value) : TurnsK T A (B.setRow g ks) :=
  h.trans ⟨rfl, rfl, rfl, by simp, fun i o' hi ht => (setRow_other _ _ _ _ (fun e => by subst e; rw [hb] at hi; cases hi; exact ht hp)).trans hi⟩
theorem TurnsK.putObj {T : Nat → Obj → Prop} {A B : World} (h : TurnsK T A B) {l : Nat} {o : Obj} (hb : B.heap[l]? = some o) (hp : T l o) (o' : Obj) : TurnsK T A (B.putObj l o') :=
  h.trans ⟨rfl, rfl, rfl, by simp, fun i oi hi ht => (World.putObj_heap_other (fun e => by subst e; rw [hb] at hi; cases hi; exact ht hp)).trans hi⟩
/-- What turns nothing below a block is 'Below' it. -/
theorem TurnsK.lo {T : Nat → Obj → Prop} {A B : World} {n : Nat} (h : TurnsK T A B) (hn : n ≤ A.heap.size) (ht : ∀ k o, k < n → ¬ T k o) : Below n A B :=
  ⟨h.os, h.tape, h.output, h.size, fun k hk => by
    obtain ⟨o, ho⟩ : ∃ o, A.heap[k]? = some o := ⟨A.heap[k]'(by omega), by simp [show k < A.heap.size by omega]⟩
    rw [ho]; exact h.block k o ho (ht k o hk)⟩
/-- What an invariant bears. -/
def BearsK {β : Type} (T : Nat → Obj → Prop) (J : β → World → Prop) : Prop := ∀ s W W', J s W → TurnsK T W W' → J s W'
theorem BearsK.and {β : Type} {T : Nat → Obj → Prop} {J K : β → World → Prop} (h : BearsK T J) (k : BearsK T K) : BearsK T (fun s W => J s W ∧ K s W) := fun s W W' hs ht => ⟨h s W W' hs.1 ht, k s W W' hs.2 ht⟩
theorem BearsK.mono {β : Type} {T S : Nat → Obj → Prop} {J : β → World → Prop} (h : BearsK T J) (hs : ∀ k o, S k o → T k o) : BearsK S J := fun s W W' hj ht => h s W W' hj (ht.mono hs)
theorem BearsK.below {β : Type} {T : Nat → Obj → Prop} {J : β → World → Prop} (h : BearsK T J) {s : β} {W W' : World} (hs : J s W) (hb : Below W.heap.size W W') : J s W' := h s W W' hs (.below hb)

/-- What a round turns: its loop's record, and what R says. -/
def TLR (l : Nat) (R : Nat → Obj → Prop) : Nat → Obj → Prop := fun k o => (k = l ∧ o.isCells = false) ∨ R k o
/-- THE ITERATOR: called at a loop's yield it hands over one thing behind the other, each told of by 'Tl'; it turns what it made, of the kinds K. A round turns its loop's record, and what R says. In the end: all have come; or a round said no more. -/
def SeqK {α : Type} (P : Program) (g : Nat) (lb : Array Value) (encs : α → Array Value) (K : Obj → Prop) (R : Nat → Obj → Prop) (Tl : List α → α → World → Prop) (Fin : List α → Prop) (w : World) : Prop :=
  ∀ (l : Nat) (J Jx : List α → World → Prop) (W : World), Below w.heap.size w W → w.heap.size ≤ l → (∃ r, W.heap[l]? = some (.loop r)) →
    BearsK (fun k o => W.heap.size ≤ k ∧ K o) J → BearsK (fun k o => W.heap.size ≤ k ∧ K o) Jx →
    (∀ pre x W1, J pre W1 → Tl pre x W1 → YieldAt Fence.wide 0 P l (encs x) W1 fun e W' =>
      ((e = .returned (.bool true) ∧ J (pre ++ [x]) W') ∨ (e = .returned (.bool false) ∧ Jx (pre ++ [x]) W')) ∧ TurnsK (TLR l R) W1 W') →
    J [] W →
    Calls P g (#[.func (.yield l) #[] #[]] ++ lb) W fun e W' => (∃ v, e = .returned v) ∧ ((∃ xs, Fin xs ∧ J xs W') ∨ (∃ pre, Jx pre W'))

/-- The two blocks that a loop lays for itself. -/
def KeptK (b : Nat) (r : Loop) (W : World) : Prop := W.heap[b]? = some (.deferred (some [])) ∧ W.heap[b + 1]? = some (.loop r)
theorem KeptK.turn {b : Nat} {r : Loop} {W W' : World} {T : Nat → Obj → Prop} (h : KeptK b r W) (ht : TurnsK T W W') (hT : ∀ k o, T k o → o.isCells = true ∨ b + 1 < k ∨ k < b) : KeptK b r W' :=
  ⟨ht.block _ _ h.1 (fun a => by rcases hT _ _ a with h | h | h; cases h; omega; omega), ht.block _ _ h.2 (fun a => by rcases hT _ _ a with h | h | h; cases h; omega; omega)⟩
theorem KeptK.put {b : Nat} {r : Loop} {W : World} (h : KeptK b r W) (r' : Loop) : KeptK b r' (W.putObj (b + 1) (.loop r')) := ⟨(World.putObj_heap_other (by omega)).trans h.1, World.putObj_heap_same (blk_ltK h.2)⟩
/-- How the body of a round may be left. -/
def postK {α : Type} (R : Nat → Obj → Prop) (I : List α → World → Prop) (Ix : Code → List α → World → Prop) (xs : List α) (W : World) : Exit → Act → World → Prop
  | .normal, _, W' => TurnsK R W W' ∧ I xs W'
  | .ret, _, W' => TurnsK R W W' ∧ Ix .ret xs W'
  | .exit id, _, W' => TurnsK R W W' ∧ Ix (.exit id) xs W'
  | .goto t, _, W' => TurnsK R W W' ∧ Ix (.goto t) xs W'
  | .panic _, _, _ => False
  | .outgrown, _, _ => False

variable {P : Program}
theorem roundIn_any {n m l2 l : Nat} {f : FuncId} {tmps : Array Value} {assign body : Code} {w : World} {R : Ending → World → Prop} (h : RoundIn Fence.wide n P l f tmps assign body w R) : RoundIn (Fence.wide.inRound l2) m P l f tmps assign body w R :=
  ⟨h.1, fun c cs _ => h.2 c cs (room_wide _)⟩
theorem roundIn_wide {n m l : Nat} {f : FuncId} {tmps : Array Value} {assign body : Code} {w : World} {R : Ending → World → Prop} (h : RoundIn Fence.wide n P l f tmps assign body w R) : RoundIn Fence.wide m P l f tmps assign body w R :=
  ⟨h.1, fun c cs _ => h.2 c cs (room_wide _)⟩

set_option maxHeartbeats 1000000 in
/-- THE CALLER. -/
theorem range_kinds {n : Nat} {α : Type} {g : Operand} {ps : Array Tmp} {assign body : Code} {Q : Exit → Act → World → Prop} {a : Act} {w w0 : World}
    {gf : Nat} {lb : Array Value} (hg : a.eval g = .func (.func gf) #[] lb) (eg : ∀ args w, (callFunc gf args).run P w = .ok (.enter gf args) w)
    {encs : α → Array Value} {K : Obj → Prop} {R : Nat → Obj → Prop} {Tl : List α → α → World → Prop} {Fin : List α → Prop} (hseq : SeqK P gf lb encs K R Tl Fin w0)
    (hRc : ∀ k o, R k o → o.isCells = true ∨ k < w.heap.size) (hb0 : Below w0.heap.size w0 w) (hps : ∀ x, (encs x).size = ps.size)
    (I : List α → World → Prop) (Ix : Code → List α → World → Prop) (hI : BearsK (fun k o => w.heap.size ≤ k ∧ (K o ∨ o.isCells = false)) I) (hIx : ∀ c, BearsK (fun k o => w.heap.size ≤ k ∧ (K o ∨ o.isCells = false)) (Ix c)) (h0 : I [] w)
    (Ax : List α → α → Act → World → Prop) (hAx : ∀ pre x a', BearsK (fun k o => w.heap.size ≤ k ∧ o.isCells = false) (fun (_ : Unit) W => Ax pre x a' W))
    (hassign : ∀ (l : Nat) (pre : List α) (x : α) (W : World) (K : Act → World → Prop), I pre W → Tl pre x W → (∀ a' W', TurnsK R W W' → Ax pre x a' W' → K a' W') →
      assign.wpIn (Fence.wide.inRound l) n P (Exit.then K (fun _ _ _ => False)) { tmps := (ps.zip (encs x)).foldl (fun t (p, v) => t.setIfInBounds p v) a.tmps, defers := [] } W)
    (hbody : ∀ (l : Nat) (pre : List α) (x : α) (a' : Act) (W : World), Ax pre x a' W → body.wpIn (Fence.wide.inRound l) n P (postK R I Ix (pre ++ [x]) W) a' W)
    (hdone : ∀ (D : Nat) (xs : List α) (W : World), w.heap.size ≤ D → Fin xs → I xs W → W.heap[D]? = some (.deferred (some [])) → Q .normal { a with defers := { target := .collected D, args := #[] } :: a.defers } W)
    (hstop : ∀ (D : Nat) (c : Code) (pre : List α) (W : World), w.heap.size ≤ D → Ix c pre W → W.heap[D]? = some (.deferred (some [])) → c.wpIn Fence.wide n P Q { a with defers := { target := .collected D, args := #[] } :: a.defers } W) :
    (Code.rangeFunc g ps assign body).wpIn Fence.wide n P Q a w := by
  refine wpIn_rangeFunc fun fn hfn => ?_
  obtain ⟨R', hR⟩ : ∃ R', R' = fun s j => (⟨s, j, fn, a.tmps, ps, assign, body, w.heap.size⟩ : Loop) := ⟨_, rfl⟩
  obtain ⟨b, hb⟩ : ∃ b, w.heap.size = b := ⟨_, rfl⟩
  have hent := run_enterLoop_outer (P := P) (w := w) fn a.tmps ps assign body
  have hlay : KeptK b (R' .ready none) ((w.alloc (.deferred (some []))).alloc (.loop (R' .ready none))) := by
    have e1 := World.alloc_heap_new w (.deferred (some []))
    have e2 := World.alloc_heap_new (w.alloc (.deferred (some []))) (.loop (R' .ready none))
    rw [World.size_alloc, hb] at e2
    rw [hb] at e1
    exact ⟨(Below.heap_alloc _ _ _ (by simp; omega)).trans e1, e2⟩
  have hbl : Below w.heap.size w ((w.alloc (.deferred (some []))).alloc (.loop (R' .ready none))) := ((Below.refl _ w).alloc (Nat.le_refl _) _).alloc (by simp) _
  have hlo : Below w0.heap.size w0 ((w.alloc (.deferred (some []))).alloc (.loop (R' .ready none))) := hb0.trans (hbl.mono hb0.size)
  have hst : I [] ((w.alloc (.deferred (some []))).alloc (.loop (R' .ready none))) := hI.below h0 hbl
  rw [show (Loop.mk .ready none fn a.tmps ps assign body w.heap.size) = R' .ready none by rw [hR]] at hent
  obtain ⟨W1, hW1⟩ : ∃ W1, (w.alloc (.deferred (some []))).alloc (.loop (R' .ready none)) = W1 := ⟨_, rfl⟩
  have hs1 : w.heap.size + 2 = W1.heap.size := by rw [← hW1]; simp
  rw [hW1] at hent hlay hlo hst
  refine ⟨w.heap.size + 1, [⟨.collected w.heap.size, #[]⟩], W1, ⟨.fn (.func gf) lb, #[.func (.yield (w.heap.size + 1)) #[] #[]]⟩, W1, gf, #[.func (.yield (w.heap.size + 1)) #[] #[]] ++ lb, W1, hent, ?_, ?_, ?_, fun h => by simp [Fence.wide] at h, ?_⟩
  · simp only [resolve, hg]; simp [go_sem]
  · intro f' hf; exact trivial
  · simp [invoke, go_sem, eg]
  rw [hb] at hRc hI hIx hAx hdone hstop ⊢
  rw [hb] at hs1
  have hb2 := hb0.size
  rw [hb] at hb2
  have end_run : ∀ (s : LoopState) (j : Option Code) (W : World), KeptK b (R' s j) W → s ≠ .busy → (Instr.endLoop (b + 1)).run P W = .ok j (W.putObj (b + 1) (.loop (R' .exhausted j))) := fun s j W h hs => by
    have := run_endLoop (P := P) h.2 (by rw [hR]; exact hs); rw [hR] at this ⊢; exact this
  have put_t : ∀ {r : Loop} {W : World} (r' : Loop), W.heap[b + 1]? = some (.loop r) → TurnsK (fun k o => b ≤ k ∧ o.isCells = false) W (W.putObj (b + 1) (.loop r')) := fun r' h => (TurnsK.refl _ _).putObj h ⟨Nat.le_succ _, rfl⟩ _
  have put_l : ∀ {r : Loop} {W : World} (r' : Loop), W.heap[b + 1]? = some (.loop r) → TurnsK (TLR (b + 1) R) W (W.putObj (b + 1) (.loop r')) := fun r' h => (TurnsK.refl _ _).putObj h (.inl ⟨rfl, rfl⟩) _
  have upR : ∀ {A B : World}, TurnsK R A B → TurnsK (TLR (b + 1) R) A B := fun h => h.mono (fun _ _ => .inr)
  have bI : BearsK (fun k o => b ≤ k ∧ o.isCells = false) I := hI.mono (fun _ _ h => ⟨h.1, .inr h.2⟩)
  have bIx : ∀ c, BearsK (fun k o => b ≤ k ∧ o.isCells = false) (Ix c) := fun c => (hIx c).mono (fun _ _ h => ⟨h.1, .inr h.2⟩)
  have kR : ∀ {r : Loop} {A B : World}, KeptK b r A → TurnsK R A B → KeptK b r B := fun h ht => h.turn ht (fun k o a => (hRc k o a).imp id .inr)
  refine CallsIn.mono (callsIn_wide.2 (hseq (b + 1) (fun pre W => I pre W ∧ KeptK b (R' .ready none) W) (fun pre W => ∃ c, Ix c pre W ∧ KeptK b (R' .done (some c)) W) W1 hlo (by omega) ⟨_, hlay.2⟩
    ?bj ?bx ?round ⟨hst, hlay⟩)) ?last
  case bj =>
    rintro s A B ⟨h1, h2⟩ ht
    exact ⟨hI _ _ _ h1 (ht.mono fun k o h => ⟨by omega, .inl h.2⟩), h2.turn ht (fun k o h => .inr (.inl (by omega)))⟩
  case bx =>
    rintro s A B ⟨c, h1, h2⟩ ht
    exact ⟨c, hIx c _ _ _ h1 (ht.mono fun k o h => ⟨by omega, .inl h.2⟩), h2.turn ht (fun k o h => .inr (.inl (by omega)))⟩
  case round =>
    rintro pre x W ⟨hi, hk⟩ htl
    have hyl := run_yield (P := P) (args := encs x) hk.2 (by rw [hR]; exact hps x)
    rw [hR] at hyl
    refine ⟨fn, _, assign, body, hyl, roundIn_wide (roundIn_of_wpIn (n := n) hfn (hassign _ pre x W _ hi htl ?_))⟩
    rintro a' W' ht hax
    have hk' := kR hk ht
    refine ⟨_, run_beginRound hk'.2 (by rw [hR]), ?_⟩
    have e2 : ({ R' .ready none with state := .busy } : Loop) = R' .busy none := by rw [hR]
    have hk2 : KeptK b (R' .busy none) (W'.putObj (b + 1) (.loop { R' .ready none with state := .busy })) := by rw [e2]; exact hk'.put _
    have ht2 := (upR ht).trans (put_l { R' .ready none with state := .busy } hk'.2)
    refine wpIn_mono (hbody _ pre x a' _ (hAx pre x a' () _ _ hax (put_t { R' .ready none with state := .busy } hk'.2))) ?_
    generalize W'.putObj (b + 1) (.loop { R' .ready none with state := .busy }) = W2 at *
    have fin : ∀ (j : Option Code) (W3 : World), TurnsK R W2 W3 → KeptK b (R' .busy none) W3 ∧ (Instr.endRound (b + 1) j).run P W3 = .ok (.bool j.isNone) (W3.putObj (b + 1) (.loop (R' (if j.isNone then .ready else .done) j))) := fun j W3 h3 => by
      have k3 := kR hk2 h3
      have := run_endRound (P := P) j k3.2
      exact ⟨k3, by rw [hR] at this ⊢; exact this⟩
    have all : ∀ (W3 : World) (r' : Loop), TurnsK R W2 W3 → TurnsK (TLR (b + 1) R) W (W3.putObj (b + 1) (.loop r')) := fun W3 r' h3 => (ht2.trans (upR h3)).trans (put_l r' (kR hk2 h3).2)
    have out : ∀ (c : Code) (W3 : World), TurnsK R W2 W3 → Ix c (pre ++ [x]) W3 → ∃ v W', (Instr.endRound (b + 1) (some c)).run P W3 = .ok v W' ∧ v = .bool false ∧ (∃ c, Ix c (pre ++ [x]) W' ∧ KeptK b (R' .done (some c)) W') ∧ TurnsK (TLR (b + 1) R) W W' := fun c W3 h3 h4 =>
      have k3 := fin (some c) W3 h3
      ⟨_, _, k3.2, rfl, ⟨c, bIx c _ _ _ h4 (put_t _ k3.1.2), k3.1.put _⟩, all _ _ h3⟩
    rintro e a3 W3 hp
    cases e with
    | normal =>
      obtain ⟨h3, h4⟩ := hp
      have k3 := fin none W3 h3
      exact ⟨_, _, k3.2, .inl ⟨rfl, bI _ _ _ h4 (put_t _ k3.1.2), k3.1.put _⟩, all _ _ h3⟩
    | ret => obtain ⟨v, W', r1, rfl, r2, r3⟩ := out _ W3 hp.1 hp.2; exact ⟨_, _, r1, .inr ⟨rfl, r2⟩, r3⟩
    | exit id => obtain ⟨v, W', r1, rfl, r2, r3⟩ := out _ W3 hp.1 hp.2; exact ⟨_, _, r1, .inr ⟨rfl, r2⟩, r3⟩
    | goto t => obtain ⟨v, W', r1, rfl, r2, r3⟩ := out _ W3 hp.1 hp.2; exact ⟨_, _, r1, .inr ⟨rfl, r2⟩, r3⟩
    | panic ch => exact hp.elim
    | outgrown => exact hp.elim
  case last =>
    rintro e W2 ⟨⟨v, rfl⟩, ⟨xs, hf, hi, hk⟩ | ⟨pre, c, hi, hk⟩⟩
    · exact ⟨none, _, end_run _ _ _ hk (by intro h; cases h), hdone b xs _ (Nat.le_refl _) hf (bI _ _ _ hi (put_t _ hk.2)) (hk.put _).1⟩
    · exact ⟨some c, _, end_run _ _ _ hk (by intro h; cases h), hstop b c pre _ (Nat.le_refl _) (bIx c _ _ _ hi (put_t _ hk.2)) (hk.put _).1⟩

/-! ### A region that draws, within a round -/
theorem wpOp_round {n l : Nat} {ops : Array Oper} {Q : Exit → Act → World → Prop} (hd : ∀ o ∈ ops, ∀ c, o.op ≠ .defer c) (hQ : ¬ LetsOut Q) {i : Nat} {K : Act → World → Prop} {a : Act} {w : World}
    (h : wpOp P ops Q i K a w) : wpOpIn (Fence.wide.inRound l) n P ops Q i K a w := by
  unfold wpOp at h
  unfold wpOpIn
  cases ho : ops[i]? with
  | none => simpa [ho] using h
  | some o =>
    simp only [ho] at h ⊢
    have hmem : o ∈ ops := Array.mem_of_getElem? ho
    split
    · rename_i hw
      simp only [hw, if_true] at h
      rcases h with h | ⟨_, h⟩
      · unfold Oper.wp at h
        unfold Oper.wpIn
        refine ⟨fun _ _ => trivial, ?_⟩
        rw [show (Fence.wide.inRound l).round = some l from rfl, Oper.semAt_some l _ _ (hd o hmem)]
        generalize (execOp a.eval o).run P w = r at *
        cases r with
        | ok x w' =>
          cases x with
          | value v => exact h
          | skip => exact h
          | defer d => exact h
          | enter f args => exact ⟨fun h => by simp [Fence.wide] at h, callsIn_wide.2 h⟩
          | row r args => exact ⟨fun h => by simp [Fence.wide] at h, fun c cs _ => let ⟨v, w'', r1, s⟩ := h c cs; ⟨v, w'', r1, stepsIn_wide.2 s⟩⟩
          | _ => exact h.elim
        | halt x w' => cases x <;> exact h
      · exact absurd h hQ
    · rename_i hw
      simp only [hw] at h
      exact ⟨fun _ _ => trivial, h⟩
theorem wpAny_round {n l : Nat} {md : Region.Mode} {ops : Array Oper} {Q : Exit → Act → World → Prop} (hd : ∀ o ∈ ops, ∀ c, o.op ≠ .defer c) (hQ : ¬ LetsOut Q) :
    ∀ (fuel : Nat) (listed : Array Bool) (a : Act) (w : World), wpAny P md ops Q fuel listed a w → wpAnyIn (Fence.wide.inRound l) n P md ops Q fuel listed a w
  | 0, _, _, _, h => h
  | fuel + 1, _, _, _, h => ⟨h.1, fun i hi => wpOpIn_mono (fun a w h => wpAny_round hd hQ fuel _ a w h) (wpOp_round hd hQ (h.2 i hi))⟩
def noDefer (ops : Array Oper) : Bool := ops.all fun o => match o.op with | .defer _ => false | _ => true
theorem noDefer_spec {ops : Array Oper} (h : noDefer ops = true) : ∀ o ∈ ops, ∀ c, o.op ≠ .defer c := fun o ho c e => by
  have := Array.all_eq_true_iff_forall_mem.1 h o ho
  simp [e] at this
/-- THE BEGINNING: as outside of a round. -/
theorem region_round {n l : Nat} {ops : Array Oper} {Q : Exit → Act → World → Prop} {S : World → Prop} {id : Nat} {a : Act} {w : World} (hd : noDefer ops = true) (hQ : ¬ LetsOut Q) (hm : P.follows .mixedOrders = true) (hS : S w.drew)
    (h : S w.drew → wpAnyH P .any ops Q S ops.size (Array.replicate ops.size false) a w.drew) : (Code.region id ops true).wpIn (Fence.wide.inRound l) n P Q a w :=
  wpIn_region_any hm (wpAny_round (noDefer_spec hd) hQ _ _ _ _ (wpAny_of_held _ _ _ _ (h hS)))
end Go.Proofs.Ytmndkbfjmamnfaa

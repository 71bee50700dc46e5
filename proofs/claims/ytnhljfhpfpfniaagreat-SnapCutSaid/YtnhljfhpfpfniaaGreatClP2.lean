/- The program's Runs: the runs that its iterator tells, gathered. -/
import Derived.Test.YtnhljfhpfpfniaaGreatClP1
namespace Go.Proofs.YtnhljfhpfpfniaaGreat
open Go.RowKit Go.Shelf Base Base2
attribute [local go_sem] Oper.semAt_some

theorem turns_below {W W' : World} (h : Turns (fun _ => False) W W') : Below W.heap.size W W' := h.lo (Nat.le_refl _) (fun _ _ a => a)
theorem runs_seq (n : Nat) (hn : 1 ≤ n) (Bn : Nat) (a : Option Addr) (c : Nat) (l : List Int) (V : World) (hr : I64s V a l) (hin : ∀ x ∈ l, in64 x) (hl : l.length ≤ 1000000) (w0 : World) (hV : Below V.heap.size V w0) (hBn : w0.heap[Bn]? = some (.cells #[.slice a l.length c] 59 (0, 0))) :
    SeqT Fence.wide n Tryz.prog 130 #[.pointer (some ⟨Bn, 0, none⟩)] encT (fun _ => False) (KpR V.heap.size Bn) (TlR l.length) (fun ys _ => ys = runsS l) (fun _ _ => True) w0 := fun lo J Jx W hW hJ _ hY h0 =>
  run31 n hn lo Bn a c l V hr hin hl J Jx hJ hY W (hV.trans (hW.mono hV.size)) ((hW.block Bn (lt_of_blk hBn)).trans hBn) h0
theorem kpR_t {n b : Nat} {A B C : World} (h : KpR n b A B) (k : KpR n b B C) : KpR n b A C := ⟨h.1.trans k.1, k.2.trans h.2⟩
theorem kpR_b {n b s : Nat} (hn : n ≤ s) (hb : b < s) (W : World) (l : Nat) (o : Obj) (hl : s < l) : KpR n b W (W.putObj l o) :=
  ⟨⟨rfl, rfl, rfl, by simp, fun k hk => World.putObj_heap_other (by omega)⟩, World.putObj_heap_other (by omega)⟩
theorem runs_lens {M : Nat} {pre : List RunT} {x : RunT} (h : TlR M pre x) : pre.length < M ∧ x.2 ≤ M ∧ in64 x.1 := by
  obtain ⟨h1, h2, h3⟩ := h
  have h4 := canon_len _ _ h1
  have h5 := total_mem (pre ++ [x]) x (by simp)
  rw [List.length_append, List.length_singleton] at h4
  exact ⟨by omega, by omega, h3⟩
end Go.Proofs.YtnhljfhpfpfniaaGreat

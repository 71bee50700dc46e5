/- What the laws want of the program's disk, all in one. -/
import Derived.Test.YtcedkilgfoiifaaDkP16
namespace Go.Proofs.Ytcedkilgfoiifaa
open Go.RowKit Base Base2

theorem crash16 {W : World} {b : Nat} {F : Nat → Prop} {d : DkT} (f : Nat) (caps : Array Value) (keep : List Int) (h : PDx W b F d) (hp : PlayOk 200 d)
    (HE : ∀ (args : Array Value) (w : World), (callFunc f args).run Try.prog w = .ok (.enter f args) w) (hz : ∀ z ∈ keep, In64D z) (hch : ∀ (i : Nat) (W' : World), i < d.pend.length → Frame F W W' → Calls Try.prog f (#[.int .i64 (i : Int)] ++ caps) W' fun e w' => e = .returned (.int .i64 (chooseK keep i)) ∧ w' = W') :
    Calls Try.prog 16 #[.pointer (some ⟨b, 0, none⟩), .func (.func f) #[] caps] W fun e w' => e = .returned (.int .i64 0) ∧ ∃ F', PDx w' b F' (crashF d keep) ∧ Frame F W w' ∧ Grows W F F' := by
  obtain ⟨m1, m2, F1, F2, pa, pc, fs, h⟩ := h
  exact crash16h f caps keep h hp HE hz hch
theorem of8no {W : World} (a : Option Addr) (c : Nat) (files : List FileT) (room : Int) (hf : FilesAt W a files) (hl : files.length ≤ 60) (hsz : ∀ f ∈ files, f.1.size ≤ maxLen ∧ f.2.size ≤ maxLen) (h : room < 0 ∨ 1048576 < room ∨ mayF files = false) :
    Calls Try.prog 8 #[.slice a files.length c, .int .i64 room] W fun e w' => e = .returned (.tuple #[.pointer none, .int .i64 1]) ∧ Below W.heap.size W w' := by
  by_cases h1 : room < 0
  · exact of8lo a c files room h1
  by_cases h2 : 1048576 < room
  · exact of8hi a c files room h2
  exact of8may a c files room hf hl hsz (by omega) (by omega) ((h.resolve_left h1).resolve_left h2)
theorem progC : ProgC PDx := {
  mono := pdx_mono,
  lt := pdx_lt,
  files := files26,
  kept := kept27,
  used := used28,
  room := room29,
  pend := pending24,
  read := read22,
  write := fun name s pl h hp hn hs _ => write19 name s pl h hp hn hs,
  sync := sync12,
  cut := cut14,
  crash := fun f caps keep h hp HE _ hz hch => crash16 f caps keep h hp HE hz hch,
  new := new30,
  ofNo := fun a c files room hf hl _ _ hsz h => of8no a c files room hf hl hsz h,
  ofFull := fun a c files room hf hl hu h0 h1 h hlt => of8full a c files room hf hl hu h0 h1 h hlt,
  of := fun a c files room hf hl hu h0 h1 h hlt => of8 a c files room hf hl hu h0 h1 h hlt,
  may := fun a c files hf hl hsz => may9 a files c _ hf hl hsz }
end Go.Proofs.Ytcedkilgfoiifaa

/- What the laws of books as bytes ask of the program; the example. -/
import Derived.Test.YtnhljfhpfpfniaaGreatSnRput
namespace Go.Proofs.YtnhljfhpfpfniaaGreat
open Go.RowKit Base Base2

def putSn (b : BookT) : ByteArray × Int := if mayT b then (snapB b, 0) else (⟨#[]⟩, 1)
def getSn (s : ByteArray) : BookT × Int := getSnap s.data.toList
/-- What the laws ask of the program's calls; K: what they lean on in memory. -/
structure SnapC (K : World → Prop) : Prop where
  keep : ∀ (W W' : World), K W → Below W.heap.size W W' → K W'
  put : ∀ (v : Slots) (b : BookT) (W : World), K W → BookIn W v b → BookOk 1024 b → Calls Tryz.prog 8 #[.agg (cellsB v b)] W fun e w' => e = .returned (.tuple #[.string (putSn b).1, .int .i64 (putSn b).2]) ∧ Below W.heap.size W w'
  get : ∀ (s : ByteArray) (W : World), K W → s.size ≤ 100000 → Calls Tryz.prog 10 #[.string s] W fun e w' => (∃ v, e = .returned (.tuple #[.agg (cellsB v (getSn s).1), .int .i64 (getSn s).2]) ∧ BookIn w' v (getSn s).1) ∧ Below W.heap.size W w'
theorem ItemsOk.monoS {k m n : Nat} {l : List Item} (h : ItemsOk k m l) (hm : m ≤ n) : ItemsOk k n l := ⟨Nat.le_trans h.1 hm, h.2⟩
theorem BookOk.monoS {m n : Nat} {b : BookT} (h : BookOk m b) (hm : m ≤ n) : BookOk n b := ⟨h.hs.monoS hm, h.ss.monoS hm, h.os.monoS hm, h.rs.monoS hm, h.co⟩
def zeroS : Slots := ⟨none, none, none, none, 0, 0, 0, 0⟩
theorem in_zero (W : World) : BookIn W zeroS zeroB := ⟨.inl rfl, .inl rfl, .inl rfl, .inl rfl⟩
theorem zero_ok (m : Nat) : BookOk m zeroB := ⟨⟨Nat.zero_le _, by simp [zeroB]⟩, ⟨Nat.zero_le _, by simp [zeroB]⟩, ⟨Nat.zero_le _, by simp [zeroB]⟩, ⟨Nat.zero_le _, by simp [zeroB]⟩, by unfold in6 zeroB; decide⟩
theorem zero_may : mayT zeroB = true := by decide
theorem zero_bytes : snapB zeroB = ⟨#[0, 0, 0, 0, 0, 0, 0, 0, 0, 0, 0, 0, 0, 0, 0, 0]⟩ := by kernel_rfl
theorem put_zero : putSn zeroB = (⟨#[0, 0, 0, 0, 0, 0, 0, 0, 0, 0, 0, 0, 0, 0, 0, 0]⟩, 0) := by unfold putSn; rw [if_pos zero_may, zero_bytes]
theorem get_zero : getSn ⟨#[0, 0, 0, 0, 0, 0, 0, 0, 0, 0, 0, 0, 0, 0, 0, 0]⟩ = (zeroB, 0) := by
  rw [← zero_bytes]
  have h := snap_get (b := zeroB) ⟨zero_may, zero_ok _⟩ []
  rw [List.append_nil, if_pos rfl] at h
  exact h
theorem same_selfS (v u : Slots) (a : BookT) (w : World) (ha : BookIn w v a) (hb : BookIn w u a) (ka : BookOk 2000 a) : Calls Tryz.prog 12 #[.agg (cellsB v a), .agg (cellsB u a)] w fun e w' => e = .returned (.bool true) ∧ Below w.heap.size w w' := by
  have h := same12 v u a a w ha hb ka ka
  rwa [sameT_refl] at h
set_option maxRecDepth 100000 in
set_option maxHeartbeats 4000000 in
theorem alive6S {K : World → Prop} (C : SnapC K) (w : World) (hK : K w) : Calls Tryz.prog 6 #[] w fun e w' => e = .returned (.bool true) ∧ Below w.heap.size w w' := by
  have HKP := Lib.hid C.keep
  have HP := Lib.hid (show Calls Tryz.prog 8 #[.agg #[.slice none 0 0, .slice none 0 0, .slice none 0 0, .slice none 0 0, .int .i64 0]] w _ from C.put zeroS zeroB w hK (in_zero w) (zero_ok _))
  have HG := Lib.hid (fun W (h : K W) => C.get ⟨#[0, 0, 0, 0, 0, 0, 0, 0, 0, 0, 0, 0, 0, 0, 0, 0]⟩ W h (by decide))
  rw [put_zero] at HP
  rw [get_zero] at HG
  have HK := Lib.hid hK
  have HSM := Lib.hid (fun W (v : Slots) (h : BookIn W v zeroB) => (show Calls Tryz.prog 12 #[.agg (cellsB v zeroB), .agg #[.slice none 0 0, .slice none 0 0, .slice none 0 0, .slice none 0 0, .int .i64 0]] W _ from same_selfS v zeroS zeroB W h (in_zero W) (zero_ok _)))
  clear C hK
  go_enter Tryz.func6, Tryz.ntmps6
  go_upto_region 3 with (first
    | ((with_reducible refine atStore (ty := 27) (x := .tmp 3) (y := .tmp 13) rfl ?_); refine wpList_store_row rfl 27 (.tmp 3) (.tmp 13) rfl w2.heap.size (cellsB v2 zeroB) rfl rfl 27 #[.slice none 0 0, .slice none 0 0, .slice none 0 0, .slice none 0 0, .int .i64 0] (heap_alloc_new w2 _) info27 rfl (by simp [cellsB, Value.oneCell']) ?_)
    | (go_at_call 10; refine (HG.out w1 (HKP.out _ _ HK.out HB1.out)).mono ?_; rintro e w2 ⟨⟨v2, rfl, hin2⟩, hb2⟩)
    | (go_at_call 8; refine HP.out.mono ?_; rintro e w1 ⟨rfl, hb1⟩; have HB1 := Lib.hid hb1; clear hb1))
  have hbA : Below w2.heap.size w2 ((w2.alloc (.cells #[.slice none 0 0, .slice none 0 0, .slice none 0 0, .slice none 0 0, .int .i64 0] 27)).setRow w2.heap.size (cellsB v2 zeroB)) := below_rowB ((Below.refl _ _).alloc (Nat.le_refl _) _) (Nat.le_refl _)
  refine at_world (Φ := fun W => Below w.heap.size w W ∧ BoxB W w2.heap.size v2 zeroB ∧ BookIn W v2 zeroB) ⟨HB1.out.trans ((hb2.trans (hbA.mono hb2.size)).mono HB1.out.size), setRow_heap _ _ _ _ _ _ (heap_alloc_new w2 _), hin2.below hbA⟩ ?_
  clear hbA hb2 hin2 HP HG HB1
  rintro W3 ⟨hb3, hx3, hi3⟩
  have HB3 := Lib.hid hb3
  have HX3 := Lib.hid (show W3.heap[w2.heap.size]? = some (.cells (cellsB v2 zeroB) 27 (0, 0)) from hx3)
  have HI3 := Lib.hid hi3
  have HI := Lib.hid (show (Tryz.prog.info? 27).map (·.size) = some (cellsB v2 zeroB).size from info27)
  clear hb3 hx3 hi3
  go_wp2_with (first
    | ((with_reducible refine atLoad (ty := 27) (x := .tmp 3) rfl ?_); refine wpList_load_rowG (by rfl) 27 (.tmp 3) rfl w2.heap.size rfl 27 (cellsB v2 zeroB) (0, 0) _ (HX3.out) Tryz.underlying27 rfl HI.out ?_)
    | (go_at_call 12; refine (HSM.out _ v2 HI3.out).mono ?_; rintro e y ⟨rfl, hy⟩))
  go_ret
  exact ⟨rfl, HB3.out.trans (hy.mono HB3.out.size)⟩
end Go.Proofs.YtnhljfhpfpfniaaGreat

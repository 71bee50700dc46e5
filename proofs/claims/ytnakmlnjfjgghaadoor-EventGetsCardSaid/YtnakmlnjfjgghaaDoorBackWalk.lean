/- What is written is read as it was, and the walk of NumsBack: it returns true and writes nothing that was there. -/
import Derived.Test.YtnakmlnjfjgghaaDoorOneWalk
import Derived.Deep.RegionWith
namespace Go.Proofs.YtnakmlnjfjgghaaDoor
open Go.RowKit

theorem app_toList (a b : ByteArray) : (a ++ b).data.toList = a.data.toList ++ b.data.toList := by rw [ByteArray.data_append, Array.toList_append]
theorem encB_list (n : Nat) : (M.encB n).data.toList = M.enc n := rfl
theorem encB_len (n : Nat) : (M.encB n).size = (M.enc n).length := Lib.size_eq _
theorem num_app (n : Nat) (R : ByteArray) (h : n < 18446744073709551616) : M.num (M.encB n ++ R).data.toList = (n, (M.encB n).size, 0) := by
  rw [app_toList, encB_list, M.num_enc n _ h, encB_len]
theorem ext_app (a b : ByteArray) : (a ++ b).extract a.size (a ++ b).size = b := by
  apply ByteArray.ext
  apply Array.toList_inj.1
  rw [Lib.extract_data, app_toList, Lib.size_eq a, List.drop_left, List.take_of_length_le]
  rw [ByteArray.size_append, Lib.size_eq a, Lib.size_eq b]; omega

theorem back20 (p : Nat) (m : Int) (R : ByteArray) (w : World) (h1 : -9223372036854775808 ≤ m) (h2 : m ≤ 9223372036854775807) (hs : R.size ≤ 100000) (hX : RdX w p (M.encB (M.zig m).toNat ++ R) 0) :
    Calls Tryd.prog 37 #[.pointer (some ⟨p, 0, none⟩)] w fun x w' => x = .returned (.int .i64 m) ∧ RdX w' p R 0 ∧ w.grownBy w' (some p) := by
  obtain ⟨z1, z2⟩ := M.zig_bd m h1 h2
  have hz := encB_size (M.zig m).toNat
  have hc := int20 p _ 0 w (by rw [ByteArray.size_append]; omega) hX
  rw [num_app _ R (by omega)] at hc
  simp only [afterX_ok, ext_app, orZ_ok] at hc
  rw [Int.toNat_of_nonneg z1, M.zag_zig] at hc
  exact hc

theorem ext_app0 (a b : ByteArray) : (a ++ b).extract 0 a.size = a := by
  apply ByteArray.ext
  apply Array.toList_inj.1
  rw [Lib.extract_data, app_toList, Lib.size_eq a, List.drop_zero, Nat.sub_zero, List.take_left]

theorem rowR_app (s R : ByteArray) (h : s.size ≤ 100000) : rowR (rowB s ++ R) (s.size : Int) = (s, ((rowB s).size : Int), 0) := by
  have e1 : rowB s ++ R = M.encB s.size ++ (s ++ R) := by unfold rowB; rw [ByteArray.append_assoc]
  have hn : M.num (rowB s ++ R).data.toList = (s.size, (M.encB s.size).size, 0) := by rw [e1]; exact num_app _ _ (by omega)
  have hto : numTo (rowB s ++ R).data.toList (rowMay (s.size : Int)) = (s.size, (M.encB s.size).size, 0) := by
    rw [numTo_ok (.inr (by rw [hn]; simp [rowMay])), hn]
  unfold rowR
  rw [hto]
  simp only [if_true]
  have e2 : (rowB s ++ R).extract (M.encB s.size).size (rowB s ++ R).size = s ++ R := by rw [e1]; exact ext_app _ _
  rw [e2]
  have e3 : takeR (s ++ R) (s.size : Int) = (s, 0) := by
    unfold takeR
    rw [if_neg (by omega), if_neg (by rw [ByteArray.size_append]; omega), Int.toNat_natCast, ext_app0]
  rw [e3]
  unfold rowB
  rw [ByteArray.size_append]
  simp
end Go.Proofs.YtnakmlnjfjgghaaDoor

/- What is written is read as it was, and the walk of NumsBack: it returns true and writes nothing that was there. -/
import Derived.Test.YtipaicfmodgcoaaDoorOneWalk
import Derived.Deep.RegionWith
namespace Go.Proofs.YtipaicfmodgcoaaDoor
open Go.RowKit

theorem app_toList (a b : ByteArray) : (a ++ b).data.toList = a.data.toList ++ b.data.toList := by rw [ByteArray.data_append, Array.toList_append]
theorem encB_list (n : Nat) : (M.encB n).data.toList = M.enc n := rfl
theorem encB_len (n : Nat) : (M.encB n).size = (M.enc n).length := Lib.size_eq _
theorem num_app (n : Nat) (R : ByteArray) (h : n < 18446744073709551616) : M.num (M.encB n ++ R).data.toList = (n, (M.encB n).size, 0) := by
  rw [app_toList, encB_list, M.num_enc n _ h, encB_len]
theorem ext_app (a b : ByteArray) : (a ++ b).extract a.size (a ++ b).size = b := by
  apply ByteArray.ext
  apply Array.toList_inj.1
  rw [Lib.extract_data, app_toList, Lib.size_eq a, List.drop_left, List.take_of_length_le]
  rw [ByteArray.size_append, Lib.size_eq a, Lib.size_eq b]; omega

theorem back19 (p n : Nat) (R : ByteArray) (w : World) (h : n < 18446744073709551616) (hs : R.size ≤ 100000) (hX : RdX w p (M.encB n ++ R) 0) :
    Calls Tryd.prog 46 #[.pointer (some ⟨p, 0, none⟩), .int .u64 18446744073709551615] w fun x w' => x = .returned (.int .u64 (n : Int)) ∧ RdX w' p R 0 ∧ w.grownBy w' (some p) := by
  have hz := encB_size n
  have hc := num19_all p _ w (by rw [ByteArray.size_append]; omega) hX
  rw [num_app n R h] at hc
  simp only [afterX_ok, ext_app] at hc
  exact hc

theorem ext_app0 (a b : ByteArray) : (a ++ b).extract 0 a.size = a := by
  apply ByteArray.ext
  apply Array.toList_inj.1
  rw [Lib.extract_data, app_toList, Lib.size_eq a, List.drop_zero, Nat.sub_zero, List.take_left]

theorem rowR_app (s R : ByteArray) (h : s.size ≤ 100000) : rowR (rowB s ++ R) (s.size : Int) = (s, ((rowB s).size : Int), 0) := by
  have e1 : rowB s ++ R = M.encB s.size ++ (s ++ R) := by unfold rowB; rw [ByteArray.append_assoc]
  have hn : M.num (rowB s ++ R).data.toList = (s.size, (M.encB s.size).size, 0) := by rw [e1]; exact num_app _ _ (by omega)
  have hto : numTo (rowB s ++ R).data.toList (rowMay (s.size : Int)) = (s.size, (M.encB s.size).size, 0) := by
    rw [numTo_ok (.inr (by rw [hn]; simp [rowMay])), hn]
  unfold rowR
  rw [hto]
  simp only [if_true]
  have e2 : (rowB s ++ R).extract (M.encB s.size).size (rowB s ++ R).size = s ++ R := by rw [e1]; exact ext_app _ _
  rw [e2]
  have e3 : takeR (s ++ R) (s.size : Int) = (s, 0) := by
    unfold takeR
    rw [if_neg (by omega), if_neg (by rw [ByteArray.size_append]; omega), Int.toNat_natCast, ext_app0]
  rw [e3]
  unfold rowB
  rw [ByteArray.size_append]
  simp

theorem back21 (p : Nat) (s R : ByteArray) (w : World) (h : s.size ≤ 10000) (hs : R.size ≤ 100000) (hX : RdX w p (rowB s ++ R) 0) :
    Calls Tryd.prog 47 #[.pointer (some ⟨p, 0, none⟩), .int .i64 (s.size : Int)] w fun x w' => x = .returned (.string s) ∧ RdX w' p R 0 ∧ w.grownBy w' (some p) := by
  have hz := encB_size s.size
  have hc := row21 p _ 0 (s.size : Int) w (by unfold rowB; rw [ByteArray.size_append, ByteArray.size_append]; omega) (by omega) hX
  rw [rowR_app s R (by omega)] at hc
  simp only [afterX_ok, ext_app, orZ_ok] at hc
  exact hc
end Go.Proofs.YtipaicfmodgcoaaDoor

/- The program's calls, as the laws ask them. -/
import Derived.Test.YtofmkbijhmbbcaaBkQ8
import Derived.Test.YtofmkbijhmbbcaaBkQ9
import Derived.Test.YtofmkbijhmbbcaaBkQ12
namespace Go.Proofs.Ytofmkbijhmbbcaa
open Go.RowKit Base Base2

theorem rise_parts {b : BookT} (h : riseT b = true) : riseL lt1 b.hs = true ∧ riseL lt1 b.os = true ∧ riseL lt1 b.rs = true ∧ riseL lt2 b.ss = true := by
  unfold riseT at h
  simp only [Bool.and_eq_true] at h
  exact ⟨h.1.1.1, h.1.1.2, h.1.2, h.2⟩
theorem bookC : BookC (fun _ => True) where
  keep := fun _ _ _ _ => trivial
  may := fun v b W _ hi hk => pmay9 v b W hi (hk.mono (by omega))
  same := fun v u a b W _ h1 h2 k1 k2 => psame11 v u a b W h1 h2 (k1.mono (by omega)) (k2.mono (by omega))
  copy := fun v b W _ hi hk => copy13 v b W hi (hk.mono (by omega))
  holder := fun v b id W _ hi hk hr _ => progHolder v b id W hi (hk.hs.mono (by omega)) (rise_parts hr).1
  openO := fun v b id W _ hi hk hr _ => progOpen v b id W hi (hk.os.mono (by omega)) (rise_parts hr).2.1
  rate := fun v b id W _ hi hk hr _ => progRate v b id W hi (hk.rs.mono (by omega)) (rise_parts hr).2.2.1
  stake := fun v b id sy W _ hi hk hr _ _ => progStake v b id sy W hi (hk.ss.mono (by omega)) (rise_parts hr).2.2.2
  setHolder := fun v b p q r s W _ hi hc hk hr _ _ _ _ => psetHolder v b p q r s W hi hc (hk.mono (by omega)) (rise_parts hr).1
  setStake := fun v b p q r W _ hi hc hk hr _ _ _ => psetStake v b p q r W hi hc (hk.mono (by omega)) (rise_parts hr).2.2.2
  setOpen := fun v b p q r s t z W _ hi hc hk hr _ _ _ _ _ _ => psetOpen v b p q r s t z W hi hc (hk.mono (by omega)) (rise_parts hr).2.1
  setRate := fun v b p q W _ hi hc hk hr _ _ => psetRate v b p q W hi hc (hk.mono (by omega)) (rise_parts hr).2.2.1
end Go.Proofs.Ytofmkbijhmbbcaa

/- The document's Check (written by mkgrpb.py). -/
import Derived.Test.YtdkpdmpghibmmaaArcG
namespace Go.Proofs.Ytdkpdmpghibmmaa
open Go.RowKit Go.Shelf Grm

theorem check_ok {n : Int} {l : List Ar} (h : checkL n l = 0) : 0 ≤ n ∧ n ≤ 16777216 ∧ l.length ≤ 67108864 ∧ ∀ x ∈ l, badA n x = false := by
  unfold checkL at h
  split at h
  · cases h
  · split at h
    · cases h
    · split at h
      · cases h
      · rename_i h1 h2 h3
        refine ⟨by omega, by omega, by omega, fun x hx => ?_⟩
        cases hb : badA n x with
        | false => rfl
        | true => exact absurd (List.any_eq_true.2 ⟨x, hx, hb⟩) h3
end Go.Proofs.Ytdkpdmpghibmmaa

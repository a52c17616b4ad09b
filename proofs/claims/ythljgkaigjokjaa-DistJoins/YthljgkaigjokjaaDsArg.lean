/- A slice of ints as argument. -/
import Derived.Test.YthljgkaigjokjaaGhZ
namespace Go.Proofs.Ythljgkaigjokjaa
open Go.RowKit
theorem zs_of {w : World} {x : Addr} {len cap : Nat} {zs : List Int} (hl : len ≤ cap) (hz : zs.length = cap) (hcell : ∀ i, i < zs.length → w.cell? (x.add i) = some (.int .i64 (zs.getD i 0))) : ∃ l : List Int, l.length = len ∧ Zs w (some x) l := by
  rcases Nat.eq_zero_or_pos len with h0 | h0
  · exact ⟨[], by rw [h0]; rfl, .inl rfl⟩
  · obtain ⟨b, o, spot⟩ := x
    have hc := hcell 0 (by omega)
    have hspot : spot = none := by simpa [Addr.add] using World.cell?_spot hc
    subst hspot
    have ea : ∀ i, (⟨b, o, none⟩ : Addr).add i = ⟨b, o + i, none⟩ := fun i => by
      unfold Addr.add
      by_cases h1 : i = 0 <;> simp [h1]
    refine ⟨zs.take len, by simp; omega, .inr ⟨b, o, rfl, fun i v hv => ?_⟩⟩
    have hi : i < len := by
      rcases Nat.lt_or_ge i len with h | h
      · exact h
      · rw [List.getElem?_eq_none (by simp; omega)] at hv
        cases hv
    have h := hcell i (by omega)
    rw [ea] at h
    rw [h]
    rw [List.getElem?_take, if_pos hi] at hv
    simp [List.getD, hv]
end Go.Proofs.Ythljgkaigjokjaa

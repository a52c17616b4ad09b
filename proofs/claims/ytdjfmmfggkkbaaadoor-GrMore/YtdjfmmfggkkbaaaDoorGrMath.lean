/- Texts of maps: numbers. -/
import Derived.ProofKit
namespace Go.Proofs.YtdjfmmfggkkbaaaDoor
namespace Grm
abbrev Tx := List UInt8
def dig (b : UInt8) : Bool := decide (48 ≤ b.toNat ∧ b.toNat ≤ 57)
def val (l : Tx) : Nat := l.foldl (fun n b => n * 10 + (b.toNat - 48)) 0
/-- One to ten digits, no nought ahead. -/
def form (l : Tx) : Prop := 1 ≤ l.length ∧ l.length ≤ 10 ∧ ¬ (1 < l.length ∧ l.head? = some 48)
instance (l : Tx) : Decidable (form l) := by unfold form; infer_instance
def numL (l : Tx) (most : Int) : Option Nat := if form l ∧ l.all dig = true ∧ (val l : Int) ≤ most then some (val l) else none
theorem val_take (l : Tx) (k : Nat) (hk : k < l.length) : val (l.take (k + 1)) = val (l.take k) * 10 + ((l[k]'hk).toNat - 48) := by
  unfold val
  rw [List.take_succ_eq_append_getElem hk, List.foldl_append]
  rfl
theorem all_take (l : Tx) (k : Nat) (hk : k < l.length) : (l.take (k + 1)).all dig = ((l.take k).all dig && dig (l[k]'hk)) := by
  rw [List.take_succ_eq_append_getElem hk, List.all_append]
  simp
theorem val_lt : ∀ (l : Tx) (k : Nat), k ≤ l.length → (l.take k).all dig = true → val (l.take k) < 10 ^ k
  | l, 0, _, _ => by simp [val]
  | l, k + 1, h, ha => by
    have hk : k < l.length := h
    rw [all_take l k hk, Bool.and_eq_true] at ha
    have h1 := val_lt l k (by omega) ha.1
    have h2 := ha.2
    simp only [dig, decide_eq_true_eq] at h2
    rw [val_take l k hk, Nat.pow_succ]
    omega
theorem val_small {l : Tx} {k : Nat} (hl : l.length ≤ 10) (hk : k ≤ l.length) (ha : (l.take k).all dig = true) : val (l.take k) < 10000000000 := by
  have h := val_lt l k hk ha
  have : 10 ^ k ≤ 10 ^ 10 := Nat.pow_le_pow_right (by omega) (by omega)
  omega
theorem not_all {l : Tx} {k : Nat} (hk : k < l.length) (h : dig (l[k]'hk) = false) : l.all dig = false := by
  rw [List.all_eq_false]
  exact ⟨_, List.getElem_mem hk, by simp [h]⟩
end Grm
end Go.Proofs.YtdjfmmfggkkbaaaDoor

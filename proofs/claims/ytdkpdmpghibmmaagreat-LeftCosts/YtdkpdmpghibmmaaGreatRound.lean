/- A region that draws its order, within a round of a range over a function: as outside of one. -/
import Derived.Test.YtdkpdmpghibmmaaGreatSep
import Derived.Deep.RegionHeld
import Derived.OrdersIn
import Derived.TacticsIn
namespace Go.Proofs.YtdkpdmpghibmmaaGreat
open Go.RowKit

section
variable {P : Program} {ops : Array Oper} {md : Region.Mode} {Q : Exit → Act → World → Prop}
theorem operIn_round {l n : Nat} {o : Oper} {a : Act} {w : World} {K K' : Act → World → Prop} (hd : ∀ c, o.op ≠ .defer c) (hK : ∀ a w, K a w → K' a w) (h : o.wp P a w K Q) : o.wpIn (Fence.wide.inRound l) n P a w K' Q := by
  refine ⟨fun _ _ => trivial, ?_⟩
  rw [show (Fence.wide.inRound l).round = some l from rfl, Oper.semAt_some l a.eval o hd]
  unfold Oper.wp at h
  generalize (execOp a.eval o).run P w = r at *
  cases r with
  | ok x w' =>
    cases x with
    | value v => exact hK _ _ h
    | skip => exact hK _ _ h
    | defer d => exact hK _ _ h
    | enter f args =>
      refine ⟨fun q => (by cases q), ?_⟩
      exact CallsIn.inRound l ((callsIn_wide (n := n - 1)).2 (Calls.mono h (fun e w'' he => by cases e <;> first | exact hK _ _ he | exact he)))
    | row row args =>
      refine ⟨fun q => (by cases q), ?_⟩
      intro c cs _
      obtain ⟨v, w3, r, s⟩ := (show Rows P row args w' _ from h) c cs
      exact ⟨v, w3, hK _ _ r, stepsIn_wide.2 s⟩
    | _ => exact h.elim
  | halt x w' => cases x <;> first | exact h | exact h.elim
theorem wpAnyIn_round {l n : Nat} (hQ : ¬ LetsOut Q) (hd : ∀ (i : Nat) (o : Oper), ops[i]? = some o → ∀ c, o.op ≠ Op.defer c) : ∀ (fuel : Nat) (listed : Array Bool) (a : Act) (w : World), wpAny P md ops Q fuel listed a w → wpAnyIn (Fence.wide.inRound l) n P md ops Q fuel listed a w
  | 0, _, _, _, h => h
  | fuel + 1, listed, a, w, h => ⟨h.1, fun i hi => by
      have h2 := h.2 i hi
      unfold wpOp at h2
      unfold wpOpIn
      cases ho : ops[i]? with
      | none =>
        rw [ho] at h2
        exact wpAnyIn_round hQ hd fuel _ _ _ h2
      | some o =>
        rw [ho] at h2
        dsimp only at h2 ⊢
        by_cases hw : Region.wanted o (yielded ops a.tmps) = true
        · rw [if_pos hw] at h2 ⊢
          rcases h2 with h2 | h2
          · exact operIn_round (hd i o ho) (fun a' w' q => wpAnyIn_round hQ hd fuel _ _ _ q) h2
          · exact absurd h2.2 hQ
        · rw [if_neg hw] at h2 ⊢
          exact ⟨fun _ _ => trivial, wpAnyIn_round hQ hd fuel _ _ _ h2⟩⟩
/-- The region's operations as outside of a round. -/
theorem wpIn_region_held_round {S : World → Prop} {id l n : Nat} {a : Act} {w : World} (hm : P.follows .mixedOrders = true) (hQ : ¬ LetsOut Q) (hd : ops.all (fun o => match o.op with | .defer _ => false | _ => true) = true) (hS : S w.drew)
    (h : S w.drew → wpAnyH P .any ops Q S ops.size (Array.replicate ops.size false) a w.drew) : (Code.region id ops true).wpIn (Fence.wide.inRound l) n P Q a w :=
  wpIn_region_any hm (wpAnyIn_round hQ (fun i o ho c e => by
    have h1 := Array.all_eq_true.1 hd i (Array.getElem?_eq_some_iff.1 ho).1
    rw [(Array.getElem?_eq_some_iff.1 ho).2] at h1
    simp [e] at h1) _ _ _ _ (wpAny_of_held _ _ _ _ (h hS)))
/-- A walk that is let out nowhere. -/
def noO (Q : Exit → Act → World → Prop) : Exit → Act → World → Prop
  | .outgrown, _, _ => False
  | e, a, w => Q e a w
theorem noO_le {Q : Exit → Act → World → Prop} : ∀ (e : Exit) (a : Act) (w : World), noO Q e a w → Q e a w
  | .panic _, _, _, h => h
  | .normal, _, _, h => h
  | .ret, _, _, h => h
  | .exit _, _, _, h => h
  | .goto _, _, _, h => h
  | .outgrown, _, _, h => h.elim
theorem noO_normal {Q : Exit → Act → World → Prop} {a : Act} {w : World} (h : Q .normal a w) : noO Q .normal a w := h
/-- As wpIn_region_held_round, whatever is to hold behind. -/
theorem wpIn_region_held_loop {S : World → Prop} {id l n : Nat} {a : Act} {w : World} (hm : P.follows .mixedOrders = true) (hd : ops.all (fun o => match o.op with | .defer _ => false | _ => true) = true) (hS : S w.drew)
    (h : S w.drew → wpAnyH P .any ops (noO Q) S ops.size (Array.replicate ops.size false) a w.drew) : (Code.region id ops true).wpIn (Fence.wide.inRound l) n P Q a w :=
  wpIn_mono (wpIn_region_held_round hm (fun ⟨_, _, q⟩ => q) hd hS h) noO_le
end
end Go.Proofs.YtdkpdmpghibmmaaGreat

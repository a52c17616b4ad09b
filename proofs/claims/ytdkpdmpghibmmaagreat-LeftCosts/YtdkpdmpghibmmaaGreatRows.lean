/-
  No cell of these rows narrows 'for every input' (looked for: loops, veiled, ifaces, maps, wideKeys, modest, calm, conditions, laid).
  DERIVED. THE GIVEN ROWS OF THIS SEAT. 12 by the template 'for every input the law returns true; each argument reads behind the call as it read before'; 0 by the template 'total and deterministic' (their statements: YtdkpdmpghibmmaaGreatTotals.lean).
  GIVEN WITH THE SEED: the statements are not yours to turn. If you find one false, say at which input.
  Laid BY PROGRAM, IN A SANDBOX (cutbox-rows.mjs): the forced cells as the released guide's own fill.sh prints them over the translation 0980a453a01a749a… (all of the seat's roots in one cut). By AI agents, Wed Nov 11 2026. No macro, syntax, notation, axiom, sorry.
-/
import Derived.Test.YtdkpdmpghibmmaaGreatChecked
import GoSem.Claim
import GoSem.ClaimJoined
import GoSem.ClaimMapViews
import Derived.JoinedTies
import Derived.KernelRfl
namespace Go.Proofs.YtdkpdmpghibmmaaGreat
/- THE CELL 'sum', in the pinned program and in every row, IS THE sha256 OF THE DUMP (.gsa) THAT YtdkpdmpghibmmaaGreatProg.lean LOADS. Nothing in Lean hashes anything: it is a label: what it is worth is what the hold of that sum in a sandbox is worth. -/
noncomputable def Tryz.pinned : Pinned := { name := "ytdkpdmpghibmmaagreat", sum := "0980a453a01a749a1d744a24abba58750aee2e06be678c319f1354b705b4e71a", checked := Tryz.checked }
namespace Rows
def none {H : Type} : Left H := { results := [], args := [] }

/-- 'postroadlaw08.LeftSteps': WHATEVER THE INPUT: true; the input reads as it did. -/
def leftStepsSpec : ChangeSpec := { name := "leftSteps", fn := fun _ => fun
  | [d1, d2, d3, d4] => { results := [.lit (.bool true)], args := [d1, d2, d3, d4] }
  | _ => none }
def leftStepsRow : OpenClaim := { program := "ytdkpdmpghibmmaagreat", sum := "0980a453a01a749a1d744a24abba58750aee2e06be678c319f1354b705b4e71a", func := "postroad/postroadlaw08.LeftSteps", spec := "leftSteps", unfollowed := true, recurses := true, apart := false }
def LeftStepsSaid : Prop := leftStepsRow.holds Tryz.pinned (OpenSpec.ofChange leftStepsSpec)

/-- ITS FALSE NEIGHBOUR: 'it returns false'. Refute it at one input. -/
def leftStepsWrong : ChangeSpec := { name := "leftSteps", fn := fun _ => fun
  | [d1, d2, d3, d4] => { results := [.lit (.bool false)], args := [d1, d2, d3, d4] }
  | _ => none }
def LeftStepsWrongFalsely : Prop := leftStepsRow.holds Tryz.pinned (OpenSpec.ofChange leftStepsWrong)

/-- 'postroadlaw08.LeftNear': WHATEVER THE INPUT: true; the input reads as it did. -/
def leftNearSpec : ChangeSpec := { name := "leftNear", fn := fun _ => fun
  | [d1, d2, d3, d4, d5, d6] => { results := [.lit (.bool true)], args := [d1, d2, d3, d4, d5, d6] }
  | _ => none }
def leftNearRow : OpenClaim := { program := "ytdkpdmpghibmmaagreat", sum := "0980a453a01a749a1d744a24abba58750aee2e06be678c319f1354b705b4e71a", func := "postroad/postroadlaw08.LeftNear", spec := "leftNear", unfollowed := true, recurses := true, apart := false }
def LeftNearSaid : Prop := leftNearRow.holds Tryz.pinned (OpenSpec.ofChange leftNearSpec)

/-- ITS FALSE NEIGHBOUR: 'it returns false'. Refute it at one input. -/
def leftNearWrong : ChangeSpec := { name := "leftNear", fn := fun _ => fun
  | [d1, d2, d3, d4, d5, d6] => { results := [.lit (.bool false)], args := [d1, d2, d3, d4, d5, d6] }
  | _ => none }
def LeftNearWrongFalsely : Prop := leftNearRow.holds Tryz.pinned (OpenSpec.ofChange leftNearWrong)

/-- 'postroadlaw08.LeftTakes': WHATEVER THE INPUT: true; the input reads as it did. -/
def leftTakesSpec : ChangeSpec := { name := "leftTakes", fn := fun _ => fun
  | [d1, d2, d3] => { results := [.lit (.bool true)], args := [d1, d2, d3] }
  | _ => none }
def leftTakesRow : OpenClaim := { program := "ytdkpdmpghibmmaagreat", sum := "0980a453a01a749a1d744a24abba58750aee2e06be678c319f1354b705b4e71a", func := "postroad/postroadlaw08.LeftTakes", spec := "leftTakes", unfollowed := true, recurses := true, apart := false }
def LeftTakesSaid : Prop := leftTakesRow.holds Tryz.pinned (OpenSpec.ofChange leftTakesSpec)

/-- ITS FALSE NEIGHBOUR: 'it returns false'. Refute it at one input. -/
def leftTakesWrong : ChangeSpec := { name := "leftTakes", fn := fun _ => fun
  | [d1, d2, d3] => { results := [.lit (.bool false)], args := [d1, d2, d3] }
  | _ => none }
def LeftTakesWrongFalsely : Prop := leftTakesRow.holds Tryz.pinned (OpenSpec.ofChange leftTakesWrong)

/-- 'postroadlaw08.LeftCosts': WHATEVER THE INPUT: true; the input reads as it did. -/
def leftCostsSpec : ChangeSpec := { name := "leftCosts", fn := fun _ => fun
  | [d1, d2, d3, d4] => { results := [.lit (.bool true)], args := [d1, d2, d3, d4] }
  | _ => none }
def leftCostsRow : OpenClaim := { program := "ytdkpdmpghibmmaagreat", sum := "0980a453a01a749a1d744a24abba58750aee2e06be678c319f1354b705b4e71a", func := "postroad/postroadlaw08.LeftCosts", spec := "leftCosts", unfollowed := true, recurses := true, apart := false }
def LeftCostsSaid : Prop := leftCostsRow.holds Tryz.pinned (OpenSpec.ofChange leftCostsSpec)

/-- ITS FALSE NEIGHBOUR: 'it returns false'. Refute it at one input. -/
def leftCostsWrong : ChangeSpec := { name := "leftCosts", fn := fun _ => fun
  | [d1, d2, d3, d4] => { results := [.lit (.bool false)], args := [d1, d2, d3, d4] }
  | _ => none }
def LeftCostsWrongFalsely : Prop := leftCostsRow.holds Tryz.pinned (OpenSpec.ofChange leftCostsWrong)

/-- 'postroadlaw09.ContractBuilds': WHATEVER THE INPUT: true; the input reads as it did. -/
def contractBuildsSpec : ChangeSpec := { name := "contractBuilds", fn := fun _ => fun
  | [d] => { results := [.lit (.bool true)], args := [d] }
  | _ => none }
def contractBuildsRow : OpenClaim := { program := "ytdkpdmpghibmmaagreat", sum := "0980a453a01a749a1d744a24abba58750aee2e06be678c319f1354b705b4e71a", func := "postroad/postroadlaw09.ContractBuilds", spec := "contractBuilds", unfollowed := true, recurses := true, apart := false }
def ContractBuildsSaid : Prop := contractBuildsRow.holds Tryz.pinned (OpenSpec.ofChange contractBuildsSpec)

/-- ITS FALSE NEIGHBOUR: 'it returns false'. Refute it at one input. -/
def contractBuildsWrong : ChangeSpec := { name := "contractBuilds", fn := fun _ => fun
  | [d] => { results := [.lit (.bool false)], args := [d] }
  | _ => none }
def ContractBuildsWrongFalsely : Prop := contractBuildsRow.holds Tryz.pinned (OpenSpec.ofChange contractBuildsWrong)

/-- 'postroadlaw09.ContractNeeds': WHATEVER THE INPUT: true; the input reads as it did. -/
def contractNeedsSpec : ChangeSpec := { name := "contractNeeds", fn := fun _ => fun
  | [d1, d2, d3] => { results := [.lit (.bool true)], args := [d1, d2, d3] }
  | _ => none }
def contractNeedsRow : OpenClaim := { program := "ytdkpdmpghibmmaagreat", sum := "0980a453a01a749a1d744a24abba58750aee2e06be678c319f1354b705b4e71a", func := "postroad/postroadlaw09.ContractNeeds", spec := "contractNeeds", unfollowed := true, recurses := true, apart := false }
def ContractNeedsSaid : Prop := contractNeedsRow.holds Tryz.pinned (OpenSpec.ofChange contractNeedsSpec)

/-- ITS FALSE NEIGHBOUR: 'it returns false'. Refute it at one input. -/
def contractNeedsWrong : ChangeSpec := { name := "contractNeeds", fn := fun _ => fun
  | [d1, d2, d3] => { results := [.lit (.bool false)], args := [d1, d2, d3] }
  | _ => none }
def ContractNeedsWrongFalsely : Prop := contractNeedsRow.holds Tryz.pinned (OpenSpec.ofChange contractNeedsWrong)

/-- 'postroadlaw09.ContractLower': WHATEVER THE INPUT: true; the input reads as it did. -/
def contractLowerSpec : ChangeSpec := { name := "contractLower", fn := fun _ => fun
  | [d1, d2] => { results := [.lit (.bool true)], args := [d1, d2] }
  | _ => none }
def contractLowerRow : OpenClaim := { program := "ytdkpdmpghibmmaagreat", sum := "0980a453a01a749a1d744a24abba58750aee2e06be678c319f1354b705b4e71a", func := "postroad/postroadlaw09.ContractLower", spec := "contractLower", unfollowed := true, recurses := true, apart := false }
def ContractLowerSaid : Prop := contractLowerRow.holds Tryz.pinned (OpenSpec.ofChange contractLowerSpec)

/-- ITS FALSE NEIGHBOUR: 'it returns false'. Refute it at one input. -/
def contractLowerWrong : ChangeSpec := { name := "contractLower", fn := fun _ => fun
  | [d1, d2] => { results := [.lit (.bool false)], args := [d1, d2] }
  | _ => none }
def ContractLowerWrongFalsely : Prop := contractLowerRow.holds Tryz.pinned (OpenSpec.ofChange contractLowerWrong)

/-- 'postroadlaw09.ContractKeeps': WHATEVER THE INPUT: true; the input reads as it did. -/
def contractKeepsSpec : ChangeSpec := { name := "contractKeeps", fn := fun _ => fun
  | [d1, d2] => { results := [.lit (.bool true)], args := [d1, d2] }
  | _ => none }
def contractKeepsRow : OpenClaim := { program := "ytdkpdmpghibmmaagreat", sum := "0980a453a01a749a1d744a24abba58750aee2e06be678c319f1354b705b4e71a", func := "postroad/postroadlaw09.ContractKeeps", spec := "contractKeeps", unfollowed := true, recurses := true, apart := false }
def ContractKeepsSaid : Prop := contractKeepsRow.holds Tryz.pinned (OpenSpec.ofChange contractKeepsSpec)

/-- ITS FALSE NEIGHBOUR: 'it returns false'. Refute it at one input. -/
def contractKeepsWrong : ChangeSpec := { name := "contractKeeps", fn := fun _ => fun
  | [d1, d2] => { results := [.lit (.bool false)], args := [d1, d2] }
  | _ => none }
def ContractKeepsWrongFalsely : Prop := contractKeepsRow.holds Tryz.pinned (OpenSpec.ofChange contractKeepsWrong)

/-- 'postroadlaw09.ContractSame': WHATEVER THE INPUT: true; the input reads as it did. -/
def contractSameSpec : ChangeSpec := { name := "contractSame", fn := fun _ => fun
  | [d1, d2] => { results := [.lit (.bool true)], args := [d1, d2] }
  | _ => none }
def contractSameRow : OpenClaim := { program := "ytdkpdmpghibmmaagreat", sum := "0980a453a01a749a1d744a24abba58750aee2e06be678c319f1354b705b4e71a", func := "postroad/postroadlaw09.ContractSame", spec := "contractSame", unfollowed := true, recurses := true, apart := false }
def ContractSameSaid : Prop := contractSameRow.holds Tryz.pinned (OpenSpec.ofChange contractSameSpec)

/-- ITS FALSE NEIGHBOUR: 'it returns false'. Refute it at one input. -/
def contractSameWrong : ChangeSpec := { name := "contractSame", fn := fun _ => fun
  | [d1, d2] => { results := [.lit (.bool false)], args := [d1, d2] }
  | _ => none }
def ContractSameWrongFalsely : Prop := contractSameRow.holds Tryz.pinned (OpenSpec.ofChange contractSameWrong)

/-- 'postroadlaw09.ContractOrder': WHATEVER THE INPUT: true; the input reads as it did. -/
def contractOrderSpec : ChangeSpec := { name := "contractOrder", fn := fun _ => fun
  | [d1, d2] => { results := [.lit (.bool true)], args := [d1, d2] }
  | _ => none }
def contractOrderRow : OpenClaim := { program := "ytdkpdmpghibmmaagreat", sum := "0980a453a01a749a1d744a24abba58750aee2e06be678c319f1354b705b4e71a", func := "postroad/postroadlaw09.ContractOrder", spec := "contractOrder", unfollowed := true, recurses := true, apart := false }
def ContractOrderSaid : Prop := contractOrderRow.holds Tryz.pinned (OpenSpec.ofChange contractOrderSpec)

/-- ITS FALSE NEIGHBOUR: 'it returns false'. Refute it at one input. -/
def contractOrderWrong : ChangeSpec := { name := "contractOrder", fn := fun _ => fun
  | [d1, d2] => { results := [.lit (.bool false)], args := [d1, d2] }
  | _ => none }
def ContractOrderWrongFalsely : Prop := contractOrderRow.holds Tryz.pinned (OpenSpec.ofChange contractOrderWrong)

/-- 'postroadlaw09.ContractArcs': WHATEVER THE INPUT: true; the input reads as it did. -/
def contractArcsSpec : ChangeSpec := { name := "contractArcs", fn := fun _ => fun
  | [d1, d2] => { results := [.lit (.bool true)], args := [d1, d2] }
  | _ => none }
def contractArcsRow : OpenClaim := { program := "ytdkpdmpghibmmaagreat", sum := "0980a453a01a749a1d744a24abba58750aee2e06be678c319f1354b705b4e71a", func := "postroad/postroadlaw09.ContractArcs", spec := "contractArcs", unfollowed := true, recurses := true, apart := false }
def ContractArcsSaid : Prop := contractArcsRow.holds Tryz.pinned (OpenSpec.ofChange contractArcsSpec)

/-- ITS FALSE NEIGHBOUR: 'it returns false'. Refute it at one input. -/
def contractArcsWrong : ChangeSpec := { name := "contractArcs", fn := fun _ => fun
  | [d1, d2] => { results := [.lit (.bool false)], args := [d1, d2] }
  | _ => none }
def ContractArcsWrongFalsely : Prop := contractArcsRow.holds Tryz.pinned (OpenSpec.ofChange contractArcsWrong)

/-- 'postroadlaw09.ContractWant': WHATEVER THE INPUT: true; the input reads as it did. -/
def contractWantSpec : ChangeSpec := { name := "contractWant", fn := fun _ => fun
  | [d1, d2, d3] => { results := [.lit (.bool true)], args := [d1, d2, d3] }
  | _ => none }
def contractWantRow : OpenClaim := { program := "ytdkpdmpghibmmaagreat", sum := "0980a453a01a749a1d744a24abba58750aee2e06be678c319f1354b705b4e71a", func := "postroad/postroadlaw09.ContractWant", spec := "contractWant", unfollowed := true, recurses := true, apart := false }
def ContractWantSaid : Prop := contractWantRow.holds Tryz.pinned (OpenSpec.ofChange contractWantSpec)

/-- ITS FALSE NEIGHBOUR: 'it returns false'. Refute it at one input. -/
def contractWantWrong : ChangeSpec := { name := "contractWant", fn := fun _ => fun
  | [d1, d2, d3] => { results := [.lit (.bool false)], args := [d1, d2, d3] }
  | _ => none }
def ContractWantWrongFalsely : Prop := contractWantRow.holds Tryz.pinned (OpenSpec.ofChange contractWantWrong)

/- THE SECOND FORM. 'bulk': how many values and letters a reading holds, each counted each time it is reached (what is shared counts as often as it is met; a slice's spare places count too). A statement '..UptoSaid' is the law's where the arguments, and the package variables that the reading takes, are together of bulk at most 1048576: NARROWER than '..Said'. Prove '..Said' where nothing that the law and all that it calls make is longer than what came in: it says more and counts as full. Else prove '..UptoSaid'. A law counts once. -/
mutual
def uptoBulk {H : Type} : DataW H → Nat
  | .lit (.string bytes) => bytes.length + 1
  | .lit _ => 1
  | .nil => 1
  | .ptr d => uptoBulk d + 1
  | .slice elems spare => uptoBulkAll elems + uptoBulkAll spare + 1
  | .agg parts => uptoBulkAll parts + 1
  | .iface _ d => uptoBulk d + 1
  | .map entries => uptoBulkEntries entries + 1
  | .held _ => 1
def uptoBulkAll {H : Type} : List (DataW H) → Nat
  | [] => 0
  | d :: r => uptoBulk d + uptoBulkAll r
def uptoBulkEntries {H : Type} : List (Lit × DataW H) → Nat
  | [] => 0
  | x :: r => uptoBulkEntry x + uptoBulkEntries r
def uptoBulkEntry {H : Type} : Lit × DataW H → Nat
  | (.string bytes, d) => bytes.length + uptoBulk d + 1
  | (_, d) => uptoBulk d + 1
 end
def uptoSmall : (H : Type) → List (DataW H) → Bool := fun _ ds => decide (uptoBulkAll ds ≤ 1048576)
def OpenSpec.upto (s : _root_.Go.ChangeSpec) : _root_.Go.OpenSpec := { _root_.Go.OpenSpec.ofChange s with cond := some uptoSmall }

/-- 'postroadlaw08.LeftSteps', WHERE WHAT IT READS IS OF BULK AT MOST 1048576: true; the input reads as it did. -/
def leftStepsUptoRow : OpenClaim := { program := "ytdkpdmpghibmmaagreat", sum := "0980a453a01a749a1d744a24abba58750aee2e06be678c319f1354b705b4e71a", func := "postroad/postroadlaw08.LeftSteps", spec := "leftSteps", unfollowed := true, recurses := true, apart := false, narrowed := true }
def LeftStepsUptoSaid : Prop := leftStepsUptoRow.holds Tryz.pinned (OpenSpec.upto leftStepsSpec)

/-- 'postroadlaw08.LeftNear', WHERE WHAT IT READS IS OF BULK AT MOST 1048576: true; the input reads as it did. -/
def leftNearUptoRow : OpenClaim := { program := "ytdkpdmpghibmmaagreat", sum := "0980a453a01a749a1d744a24abba58750aee2e06be678c319f1354b705b4e71a", func := "postroad/postroadlaw08.LeftNear", spec := "leftNear", unfollowed := true, recurses := true, apart := false, narrowed := true }
def LeftNearUptoSaid : Prop := leftNearUptoRow.holds Tryz.pinned (OpenSpec.upto leftNearSpec)

/-- 'postroadlaw08.LeftTakes', WHERE WHAT IT READS IS OF BULK AT MOST 1048576: true; the input reads as it did. -/
def leftTakesUptoRow : OpenClaim := { program := "ytdkpdmpghibmmaagreat", sum := "0980a453a01a749a1d744a24abba58750aee2e06be678c319f1354b705b4e71a", func := "postroad/postroadlaw08.LeftTakes", spec := "leftTakes", unfollowed := true, recurses := true, apart := false, narrowed := true }
def LeftTakesUptoSaid : Prop := leftTakesUptoRow.holds Tryz.pinned (OpenSpec.upto leftTakesSpec)

/-- 'postroadlaw08.LeftCosts', WHERE WHAT IT READS IS OF BULK AT MOST 1048576: true; the input reads as it did. -/
def leftCostsUptoRow : OpenClaim := { program := "ytdkpdmpghibmmaagreat", sum := "0980a453a01a749a1d744a24abba58750aee2e06be678c319f1354b705b4e71a", func := "postroad/postroadlaw08.LeftCosts", spec := "leftCosts", unfollowed := true, recurses := true, apart := false, narrowed := true }
def LeftCostsUptoSaid : Prop := leftCostsUptoRow.holds Tryz.pinned (OpenSpec.upto leftCostsSpec)

/-- 'postroadlaw09.ContractBuilds', WHERE WHAT IT READS IS OF BULK AT MOST 1048576: true; the input reads as it did. -/
def contractBuildsUptoRow : OpenClaim := { program := "ytdkpdmpghibmmaagreat", sum := "0980a453a01a749a1d744a24abba58750aee2e06be678c319f1354b705b4e71a", func := "postroad/postroadlaw09.ContractBuilds", spec := "contractBuilds", unfollowed := true, recurses := true, apart := false, narrowed := true }
def ContractBuildsUptoSaid : Prop := contractBuildsUptoRow.holds Tryz.pinned (OpenSpec.upto contractBuildsSpec)

/-- 'postroadlaw09.ContractNeeds', WHERE WHAT IT READS IS OF BULK AT MOST 1048576: true; the input reads as it did. -/
def contractNeedsUptoRow : OpenClaim := { program := "ytdkpdmpghibmmaagreat", sum := "0980a453a01a749a1d744a24abba58750aee2e06be678c319f1354b705b4e71a", func := "postroad/postroadlaw09.ContractNeeds", spec := "contractNeeds", unfollowed := true, recurses := true, apart := false, narrowed := true }
def ContractNeedsUptoSaid : Prop := contractNeedsUptoRow.holds Tryz.pinned (OpenSpec.upto contractNeedsSpec)

/-- 'postroadlaw09.ContractLower', WHERE WHAT IT READS IS OF BULK AT MOST 1048576: true; the input reads as it did. -/
def contractLowerUptoRow : OpenClaim := { program := "ytdkpdmpghibmmaagreat", sum := "0980a453a01a749a1d744a24abba58750aee2e06be678c319f1354b705b4e71a", func := "postroad/postroadlaw09.ContractLower", spec := "contractLower", unfollowed := true, recurses := true, apart := false, narrowed := true }
def ContractLowerUptoSaid : Prop := contractLowerUptoRow.holds Tryz.pinned (OpenSpec.upto contractLowerSpec)

/-- 'postroadlaw09.ContractKeeps', WHERE WHAT IT READS IS OF BULK AT MOST 1048576: true; the input reads as it did. -/
def contractKeepsUptoRow : OpenClaim := { program := "ytdkpdmpghibmmaagreat", sum := "0980a453a01a749a1d744a24abba58750aee2e06be678c319f1354b705b4e71a", func := "postroad/postroadlaw09.ContractKeeps", spec := "contractKeeps", unfollowed := true, recurses := true, apart := false, narrowed := true }
def ContractKeepsUptoSaid : Prop := contractKeepsUptoRow.holds Tryz.pinned (OpenSpec.upto contractKeepsSpec)

/-- 'postroadlaw09.ContractSame', WHERE WHAT IT READS IS OF BULK AT MOST 1048576: true; the input reads as it did. -/
def contractSameUptoRow : OpenClaim := { program := "ytdkpdmpghibmmaagreat", sum := "0980a453a01a749a1d744a24abba58750aee2e06be678c319f1354b705b4e71a", func := "postroad/postroadlaw09.ContractSame", spec := "contractSame", unfollowed := true, recurses := true, apart := false, narrowed := true }
def ContractSameUptoSaid : Prop := contractSameUptoRow.holds Tryz.pinned (OpenSpec.upto contractSameSpec)

/-- 'postroadlaw09.ContractOrder', WHERE WHAT IT READS IS OF BULK AT MOST 1048576: true; the input reads as it did. -/
def contractOrderUptoRow : OpenClaim := { program := "ytdkpdmpghibmmaagreat", sum := "0980a453a01a749a1d744a24abba58750aee2e06be678c319f1354b705b4e71a", func := "postroad/postroadlaw09.ContractOrder", spec := "contractOrder", unfollowed := true, recurses := true, apart := false, narrowed := true }
def ContractOrderUptoSaid : Prop := contractOrderUptoRow.holds Tryz.pinned (OpenSpec.upto contractOrderSpec)

/-- 'postroadlaw09.ContractArcs', WHERE WHAT IT READS IS OF BULK AT MOST 1048576: true; the input reads as it did. -/
def contractArcsUptoRow : OpenClaim := { program := "ytdkpdmpghibmmaagreat", sum := "0980a453a01a749a1d744a24abba58750aee2e06be678c319f1354b705b4e71a", func := "postroad/postroadlaw09.ContractArcs", spec := "contractArcs", unfollowed := true, recurses := true, apart := false, narrowed := true }
def ContractArcsUptoSaid : Prop := contractArcsUptoRow.holds Tryz.pinned (OpenSpec.upto contractArcsSpec)

/-- 'postroadlaw09.ContractWant', WHERE WHAT IT READS IS OF BULK AT MOST 1048576: true; the input reads as it did. -/
def contractWantUptoRow : OpenClaim := { program := "ytdkpdmpghibmmaagreat", sum := "0980a453a01a749a1d744a24abba58750aee2e06be678c319f1354b705b4e71a", func := "postroad/postroadlaw09.ContractWant", spec := "contractWant", unfollowed := true, recurses := true, apart := false, narrowed := true }
def ContractWantUptoSaid : Prop := contractWantUptoRow.holds Tryz.pinned (OpenSpec.upto contractWantSpec)

end Rows
end Go.Proofs.YtdkpdmpghibmmaaGreat

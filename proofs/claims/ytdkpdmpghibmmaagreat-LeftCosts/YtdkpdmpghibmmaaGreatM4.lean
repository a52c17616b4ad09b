import Derived.Test.YtdkpdmpghibmmaaGreatM1
import Derived.Test.YtdkpdmpghibmmaaGreatChecked
import Derived.Maps.OwnIn
import Derived.Maps.Ext
import Derived.Maps.Views
import Derived.BigQuiet
import Derived.WalkSpells
import Derived.WideLaws
/- left: a map of ints as a function of its keys. -/
namespace Go.Proofs.YtdkpdmpghibmmaaGreat
open Go.RowKit Go.Maps
theorem intK : Keyed Tryz.prog 3 := int_keyed Tryz.underlying3
abbrev Dt := DataW Nat
abbrev Rd := Value → Option (Dt × List MemPlace)
/-- How a way reads. -/
def wayElem : Rd
  | .agg cs => match cs.toList with
    | [.int .i64 a, .int .i64 b, .int .i64 c] => some (.agg [.lit (.int .i64 a), .lit (.int .i64 b), .lit (.int .i64 c)], [])
    | _ => none
  | _ => none
/-- How a map in a map reads: by its block. -/
def refElem : Rd
  | .map (some b) => some (.lit (.int .i64 (b : Nat)), [])
  | .map none => some (.nil, [])
  | _ => none
/-- What an element is, and how it reads. -/
structure Elem (α : Type) (R : Rd) where
  val : α → Value
  dat : α → Dt
  reads : ∀ x, R (val x) = some (dat x, [])
  inv : ∀ v x ps, R v = some (dat x, ps) → v = val x
abbrev keyL (z : Int) : Lit := .int .i64 z
/-- Block b is a map that holds just what f says, at keys from 0 below N. -/
def Mp {α : Type} {R : Rd} (E : Elem α R) (w : World) (b N : Nat) (f : Int → Option α) : Prop :=
  ∃ D, w.ownsMap Tryz.prog 3 R b (Maps.size D) D ∧ (∀ kl, Maps.has D kl = true → ∃ z, kl = keyL z) ∧ ∀ z, (f z = none → Maps.has D (keyL z) = false) ∧ ∀ x, f z = some x → (0 ≤ z ∧ z < (N : Int)) ∧ Maps.has D (keyL z) = true ∧ ∀ y, D.atKey (keyL z) y = E.dat x
theorem owns_tight {w : World} {R : Rd} {b n : Nat} {D : Dt} (h : w.ownsMap Tryz.prog 3 R b n D) : w.ownsMap Tryz.prog 3 R b (Maps.size D) D := by
  obtain ⟨es, clock, hb, F, hs, rfl⟩ := h
  exact ⟨es, clock, hb, F, by simp [Maps.size, length_sorted], rfl⟩
theorem Mp.made {α : Type} {R : Rd} (E : Elem α R) (w : World) (N : Nat) : Mp E (w.alloc (.map #[] 0)) w.heap.size N (fun _ => none) :=
  ⟨.map [], World.ownsMap_made w _ _ _, fun kl h => by simp [Maps.has] at h, fun z => ⟨fun _ => rfl, fun x h => by cases h⟩⟩
theorem Mp.only {α : Type} {R : Rd} {E : Elem α R} {S : Nat → Prop} {w w' : World} {b N : Nat} {f : Int → Option α} (h : Mp E w b N f) (ho : Only S w w') (hS : ¬ S b) : Mp E w' b N f := by
  obtain ⟨D, h1, h2⟩ := h
  obtain ⟨es, clock, hb, F, hs, hD⟩ := h1
  exact ⟨D, ⟨es, clock, (ho.block b (Array.getElem?_eq_some_iff.1 hb).1 hS).trans hb, F, hs, hD⟩, h2⟩
theorem Mp.under {α : Type} {R : Rd} {E : Elem α R} {w w' : World} {b N : Nat} {f : Int → Option α} (h : Mp E w b N f) (hb : Below w.heap.size w w') : Mp E w' b N f := h.only (Only.of_below (fun _ => False) hb) (fun h => h)
theorem Mp.lt {α : Type} {R : Rd} {E : Elem α R} {w : World} {b N : Nat} {f : Int → Option α} (h : Mp E w b N f) : b < w.heap.size := by
  obtain ⟨D, h1, _⟩ := h
  exact h1.lt
theorem Mp.congr {α : Type} {R : Rd} {E : Elem α R} {w : World} {b N : Nat} {f g : Int → Option α} (h : Mp E w b N f) (e : ∀ z, f z = g z) : Mp E w b N g := by
  have : f = g := funext e
  rwa [← this]
def zOf : Lit → Int
  | .int _ z => z
  | _ => 0
/-- How many keys there are. -/
def cntF {α : Type} (f : Int → Option α) (N : Nat) : Nat := ((List.range N).filter fun i => (f (i : Nat)).isSome).length
theorem cntF_le {α : Type} (f : Int → Option α) (N : Nat) : cntF f N ≤ N := by
  unfold cntF
  exact Nat.le_trans (List.length_filter_le _ _) (by simp)
theorem Mp.sized {α : Type} {R : Rd} {E : Elem α R} {w : World} {b N : Nat} {f : Int → Option α} (h : Mp E w b N f) : ∃ D, w.ownsMap Tryz.prog 3 R b (cntF f N) D ∧ Maps.size D = cntF f N ∧ Tidy D ∧ IsMap D ∧ (∀ kl, Maps.has D kl = true → ∃ z, kl = keyL z) ∧ ∀ z, (f z = none → Maps.has D (keyL z) = false) ∧ ∀ x, f z = some x → (0 ≤ z ∧ z < (N : Int)) ∧ Maps.has D (keyL z) = true ∧ ∀ y, D.atKey (keyL z) y = E.dat x := by
  obtain ⟨D, h1, h2, h3⟩ := h
  have ht := h1.tidy intK
  obtain ⟨es, rfl, hp⟩ := ht
  obtain ⟨es', he, _, hk⟩ := h1.entries intK
  cases he
  have hmem : ∀ p ∈ es, ∃ z, p.1 = keyL z ∧ (f z).isSome = true := fun p hp => by
    have hh : Maps.has (.map es : Dt) p.1 = true := by
      rw [has_eq, List.any_eq_true]
      exact ⟨p, hp, WideAt.sameKey_self (hk p hp)⟩
    obtain ⟨z, hz⟩ := h2 _ hh
    refine ⟨z, hz, ?_⟩
    cases hf : f z with
    | none =>
      have := (h3 z).1 hf
      rw [← hz, hh] at this
      cases this
    | some x => rfl
  have hsz : Maps.size (.map es : Dt) = cntF f N := by
    rw [size_eq]
    have e1 : es.length = (es.map fun p => (zOf p.1).toNat).length := by simp
    rw [e1]
    unfold cntF
    refine List.Perm.length_eq ((List.perm_ext_iff_of_nodup ?_ (List.Pairwise.filter _ List.nodup_range)).2 fun i => ?_)
    · rw [List.Nodup, List.pairwise_map]
      refine List.Pairwise.imp_of_mem (fun {p q} hp hq hne e => hne ?_) hp
      obtain ⟨z, e1, e2⟩ := hmem p hp
      obtain ⟨y, e3, e4⟩ := hmem q hq
      rw [e1, e3] at e ⊢
      obtain ⟨x, hx⟩ := Option.isSome_iff_exists.1 e2
      obtain ⟨x', hx'⟩ := Option.isSome_iff_exists.1 e4
      have b1 := ((h3 z).2 x hx).1
      have b2 := ((h3 y).2 x' hx').1
      simp only [zOf] at e
      have : z = y := by omega
      rw [this]
    · rw [List.mem_filter, List.mem_range, List.mem_map]
      constructor
      · rintro ⟨p, hp, rfl⟩
        obtain ⟨z, e1, e2⟩ := hmem p hp
        obtain ⟨x, hx⟩ := Option.isSome_iff_exists.1 e2
        have b1 := ((h3 z).2 x hx).1
        rw [e1]
        simp only [zOf]
        refine ⟨by omega, ?_⟩
        rw [Int.toNat_of_nonneg b1.1]
        exact e2
      · rintro ⟨hi, hf⟩
        obtain ⟨x, hx⟩ := Option.isSome_iff_exists.1 hf
        have hh := ((h3 (i : Nat)).2 x hx).2.1
        rw [has_eq, List.any_eq_true] at hh
        obtain ⟨p, hp, hs⟩ := hh
        obtain ⟨z, e1, _⟩ := hmem p hp
        refine ⟨p, hp, ?_⟩
        by_cases e : p.1 = keyL (i : Nat)
        · rw [e]
          simp [zOf]
        · rw [sameKey_ne e] at hs
          cases hs
  exact ⟨.map es, hsz ▸ h1, hsz, ⟨es, rfl, hp⟩, ⟨es, rfl⟩, h2, h3⟩
end Go.Proofs.YtdkpdmpghibmmaaGreat

/- left: look-up, store, delete, len of a map as a function of its keys. -/
namespace Go.Proofs.YtdkpdmpghibmmaaGreat
open Go.RowKit Go.Maps Go.WideShapes Go.WideElems
def valO {α : Type} {R : Rd} (E : Elem α R) (z0 : Value) : Option α → Value
  | some x => E.val x
  | none => z0
theorem key_int {z : Int} (hw : (Lit.int .i64 z).wf = true) : keyOf Tryz.prog 3 (.int .i64 z) = some (keyL z) := keyOf_int_mk Tryz.underlying3 hw
theorem wf_nat {z : Int} {N : Nat} (h : 0 ≤ z ∧ z < (N : Int)) (hN : N ≤ 16777216) : (Lit.int .i64 z).wf = true := by
  simp [Lit.wf]
  have h1 : IntKind.i64.min = -9223372036854775808 := rfl
  have h2 : IntKind.i64.max = 9223372036854775807 := rfl
  omega
section
variable {α : Type} {R : Rd} {E : Elem α R} {w : World} {b N : Nat} {f : Int → Option α} {t e : TypeId} {z0 : Value} {z : Int}
theorem Mp.look (h : Mp E w b N f) (c : Bool) (ht : Tryz.prog.underlying t = some (.map 3 e)) (hz : (zeroValue e).run Tryz.prog w = .ok z0 w) (hw : (Lit.int .i64 z).wf = true) :
    (Instr.lookup t (.map (some b)) (.int .i64 z) c).run Tryz.prog w = .ok (if c then .tuple #[valO E z0 (f z), .bool (f z).isSome] else valO E z0 (f z)) w := by
  obtain ⟨D, ⟨es, clock, hb, F, _, rfl⟩, h2, h3⟩ := h
  rcases Maps.fit_look c intK ht hz hb F (key_int hw) with ⟨hrun, _, hat⟩ | ⟨e0, y, _, _, hrun, hRv, hat, _⟩
  · have hn : f z = none := by
      cases hf : f z with
      | none => rfl
      | some x =>
        have h5 := ((h3 z).2 x hf).2.1
        rw [has_false_of_atKey hat] at h5
        cases h5
    rw [hn]
    exact hrun
  · have hs : ∃ x, f z = some x := by
      cases hf : f z with
      | none =>
        have h5 := (h3 z).1 hf
        rw [has_true_of_atKey hat] at h5
        cases h5
      | some x => exact ⟨x, rfl⟩
    obtain ⟨x, hx⟩ := hs
    have hy := ((h3 z).2 x hx).2.2 .nil
    rw [hat] at hy
    have hv := E.inv e0.val x y.2 (by rw [hRv, ← hy])
    rw [hx]
    rw [hv] at hrun
    exact hrun
theorem Mp.len (h : Mp E w b N f) (ht : Tryz.prog.underlying t = some (.map 3 e)) (ty : TypeId) : (Builtin.len_ #[t] ty #[.map (some b)]).run Tryz.prog w = .ok (.int .i64 (cntF f N : Nat)) w := by
  obtain ⟨D, h1, hs, _⟩ := h.sized
  rw [← hs]
  exact h1.len ht ty
theorem Mp.put (h : Mp E w b N f) (ht : Tryz.prog.underlying t = some (.map 3 e)) (hz : 0 ≤ z ∧ z < (N : Int)) (hN : N ≤ 16777216) (x : α) :
    ∃ w', (Instr.mapUpdate t (.map (some b)) (.int .i64 z) (E.val x)).run Tryz.prog w = .ok () w' ∧ Mp E w' b N (fun i => if i = z then some x else f i) ∧ w.grownBy w' (some b) := by
  obtain ⟨D, h1, hs, htd, him, h2, h3⟩ := h.sized
  have hc := cntF_le f N
  obtain ⟨w', hr, ho, hg⟩ := h1.update intK ht (by unfold maxLen; omega) (key_int (wf_nat hz hN)) (E.reads x)
  refine ⟨w', hr, ⟨_, owns_tight ho, fun kl hk => ?_, fun i => ⟨fun hf => ?_, fun y hf => ?_⟩⟩, hg⟩
  · by_cases e : kl = keyL z
    · exact ⟨z, e⟩
    · rw [has_put_other e] at hk
      exact h2 kl hk
  · dsimp only at hf
    by_cases e : i = z
    · rw [if_pos e] at hf
      cases hf
    · rw [if_neg e] at hf
      rw [has_put_other (fun e' => e (by injection e'))]
      exact (h3 i).1 hf
  · dsimp only at hf
    by_cases e : i = z
    · subst e
      rw [if_pos rfl] at hf
      injection hf with hf
      subst hf
      exact ⟨hz, has_put_same him (show WideAt.IsKeyLit (keyL i) from trivial) _, fun y => atKey_put_same him (show WideAt.IsKeyLit (keyL i) from trivial) _ _⟩
    · rw [if_neg e] at hf
      obtain ⟨h4, h5, h6⟩ := (h3 i).2 y hf
      refine ⟨h4, ?_, fun q => ?_⟩
      · rw [has_put_other (fun e' => e (by injection e'))]
        exact h5
      · rw [atKey_put_other (fun e' => e (by injection e'))]
        exact h6 q
theorem Mp.drop (h : Mp E w b N f) (ht : Tryz.prog.underlying t = some (.map 3 e)) (hw : (Lit.int .i64 z).wf = true) (ty : TypeId) :
    ∃ w', (Builtin.delete_ #[t, 3] ty #[.map (some b), .int .i64 z]).run Tryz.prog w = .ok (.tuple #[]) w' ∧ Mp E w' b N (fun i => if i = z then none else f i) ∧ w.grownBy w' (some b) := by
  obtain ⟨D, h1, hs, htd, him, h2, h3⟩ := h.sized
  obtain ⟨w', hr, ho, hg⟩ := h1.drop intK ht (key_int hw) ty
  refine ⟨w', hr, ⟨_, owns_tight ho, fun kl hk => ?_, fun i => ⟨fun hf => ?_, fun y hf => ?_⟩⟩, hg.grown⟩
  · by_cases e : kl = keyL z
    · exact ⟨z, e⟩
    · rw [has_del_other e] at hk
      exact h2 kl hk
  · dsimp only at hf
    by_cases e : i = z
    · subst e
      exact has_del_same
    · rw [if_neg e] at hf
      rw [has_del_other (fun e' => e (by injection e'))]
      exact (h3 i).1 hf
  · dsimp only at hf
    by_cases e : i = z
    · rw [if_pos e] at hf
      cases hf
    · rw [if_neg e] at hf
      obtain ⟨h4, h5, h6⟩ := (h3 i).2 y hf
      refine ⟨h4, ?_, fun q => ?_⟩
      · rw [has_del_other (fun e' => e (by injection e'))]
        exact h5
      · rw [atKey_del_other (fun e' => e (by injection e'))]
        exact h6 q
end
/-- At the operation: a store. -/
theorem wpList_put {α : Type} {R : Rd} {E : Elem α R} {w : World} {b N : Nat} {f : Int → Option α} {ops : Array Oper} {rest : List Oper} {o : Oper} {a : Act} {Q : Exit → Act → World → Prop} (hg : o.guard = none) (m x v : Operand) (t e : TypeId) (hop : o.op = Op.mapUpdate t m x v)
    (ht : Tryz.prog.underlying t = some (.map 3 e)) (hm : a.eval m = .map (some b)) (h : Mp E w b N f) (z : Int) (hz : 0 ≤ z ∧ z < (N : Int)) (hN : N ≤ 16777216) (y : α) (hx : a.eval x = .int .i64 z) (hv : a.eval v = E.val y)
    (hK : ∀ w', Mp E w' b N (fun i => if i = z then some y else f i) → w.grownBy w' (some b) → wpList Tryz.prog ops Q rest (a.put o.dst undef) w') : wpList Tryz.prog ops Q (o :: rest) a w := by
  refine wpList_plain hg fun K' hK' => ?_
  obtain ⟨w', hrun, r1, r2⟩ := h.put ht hz hN y
  unfold Oper.wp
  simp [execOp, hop, hm, hx, hv, hrun, Result.andThen]
  exact hK' _ _ (hK w' r1 r2)
/-- At the operation: delete. -/
theorem wpList_drop {α : Type} {R : Rd} {E : Elem α R} {w : World} {b N : Nat} {f : Int → Option α} {ops : Array Oper} {rest : List Oper} {o : Oper} {a : Act} {Q : Exit → Act → World → Prop} (hg : o.guard = none) (m x : Operand) (t e : TypeId) (hop : o.op = Op.call { callee := Callee.builtin Builtin.delete, args := #[m, x], argTypes := #[t, 3] })
    (ht : Tryz.prog.underlying t = some (.map 3 e)) (hm : a.eval m = .map (some b)) (h : Mp E w b N f) (z : Int) (hw : (Lit.int .i64 z).wf = true) (hx : a.eval x = .int .i64 z)
    (hK : ∀ w', Mp E w' b N (fun i => if i = z then none else f i) → w.grownBy w' (some b) → wpList Tryz.prog ops Q rest (a.put o.dst (.tuple #[])) w') : wpList Tryz.prog ops Q (o :: rest) a w := by
  refine wpList_plain hg fun K' hK' => ?_
  obtain ⟨w', hrun, r1, r2⟩ := h.drop ht hw o.type
  unfold Oper.wp
  simp [execOp, hop, resolve, invoke, builtin, hm, hx, hrun, Result.andThen]
  exact hK' _ _ (hK w' r1 r2)
/-- Ways, sets, maps as elements. -/
abbrev Wy := Int × Int × Int
def eWay : Elem Wy wayElem := ⟨fun x => .agg #[.int .i64 x.1, .int .i64 x.2.1, .int .i64 x.2.2], fun x => .agg [.lit (.int .i64 x.1), .lit (.int .i64 x.2.1), .lit (.int .i64 x.2.2)], fun x => rfl, fun v x ps h => by
  unfold wayElem at h
  split at h
  · split at h
    · rename_i cs a b c hc
      simp only [Option.some.injEq, Prod.mk.injEq, DataW.agg.injEq, List.cons.injEq, DataW.lit.injEq, Lit.int.injEq, true_and, and_true] at h
      obtain ⟨⟨h1, h2, h3⟩, _⟩ := h
      subst h1
      subst h2
      subst h3
      congr 1
      exact Array.toList_inj.1 (by rw [hc])
    · cases h
  · cases h⟩
def eRef : Elem Nat refElem := ⟨fun b => .map (some b), fun b => .lit (.int .i64 (b : Nat)), fun x => rfl, fun v x ps h => by
  unfold refElem at h
  split at h
  · simp only [Option.some.injEq, Prod.mk.injEq, DataW.lit.injEq, Lit.int.injEq, true_and] at h
    rename_i b
    have e : b = x := by omega
    rw [e]
  · cases h
  · cases h⟩
def eUnit : Elem Unit (unitElem (H := Nat)) := ⟨fun _ => .agg #[], fun _ => .agg [], fun _ => unitElem_mk, fun v x ps h => (unitElem_inv h).1⟩
end Go.Proofs.YtdkpdmpghibmmaaGreat

/- left: the ways of all places: a map of maps. -/
namespace Go.Proofs.YtdkpdmpghibmmaaGreat
open Go.RowKit Go.Maps
theorem zeroRefW (w : World) : (zeroValue 120).run Tryz.prog w = .ok (.map none) w := by
  have h : Tryz.t120.zero = some (.map none) := by kernel_rfl
  simp [zeroValue, Tryz.zeroValue120, h]
theorem zeroRefU (w : World) : (zeroValue 131).run Tryz.prog w = .ok (.map none) w := by
  have h : Tryz.t131.zero = some (.map none) := by kernel_rfl
  simp [zeroValue, Tryz.zeroValue131, h]
/-- A map of maps: block b says by g where the map of each place lies; what these hold is F. -/
structure Side {α : Type} {R : Rd} (E : Elem α R) (w : World) (b N : Nat) (g : Int → Option Nat) (F : Int → Int → Option α) : Prop where
  top : Mp eRef w b N g
  sub : ∀ u c, g u = some c → Mp E w c N (F u)
  none_ : ∀ u, g u = none → ∀ v, F u v = none
  inj : ∀ u u' c, g u = some c → g u' = some c → u = u'
  ne : ∀ u c, g u = some c → c ≠ b
/-- The blocks of it. -/
def SideB (b : Nat) (g : Int → Option Nat) (k : Nat) : Prop := k = b ∨ ∃ u, g u = some k
theorem Side.only {α : Type} {R : Rd} {E : Elem α R} {S : Nat → Prop} {w w' : World} {b N : Nat} {g : Int → Option Nat} {F : Int → Int → Option α} (h : Side E w b N g F) (ho : Only S w w') (hS : ∀ k, SideB b g k → ¬ S k) : Side E w' b N g F :=
  ⟨h.top.only ho (hS _ (.inl rfl)), fun u c hc => (h.sub u c hc).only ho (hS _ (.inr ⟨u, hc⟩)), h.none_, h.inj, h.ne⟩
theorem Side.lt {α : Type} {R : Rd} {E : Elem α R} {w : World} {b N : Nat} {g : Int → Option Nat} {F : Int → Int → Option α} (h : Side E w b N g F) : ∀ k, SideB b g k → k < w.heap.size := by
  rintro k (rfl | ⟨u, hc⟩)
  · exact h.top.lt
  · exact (h.sub u k hc).lt
theorem Side.under {α : Type} {R : Rd} {E : Elem α R} {w w' : World} {b N : Nat} {g : Int → Option Nat} {F : Int → Int → Option α} (h : Side E w b N g F) (hb : Below w.heap.size w w') : Side E w' b N g F := h.only (Only.of_below (fun _ => False) hb) (fun _ _ h => h)
/-- What stands at a place's key in the outer map. -/
def refV (g : Int → Option Nat) (u : Int) : Value := .map (g u)
theorem valO_ref (g : Int → Option Nat) (u : Int) : valO eRef (.map none) (g u) = refV g u := by
  unfold refV
  cases g u <;> rfl
theorem Side.look {α : Type} {R : Rd} {E : Elem α R} {w : World} {b N : Nat} {g : Int → Option Nat} {F : Int → Int → Option α} {t e : TypeId} {u : Int} (h : Side E w b N g F) (ht : Tryz.prog.underlying t = some (.map 3 e)) (hz : (zeroValue e).run Tryz.prog w = .ok (.map none) w) (hw : (Lit.int .i64 u).wf = true) :
    (Instr.lookup t (.map (some b)) (.int .i64 u) false).run Tryz.prog w = .ok (.map (g u)) w := by
  have h1 := h.top.look false ht hz hw
  rw [valO_ref] at h1
  simpa [refV] using h1
/-- A thing is laid into the map of a place that has one. -/
theorem Side.lay {α : Type} {R : Rd} {E : Elem α R} {w w' : World} {b N c : Nat} {g : Int → Option Nat} {F : Int → Int → Option α} {u v : Int} {x : α} (h : Side E w b N g F) (hc : g u = some c) (hm : Mp E w' c N (fun i => if i = v then some x else F u i)) (hg : w.grownBy w' (some c)) :
    Side E w' b N g (fun i j => if i = u ∧ j = v then some x else F i j) := by
  have ho : Only (fun k => k = c) w w' := ⟨hg.os, hg.tape, hg.output, hg.size, fun k hk hn => hg.block k hk (by intro e; injection e with e; exact hn e)⟩
  refine ⟨h.top.only ho (fun e => h.ne u c hc e.symm), fun i d hd => ?_, fun i hi j => ?_, h.inj, h.ne⟩
  · by_cases e : i = u
    · subst e
      rw [hc] at hd
      injection hd with hd
      subst hd
      refine hm.congr fun j => ?_
      by_cases e2 : j = v
      · rw [if_pos e2, if_pos ⟨rfl, e2⟩]
      · rw [if_neg e2, if_neg (fun e3 => e2 e3.2)]
    · have hdc : d ≠ c := fun e2 => e (h.inj i u d hd (by rw [e2]; exact hc))
      refine ((h.sub i d hd).only ho hdc).congr fun j => ?_
      rw [if_neg (fun e3 => e e3.1)]
  · have e : i ≠ u := fun e => by rw [e, hc] at hi; cases hi
    rw [if_neg (fun e3 => e e3.1)]
    exact h.none_ i hi j
/-- A place gets a map of its own. -/
theorem Side.new {α : Type} {R : Rd} {E : Elem α R} {w w1 w' : World} {b N c : Nat} {g : Int → Option Nat} {F : Int → Int → Option α} {u : Int} (h : Side E w1 b N g F) (hn : g u = none) (hc : c = w1.heap.size) (hw : w = w1.alloc (.map #[] 0)) (hm : Mp eRef w' b N (fun i => if i = u then some c else g i)) (hg : w.grownBy w' (some b)) :
    Side E w' b N (fun i => if i = u then some c else g i) F := by
  have ho : Only (fun k => k = b) w w' := ⟨hg.os, hg.tape, hg.output, hg.size, fun k hk hn => hg.block k hk (by intro e; injection e with e; exact hn e)⟩
  have hb1 : Below w1.heap.size w1 w := by rw [hw]; exact (Below.refl _ _).alloc (Nat.le_refl _) _
  have hlt := h.lt
  refine ⟨hm, fun i d hd => ?_, fun i hi j => ?_, fun i i' d hd hd' => ?_, fun i d hd => ?_⟩
  · split at hd
    · rename_i e
      injection hd with hd
      subst hd
      subst e
      have hm0 := (Mp.made E w1 N).congr (g := F i) (fun j => (h.none_ i hn j).symm)
      rw [← hw, ← hc] at hm0
      exact hm0.only ho (fun e => by have := hlt b (.inl rfl); omega)
    · have := h.ne i d hd
      exact ((h.sub i d hd).under hb1).only ho this
  · split at hi
    · cases hi
    · exact h.none_ i hi j
  · split at hd
    · rename_i e
      injection hd with hd
      split at hd'
      · rename_i e'
        rw [e, e']
      · have := hlt d (.inr ⟨i', hd'⟩)
        omega
    · split at hd'
      · injection hd' with hd'
        have := hlt d (.inr ⟨i, hd⟩)
        omega
      · exact h.inj i i' d hd hd'
  · split at hd
    · injection hd with hd
      have := hlt b (.inl rfl)
      omega
    · exact h.ne i d hd
end Go.Proofs.YtdkpdmpghibmmaaGreat

/- left.join, of ways and of nothing (written by mklfd.py). -/
namespace Go.Proofs.YtdkpdmpghibmmaaGreat
open Go.RowKit Go.Maps
set_option maxRecDepth 100000 in
set_option maxHeartbeats 2000000 in
theorem join_way {w : World} {b N : Nat} {g : Int → Option Nat} {F : Int → Int → Option Wy} (h : Side eWay w b N g F) {u v : Int} (hu : 0 ≤ u ∧ u < (N : Int)) (hv : 0 ≤ v ∧ v < (N : Int)) (hN : N ≤ 16777216) (x : Wy) :
    Calls Tryz.prog 103 #[.map (some b), .int .i64 u, .int .i64 v, .agg #[.int .i64 x.1, .int .i64 x.2.1, .int .i64 x.2.2]] w fun e w' => e = .returned (.tuple #[]) ∧ ∃ g', Side eWay w' b N g' (fun i j => if i = u ∧ j = v then some x else F i j) ∧ (∀ k, SideB b g' k → SideB b g k ∨ w.heap.size ≤ k) ∧ Only (fun k => SideB b g k) w w' := by
  have hb1 : Below w.heap.size w (w.alloc (.cells #[.int .i64 x.1, .int .i64 x.2.1, .int .i64 x.2.2] 47)) := (Below.refl _ _).alloc (Nat.le_refl _) _
  have h1 := h.under hb1
  have hwu := wf_nat hu hN
  have hl := h1.look Tryz.underlying97 (zeroRefW _) hwu
  cases hg : g u with
  | some c =>
    rw [hg] at hl
    have he := run_eql_map_nil (P := Tryz.prog) (w.alloc (.cells #[.int .i64 x.1, .int .i64 x.2.1, .int .i64 x.2.2] 47)) 120 3 47 (some c) Tryz.underlying120
    have H := Lib.hid (And.intro h1 (And.intro hg (And.intro h hb1)))
    have HU := Lib.hid (And.intro hu (And.intro hv hN))
    clear h h1 hg hb1 hu hv hN hwu
    go_enter Tryz.func103, Tryz.ntmps103
    go_wp2_with (at_mapUpdate; refine wpList_put (E := eWay) rfl _ _ _ 120 47 rfl Tryz.underlying120 rfl (H.out.1.sub u c H.out.2.1) v HU.out.2.1 HU.out.2.2 x rfl rfl ?_; intro w3 hm3 hg3; have HM := Lib.hid (And.intro hm3 hg3); clear hm3 hg3)
    go_end0
    have hside := H.out.1.lay H.out.2.1 HM.out.1 HM.out.2
    have ho : Only (fun k => SideB b g k) w w3 := (Only.of_below _ H.out.2.2.2).grown HM.out.2 (fun k e => by injection e with e; subst e; exact .inl (.inr ⟨u, H.out.2.1⟩))
    exact ⟨rfl, g, hside, fun k hk => .inl hk, ho⟩
  | none =>
    rw [hg] at hl
    have he := run_eql_map_nil (P := Tryz.prog) (w.alloc (.cells #[.int .i64 x.1, .int .i64 x.2.1, .int .i64 x.2.2] 47)) 120 3 47 none Tryz.underlying120
    have H := Lib.hid (And.intro h1 (And.intro hg (And.intro h hb1)))
    have HU := Lib.hid (And.intro hu (And.intro hv (And.intro hN hwu)))
    have hs : (w.alloc (.cells #[.int .i64 x.1, .int .i64 x.2.1, .int .i64 x.2.2] 47)).heap.size = w.heap.size + 1 := by simp
    have HS := Lib.hid hs
    have hmk : (Instr.makeMap 120 none).run Tryz.prog (w.alloc (.cells #[.int .i64 x.1, .int .i64 x.2.1, .int .i64 x.2.2] 47)) = .ok (.map (some (w.heap.size + 1))) ((w.alloc (.cells #[.int .i64 x.1, .int .i64 x.2.1, .int .i64 x.2.2] 47)).alloc (.map #[] 0)) := by rw [← hs]; rfl
    have hbn : b ≠ w.heap.size := by have := h.top.lt; omega
    clear h h1 hg hb1 hu hv hN hwu hs
    go_enter Tryz.func103, Tryz.ntmps103
    go_wp2_with (first
      | (at_mapUpdate; (with_reducible show wpList _ _ _ (Oper.mk _ (Op.mapUpdate 97 _ _ _) _ _ _ _ :: _) _ _); refine wpList_put (E := eRef) rfl _ _ _ 97 120 rfl Tryz.underlying97 rfl ((H.out.1.top).under ((Below.refl _ _).alloc (Nat.le_refl _) (.map #[] 0))) u HU.out.1 HU.out.2.2.1 (w.heap.size + 1) rfl (by rw [← HS.out]; rfl) ?_; intro w3 hm3 hg3; have hside3 := H.out.1.new H.out.2.1 HS.out.symm rfl hm3 hg3; have hl3 := hside3.look Tryz.underlying97 (zeroRefW _) HU.out.2.2.2; rw [if_pos rfl] at hl3; have hr3 : Row w3 w.heap.size 47 #[.int .i64 x.1, .int .i64 x.2.1, .int .i64 x.2.2] := (hg3.block w.heap.size (by simp; omega) (by intro e; injection e with e; exact hbn e.symm)).trans ((Row.fresh w 47 #[.int .i64 x.1, .int .i64 x.2.1, .int .i64 x.2.2]).past _); have k0 := hr3.cell 0; have k1 := hr3.cell 1; have k2 := hr3.cell 2; simp at k0; simp at k1; simp at k2; have HM := Lib.hid (And.intro hside3 hg3); clear hm3 hg3 hside3 hl hr3)
      | (at_mapUpdate; refine wpList_put (E := eWay) rfl _ _ _ 120 47 rfl Tryz.underlying120 rfl (HM.out.1.sub u (w.heap.size + 1) (if_pos rfl)) v HU.out.2.1 HU.out.2.2.1 x rfl rfl ?_; intro w4 hm4 hg4; have HM4 := Lib.hid (And.intro hm4 hg4); clear hm4 hg4))
    go_end0
    have hside := HM.out.1.lay (if_pos rfl) HM4.out.1 HM4.out.2
    have hs2 := HS.out
    have ho1 : Only (fun k => SideB b g k) w _ := ((Only.of_below _ H.out.2.2.2).alloc (.map #[] 0)).grown HM.out.2 (fun k e => by injection e with e; subst e; exact .inl (.inl rfl))
    have ho : Only (fun k => SideB b g k) w w4 := ho1.grown HM4.out.2 (fun k e => by injection e with e; subst e; exact .inr (by omega))
    refine ⟨rfl, _, hside, ?_, ho⟩
    rintro k (rfl | ⟨i, hi⟩)
    · exact .inl (.inl rfl)
    · dsimp only at hi
      split at hi
      · injection hi with hi
        exact .inr (by omega)
      · exact .inl (.inr ⟨i, hi⟩)
set_option maxRecDepth 100000 in
set_option maxHeartbeats 2000000 in
theorem join_unit {w : World} {b N : Nat} {g : Int → Option Nat} {F : Int → Int → Option Unit} (h : Side eUnit w b N g F) {u v : Int} (hu : 0 ≤ u ∧ u < (N : Int)) (hv : 0 ≤ v ∧ v < (N : Int)) (hN : N ≤ 16777216) (x : Unit) :
    Calls Tryz.prog 104 #[.map (some b), .int .i64 u, .int .i64 v, .agg #[]] w fun e w' => e = .returned (.tuple #[]) ∧ ∃ g', Side eUnit w' b N g' (fun i j => if i = u ∧ j = v then some x else F i j) ∧ (∀ k, SideB b g' k → SideB b g k ∨ w.heap.size ≤ k) ∧ Only (fun k => SideB b g k) w w' := by
  have hb1 : Below w.heap.size w (w.alloc (.cells #[] 136)) := (Below.refl _ _).alloc (Nat.le_refl _) _
  have h1 := h.under hb1
  have hwu := wf_nat hu hN
  have hl := h1.look Tryz.underlying98 (zeroRefU _) hwu
  cases hg : g u with
  | some c =>
    rw [hg] at hl
    have he := run_eql_map_nil (P := Tryz.prog) (w.alloc (.cells #[] 136)) 131 3 136 (some c) Tryz.underlying131
    have H := Lib.hid (And.intro h1 (And.intro hg (And.intro h hb1)))
    have HU := Lib.hid (And.intro hu (And.intro hv hN))
    clear h h1 hg hb1 hu hv hN hwu
    go_enter Tryz.func104, Tryz.ntmps104
    go_wp2_with (at_mapUpdate; refine wpList_put (E := eUnit) rfl _ _ _ 131 136 rfl Tryz.underlying131 rfl (H.out.1.sub u c H.out.2.1) v HU.out.2.1 HU.out.2.2 x rfl rfl ?_; intro w3 hm3 hg3; have HM := Lib.hid (And.intro hm3 hg3); clear hm3 hg3)
    go_end0
    have hside := H.out.1.lay H.out.2.1 HM.out.1 HM.out.2
    have ho : Only (fun k => SideB b g k) w w3 := (Only.of_below _ H.out.2.2.2).grown HM.out.2 (fun k e => by injection e with e; subst e; exact .inl (.inr ⟨u, H.out.2.1⟩))
    exact ⟨rfl, g, hside, fun k hk => .inl hk, ho⟩
  | none =>
    rw [hg] at hl
    have he := run_eql_map_nil (P := Tryz.prog) (w.alloc (.cells #[] 136)) 131 3 136 none Tryz.underlying131
    have H := Lib.hid (And.intro h1 (And.intro hg (And.intro h hb1)))
    have HU := Lib.hid (And.intro hu (And.intro hv (And.intro hN hwu)))
    have hs : (w.alloc (.cells #[] 136)).heap.size = w.heap.size + 1 := by simp
    have HS := Lib.hid hs
    have hmk : (Instr.makeMap 131 none).run Tryz.prog (w.alloc (.cells #[] 136)) = .ok (.map (some (w.heap.size + 1))) ((w.alloc (.cells #[] 136)).alloc (.map #[] 0)) := by rw [← hs]; rfl
    have hbn : b ≠ w.heap.size := by have := h.top.lt; omega
    clear h h1 hg hb1 hu hv hN hwu hs
    go_enter Tryz.func104, Tryz.ntmps104
    go_wp2_with (first
      | (at_mapUpdate; (with_reducible show wpList _ _ _ (Oper.mk _ (Op.mapUpdate 98 _ _ _) _ _ _ _ :: _) _ _); refine wpList_put (E := eRef) rfl _ _ _ 98 131 rfl Tryz.underlying98 rfl ((H.out.1.top).under ((Below.refl _ _).alloc (Nat.le_refl _) (.map #[] 0))) u HU.out.1 HU.out.2.2.1 (w.heap.size + 1) rfl (by rw [← HS.out]; rfl) ?_; intro w3 hm3 hg3; have hside3 := H.out.1.new H.out.2.1 HS.out.symm rfl hm3 hg3; have hl3 := hside3.look Tryz.underlying98 (zeroRefU _) HU.out.2.2.2; rw [if_pos rfl] at hl3; have hr3 : Row w3 w.heap.size 136 #[] := (hg3.block w.heap.size (by simp; omega) (by intro e; injection e with e; exact hbn e.symm)).trans ((Row.fresh w 136 #[]).past _);  have HM := Lib.hid (And.intro hside3 hg3); clear hm3 hg3 hside3 hl hr3)
      | (at_mapUpdate; refine wpList_put (E := eUnit) rfl _ _ _ 131 136 rfl Tryz.underlying131 rfl (HM.out.1.sub u (w.heap.size + 1) (if_pos rfl)) v HU.out.2.1 HU.out.2.2.1 x rfl rfl ?_; intro w4 hm4 hg4; have HM4 := Lib.hid (And.intro hm4 hg4); clear hm4 hg4))
    go_end0
    have hside := HM.out.1.lay (if_pos rfl) HM4.out.1 HM4.out.2
    have hs2 := HS.out
    have ho1 : Only (fun k => SideB b g k) w _ := ((Only.of_below _ H.out.2.2.2).alloc (.map #[] 0)).grown HM.out.2 (fun k e => by injection e with e; subst e; exact .inl (.inl rfl))
    have ho : Only (fun k => SideB b g k) w w4 := ho1.grown HM4.out.2 (fun k e => by injection e with e; subst e; exact .inr (by omega))
    refine ⟨rfl, _, hside, ?_, ho⟩
    rintro k (rfl | ⟨i, hi⟩)
    · exact .inl (.inl rfl)
    · dsimp only at hi
      split at hi
      · injection hi with hi
        exact .inr (by omega)
      · exact .inl (.inr ⟨i, hi⟩)
end Go.Proofs.YtdkpdmpghibmmaaGreat

/- left: maps of maps, cut and gone (the part that names no cut). -/
namespace Go.Proofs.YtdkpdmpghibmmaaGreat
open Go.RowKit Go.Maps
theorem Mp.none_of_cnt {α : Type} {R : Rd} {E : Elem α R} {w : World} {b N : Nat} {f : Int → Option α} (h : Mp E w b N f) (hc : cntF f N = 0) : ∀ i, f i = none := by
  intro i
  obtain ⟨D, _, _, h3⟩ := h
  cases hf : f i with
  | none => rfl
  | some x =>
    exfalso
    obtain ⟨hr, _⟩ := (h3 i).2 x hf
    unfold cntF at hc
    have hnil := List.eq_nil_of_length_eq_zero hc
    have hm : i.toNat ∈ (List.range N).filter fun i => (f (i : Nat)).isSome := by
      refine List.mem_filter.2 ⟨List.mem_range.2 (by omega), ?_⟩
      have e : ((i.toNat : Nat) : Int) = i := by omega
      rw [e, hf]
      rfl
    rw [hnil] at hm
    cases hm
/-- A thing is taken out of the map of a place. -/
theorem Side.cut {α : Type} {R : Rd} {E : Elem α R} {w w' : World} {b N c : Nat} {g : Int → Option Nat} {F : Int → Int → Option α} {u v : Int} (h : Side E w b N g F) (hc : g u = some c) (hm : Mp E w' c N (fun i => if i = v then none else F u i)) (hg : w.grownBy w' (some c)) :
    Side E w' b N g (fun i j => if i = u ∧ j = v then none else F i j) := by
  have ho : Only (fun k => k = c) w w' := ⟨hg.os, hg.tape, hg.output, hg.size, fun k hk hn => hg.block k hk (by intro e; injection e with e; exact hn e)⟩
  refine ⟨h.top.only ho (fun e => h.ne u c hc e.symm), fun i d hd => ?_, fun i hi j => ?_, h.inj, h.ne⟩
  · by_cases e : i = u
    · subst e
      rw [hc] at hd
      injection hd with hd
      subst hd
      refine hm.congr fun j => ?_
      by_cases e2 : j = v
      · rw [if_pos e2, if_pos ⟨rfl, e2⟩]
      · rw [if_neg e2, if_neg (fun e3 => e2 e3.2)]
    · have hdc : d ≠ c := fun e2 => e (h.inj i u d hd (by rw [e2]; exact hc))
      refine ((h.sub i d hd).only ho hdc).congr fun j => ?_
      rw [if_neg (fun e3 => e e3.1)]
  · have e : i ≠ u := fun e => by rw [e, hc] at hi; cases hi
    rw [if_neg (fun e3 => e e3.1)]
    exact h.none_ i hi j
/-- A place with nothing in its map loses it. -/
theorem Side.gone {α : Type} {R : Rd} {E : Elem α R} {w w' : World} {b N : Nat} {g : Int → Option Nat} {F : Int → Int → Option α} {u : Int} (h : Side E w b N g F) (hn : ∀ j, F u j = none) (hm : Mp eRef w' b N (fun i => if i = u then none else g i)) (hg : w.grownBy w' (some b)) :
    Side E w' b N (fun i => if i = u then none else g i) F := by
  have ho : Only (fun k => k = b) w w' := ⟨hg.os, hg.tape, hg.output, hg.size, fun k hk hn => hg.block k hk (by intro e; injection e with e; exact hn e)⟩
  refine ⟨hm, fun i d hd => ?_, fun i hi j => ?_, fun i i' d hd hd' => ?_, fun i d hd => ?_⟩
  · split at hd
    · cases hd
    · exact (h.sub i d hd).only ho (h.ne i d hd)
  · split at hi
    · rename_i e
      rw [e]
      exact hn j
    · exact h.none_ i hi j
  · split at hd
    · cases hd
    · split at hd'
      · cases hd'
      · exact h.inj i i' d hd hd'
  · split at hd
    · cases hd
    · exact h.ne i d hd
theorem Side.congr {α : Type} {R : Rd} {E : Elem α R} {w : World} {b N : Nat} {g : Int → Option Nat} {F G : Int → Int → Option α} (h : Side E w b N g F) (hFG : ∀ i j, F i j = G i j) : Side E w b N g G :=
  ⟨h.top, fun u c hc => (h.sub u c hc).congr (fun j => hFG u j), fun u hu v => by rw [← hFG]; exact h.none_ u hu v, h.inj, h.ne⟩
def GoneB (b : Nat) (g : Int → Option Nat) (u : Int) (k : Nat) : Prop := SideB b (fun i => if i = u then none else g i) k
theorem goneB {b : Nat} {g : Int → Option Nat} {u : Int} {k : Nat} (h : SideB b (fun i => if i = u then none else g i) k) : SideB b g k := by
  rcases h with h | ⟨i, hi⟩
  · exact .inl h
  · dsimp only at hi
    split at hi
    · cases hi
    · exact .inr ⟨i, hi⟩
end Go.Proofs.YtdkpdmpghibmmaaGreat

/- left.cut, of ways and of nothing (split by hand from what mklfe.py wrote: LfE0 holds the rest). -/
namespace Go.Proofs.YtdkpdmpghibmmaaGreat
open Go.RowKit Go.Maps
set_option maxRecDepth 100000 in
set_option maxHeartbeats 2000000 in
theorem cut_way {w : World} {b N : Nat} {g : Int → Option Nat} {F : Int → Int → Option Wy} (h : Side eWay w b N g F) {u v : Int} (hwu : (Lit.int .i64 u).wf = true) (hwv : (Lit.int .i64 v).wf = true) :
    Calls Tryz.prog 84 #[.map (some b), .int .i64 u, .int .i64 v] w fun e w' => e = .returned (.tuple #[]) ∧ ∃ g', Side eWay w' b N g' (fun i j => if i = u ∧ j = v then none else F i j) ∧ (∀ k, SideB b g' k → SideB b g k) ∧ (∀ i, i ≠ u → g' i = g i) ∧ Only (fun k => k = b ∨ g u = some k) w w' := by
  have hl := h.look Tryz.underlying97 (zeroRefW _) hwu
  cases hg : g u with
  | some c =>
    rw [hg] at hl
    by_cases hc : cntF (fun i => if i = v then none else F u i) N = 0
    all_goals
      have H := Lib.hid (And.intro h (And.intro hg (And.intro hwu hwv)))
      have HC := Lib.hid hc
      clear h hg hwu hwv hc
      go_enter Tryz.func84, Tryz.ntmps84
      go_wp2_with (first
        | ((with_reducible show wpList _ _ _ (Oper.mk _ (Op.call ⟨Callee.builtin Builtin.delete, _, #[97, _]⟩) _ _ _ _ :: _) _ _); refine wpList_drop (E := eRef) rfl _ _ 97 120 rfl Tryz.underlying97 rfl (HM.out.1.top) u H.out.2.2.1 rfl ?_; intro w4 hm4 hg4; have HM4 := Lib.hid (And.intro hm4 hg4); clear hm4 hg4)
        | ((with_reducible show wpList _ _ _ (Oper.mk _ (Op.call ⟨Callee.builtin Builtin.delete, _, _⟩) _ _ _ _ :: _) _ _); refine wpList_drop (E := eWay) rfl _ _ 120 47 rfl Tryz.underlying120 rfl (H.out.1.sub u c H.out.2.1) v H.out.2.2.2 rfl ?_; intro w3 hm3 hg3; have hside3 := H.out.1.cut H.out.2.1 hm3 hg3; have hl3 := hside3.look Tryz.underlying97 (zeroRefW _) H.out.2.2.1; rw [H.out.2.1] at hl3; have hn3 := hm3.len Tryz.underlying120 3; (first | rw [HC.out] at hn3 | (have hc3 : ((cntF (fun i => if i = v then none else F u i) N : Nat) : Int) ≠ 0 := (fun e => HC.out (by omega)))); have HM := Lib.hid (And.intro hside3 (And.intro hg3 hm3)); clear hm3 hg3 hside3 hl))
    · go_end0
      have hn := HM.out.2.2.none_of_cnt HC.out
      have hside := HM.out.1.gone (u := u) (fun j => by have h2 := hn j; by_cases e : j = v; exact if_pos ⟨rfl, e⟩; rw [if_neg e] at h2; exact (if_neg (fun e3 => e e3.2)).trans h2) HM4.out.1 HM4.out.2
      have ho1 : Only (fun k => k = b ∨ g u = some k) w w3 := (Only.refl _ _).grown HM.out.2.1 (fun k e => by injection e with e; subst e; exact .inl (.inr H.out.2.1))
      have ho : Only (fun k => k = b ∨ g u = some k) w w4 := ho1.grown HM4.out.2 (fun k e => by injection e with e; subst e; exact .inl (.inl rfl))
      exact ⟨rfl, _, hside, fun k hk => goneB hk, fun i hi => if_neg hi, ho.mono (fun k hk => .inl (by simpa [H.out.2.1] using hk))⟩
    · go_end0
      have ho1 : Only (fun k => k = b ∨ g u = some k) w w3 := (Only.refl _ _).grown HM.out.2.1 (fun k e => by injection e with e; subst e; exact .inl (.inr H.out.2.1))
      exact ⟨rfl, g, HM.out.1, fun k hk => hk, fun i hi => rfl, ho1.mono (fun k hk => .inl (by simpa [H.out.2.1] using hk))⟩
  | none =>
    rw [hg] at hl
    have hd := Maps.drop_nil (w := w) intK Tryz.underlying120 (key_int hwv) 0
    have hn := Maps.len_nil (w := w) Tryz.underlying120 3
    have H := Lib.hid (And.intro h (And.intro hg (And.intro hwu hwv)))
    clear h hg hwu hwv
    go_enter Tryz.func84, Tryz.ntmps84
    go_wp2_with (((with_reducible show wpList _ _ _ (Oper.mk _ (Op.call ⟨Callee.builtin Builtin.delete, _, #[97, _]⟩) _ _ _ _ :: _) _ _); refine wpList_drop (E := eRef) rfl _ _ 97 120 rfl Tryz.underlying97 rfl (H.out.1.top) u H.out.2.2.1 rfl ?_; intro w4 hm4 hg4; have HM4 := Lib.hid (And.intro hm4 hg4); clear hm4 hg4))
    go_end0
    have hnn := H.out.1.none_ u H.out.2.1
    have hside := H.out.1.gone (u := u) hnn HM4.out.1 HM4.out.2
    have ho : Only (fun k => k = b ∨ g u = some k) w w4 := (Only.refl _ _).grown HM4.out.2 (fun k e => by injection e with e; subst e; exact .inl (.inl rfl))
    refine ⟨rfl, _, hside.congr (fun i j => ?_), fun k hk => goneB hk, fun i hi => if_neg hi, ho.mono (fun k hk => .inl (by simpa [H.out.2.1] using hk))⟩
    by_cases e : i = u ∧ j = v
    · rw [if_pos e, e.1]
      exact hnn j
    · rw [if_neg e]
set_option maxRecDepth 100000 in
set_option maxHeartbeats 2000000 in
theorem cut_unit {w : World} {b N : Nat} {g : Int → Option Nat} {F : Int → Int → Option Unit} (h : Side eUnit w b N g F) {u v : Int} (hwu : (Lit.int .i64 u).wf = true) (hwv : (Lit.int .i64 v).wf = true) :
    Calls Tryz.prog 82 #[.map (some b), .int .i64 u, .int .i64 v] w fun e w' => e = .returned (.tuple #[]) ∧ ∃ g', Side eUnit w' b N g' (fun i j => if i = u ∧ j = v then none else F i j) ∧ (∀ k, SideB b g' k → SideB b g k) ∧ (∀ i, i ≠ u → g' i = g i) ∧ Only (fun k => k = b ∨ g u = some k) w w' := by
  have hl := h.look Tryz.underlying98 (zeroRefU _) hwu
  cases hg : g u with
  | some c =>
    rw [hg] at hl
    by_cases hc : cntF (fun i => if i = v then none else F u i) N = 0
    all_goals
      have H := Lib.hid (And.intro h (And.intro hg (And.intro hwu hwv)))
      have HC := Lib.hid hc
      clear h hg hwu hwv hc
      go_enter Tryz.func82, Tryz.ntmps82
      go_wp2_with (first
        | ((with_reducible show wpList _ _ _ (Oper.mk _ (Op.call ⟨Callee.builtin Builtin.delete, _, #[98, _]⟩) _ _ _ _ :: _) _ _); refine wpList_drop (E := eRef) rfl _ _ 98 131 rfl Tryz.underlying98 rfl (HM.out.1.top) u H.out.2.2.1 rfl ?_; intro w4 hm4 hg4; have HM4 := Lib.hid (And.intro hm4 hg4); clear hm4 hg4)
        | ((with_reducible show wpList _ _ _ (Oper.mk _ (Op.call ⟨Callee.builtin Builtin.delete, _, _⟩) _ _ _ _ :: _) _ _); refine wpList_drop (E := eUnit) rfl _ _ 131 136 rfl Tryz.underlying131 rfl (H.out.1.sub u c H.out.2.1) v H.out.2.2.2 rfl ?_; intro w3 hm3 hg3; have hside3 := H.out.1.cut H.out.2.1 hm3 hg3; have hl3 := hside3.look Tryz.underlying98 (zeroRefU _) H.out.2.2.1; rw [H.out.2.1] at hl3; have hn3 := hm3.len Tryz.underlying131 3; (first | rw [HC.out] at hn3 | (have hc3 : ((cntF (fun i => if i = v then none else F u i) N : Nat) : Int) ≠ 0 := (fun e => HC.out (by omega)))); have HM := Lib.hid (And.intro hside3 (And.intro hg3 hm3)); clear hm3 hg3 hside3 hl))
    · go_end0
      have hn := HM.out.2.2.none_of_cnt HC.out
      have hside := HM.out.1.gone (u := u) (fun j => by have h2 := hn j; by_cases e : j = v; exact if_pos ⟨rfl, e⟩; rw [if_neg e] at h2; exact (if_neg (fun e3 => e e3.2)).trans h2) HM4.out.1 HM4.out.2
      have ho1 : Only (fun k => k = b ∨ g u = some k) w w3 := (Only.refl _ _).grown HM.out.2.1 (fun k e => by injection e with e; subst e; exact .inl (.inr H.out.2.1))
      have ho : Only (fun k => k = b ∨ g u = some k) w w4 := ho1.grown HM4.out.2 (fun k e => by injection e with e; subst e; exact .inl (.inl rfl))
      exact ⟨rfl, _, hside, fun k hk => goneB hk, fun i hi => if_neg hi, ho.mono (fun k hk => .inl (by simpa [H.out.2.1] using hk))⟩
    · go_end0
      have ho1 : Only (fun k => k = b ∨ g u = some k) w w3 := (Only.refl _ _).grown HM.out.2.1 (fun k e => by injection e with e; subst e; exact .inl (.inr H.out.2.1))
      exact ⟨rfl, g, HM.out.1, fun k hk => hk, fun i hi => rfl, ho1.mono (fun k hk => .inl (by simpa [H.out.2.1] using hk))⟩
  | none =>
    rw [hg] at hl
    have hd := Maps.drop_nil (w := w) intK Tryz.underlying131 (key_int hwv) 0
    have hn := Maps.len_nil (w := w) Tryz.underlying131 3
    have H := Lib.hid (And.intro h (And.intro hg (And.intro hwu hwv)))
    clear h hg hwu hwv
    go_enter Tryz.func82, Tryz.ntmps82
    go_wp2_with (((with_reducible show wpList _ _ _ (Oper.mk _ (Op.call ⟨Callee.builtin Builtin.delete, _, #[98, _]⟩) _ _ _ _ :: _) _ _); refine wpList_drop (E := eRef) rfl _ _ 98 131 rfl Tryz.underlying98 rfl (H.out.1.top) u H.out.2.2.1 rfl ?_; intro w4 hm4 hg4; have HM4 := Lib.hid (And.intro hm4 hg4); clear hm4 hg4))
    go_end0
    have hnn := H.out.1.none_ u H.out.2.1
    have hside := H.out.1.gone (u := u) hnn HM4.out.1 HM4.out.2
    have ho : Only (fun k => k = b ∨ g u = some k) w w4 := (Only.refl _ _).grown HM4.out.2 (fun k e => by injection e with e; subst e; exact .inl (.inl rfl))
    refine ⟨rfl, _, hside.congr (fun i j => ?_), fun k hk => goneB hk, fun i hi => if_neg hi, ho.mono (fun k hk => .inl (by simpa [H.out.2.1] using hk))⟩
    by_cases e : i = u ∧ j = v
    · rw [if_pos e, e.1]
      exact hnn j
    · rw [if_neg e]
end Go.Proofs.YtdkpdmpghibmmaaGreat


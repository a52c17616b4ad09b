/- What a crash leaves of a disk, without memory. -/
import Derived.Test.YthheolhghhmdlaaDiskMath2
namespace Go.Proofs.Ythheolhghhmdlaa.Dsk
open Go

/-- One write, by its mark. -/
def stepW (s : By × Nat) (w : By) (m : Int) : By × Nat := if stays m w = 0 then (s.1, s.2 + w.length) else (s.1 ++ List.replicate s.2 0 ++ w.take (stays m w), w.length - stays m w)
theorem crashW_cons (s : By × Nat) (w : By) (ws : List By) (m : Int) (ms : List Int) : crashW s (w :: ws) (m :: ms) = crashW (stepW s w m) ws ms := rfl
theorem crashW_nil (s : By × Nat) (ws : List By) : crashW s ws [] = s := by cases ws <;> rfl
theorem crashW_none (s : By × Nat) (ms : List Int) : crashW s [] ms = s := by cases ms <;> rfl
theorem stays_le (m : Int) (w : By) : stays m w ≤ w.length := Nat.min_le_right _ _
theorem crashW_stop : ∀ (ws : List By) (ms : List Int) (s : By × Nat) (k : Nat), ms.length ≤ k → crashW s ws ms = crashW s (ws.take k) ms
  | [], ms, s, k, _ => by simp
  | w :: ws, [], s, k, _ => by rw [crashW_nil, crashW_nil]
  | w :: ws, m :: ms, s, 0, h => by simp at h
  | w :: ws, m :: ms, s, k + 1, h => by
    rw [List.take_succ_cons, crashW_cons, crashW_cons]
    exact crashW_stop ws ms _ k (by simpa using h)
theorem crashW_step : ∀ (ws : List By) (ms : List Int) (s : By × Nat) (k : Nat) (hk : k < ws.length) (hm : k < ms.length), crashW s (ws.take (k + 1)) ms = stepW (crashW s (ws.take k) ms) (ws[k]'hk) (ms[k]'hm)
  | [], ms, s, k, hk, _ => by simp at hk
  | w :: ws, [], s, k, _, hm => by simp at hm
  | w :: ws, m :: ms, s, 0, _, _ => by
    simp only [List.take_zero, List.take_succ_cons, List.getElem_cons_zero]
    rw [crashW_cons, crashW_none, crashW_none]
  | w :: ws, m :: ms, s, k + 1, hk, hm => by
    rw [List.take_succ_cons, List.take_succ_cons, crashW_cons, crashW_cons]
    exact crashW_step ws ms _ k (by simpa using hk) (by simpa using hm)
theorem stepW_len (s : By × Nat) (w : By) (m : Int) : (stepW s w m).1.length + (stepW s w m).2 = s.1.length + s.2 + w.length := by
  unfold stepW
  have := stays_le m w
  split
  · simp only; omega
  · simp only [List.length_append, List.length_replicate, List.length_take]; omega
theorem crashW_len : ∀ (ws : List By) (ms : List Int) (s : By × Nat), (crashW s ws ms).1.length + (crashW s ws ms).2 ≤ s.1.length + s.2 + ws.flatten.length
  | [], ms, s => by rw [crashW_none]; simp
  | w :: ws, [], s => by rw [crashW_nil]; omega
  | w :: ws, m :: ms, s => by
    rw [crashW_cons]
    have h1 := crashW_len ws ms (stepW s w m)
    have h2 := stepW_len s w m
    simp only [List.flatten_cons, List.length_append]
    omega
theorem crashF_name (f : Fil) (ms : List Int) : (crashF f ms).name = f.name := rfl
theorem crashF_size (f : Fil) (ms : List Int) : (crashF f ms).all.length ≤ f.all.length := by
  have := crashW_len f.ws ms (f.firm, 0)
  simp only [crashF, Fil.all, List.flatten_nil, List.append_nil, List.length_append] at *
  omega
theorem crashL_snoc : ∀ (A : List Fil) (f : Fil) (ms : List Int), crashL (A ++ [f]) ms = crashL A ms ++ [crashF f (ms.drop (looseL A))]
  | [], f, ms => by simp [crashL, looseL]
  | a :: A, f, ms => by
    simp only [List.cons_append, crashL, crashL_snoc A f]
    congr 4
    rw [List.drop_drop]
    rfl
theorem crashL_take (fs : List Fil) (ms : List Int) (k : Nat) (hk : k < fs.length) : crashL (fs.take (k + 1)) ms = crashL (fs.take k) ms ++ [crashF (fs[k]'hk) (ms.drop (looseL (fs.take k)))] := by
  rw [List.take_succ_eq_append_getElem hk, crashL_snoc]
theorem looseL_take (fs : List Fil) (k : Nat) (hk : k < fs.length) : looseL (fs.take (k + 1)) = looseL (fs.take k) + (fs[k]'hk).ws.length := by
  unfold looseL
  rw [List.take_succ_eq_append_getElem hk, List.map_append, List.sum_append_nat]
  simp only [List.map_cons, List.map_nil, List.sum_cons, List.sum_nil, Nat.add_zero]
theorem crashL_names : ∀ (fs : List Fil) (ms : List Int), (crashL fs ms).map Fil.name = fs.map Fil.name
  | [], _ => rfl
  | f :: r, ms => by simp [crashL, crashL_names r, crashF_name]
theorem crashL_length (fs : List Fil) (ms : List Int) : (crashL fs ms).length = fs.length := by
  have := congrArg List.length (crashL_names fs ms)
  simpa using this
theorem crashL_loose : ∀ (fs : List Fil) (ms : List Int), looseL (crashL fs ms) = 0
  | [], _ => rfl
  | f :: r, ms => by
    have := crashL_loose r (ms.drop f.ws.length)
    simp [crashL, looseL, crashF] at *
    exact this
theorem crashL_size : ∀ (fs : List Fil) (ms : List Int), sizeL (crashL fs ms) ≤ sizeL fs
  | [], _ => Nat.le_refl _
  | f :: r, ms => by
    have h1 := crashL_size r (ms.drop f.ws.length)
    have h2 := crashF_size f ms
    simp only [crashL, sizeL, List.map_cons, List.sum_cons] at *
    omega
theorem rising_names {fs gs : List Fil} (h : fs.map Fil.name = gs.map Fil.name) (hr : Rising Fil.name fs) : Rising Fil.name gs := by
  have h1 : (fs.map Fil.name).Pairwise fun x y => bytesBefore x y = true := List.pairwise_map.2 hr
  rw [h] at h1
  exact List.pairwise_map.1 h1
theorem crashL_rising {fs : List Fil} (ms : List Int) (hr : Rising Fil.name fs) : Rising Fil.name (crashL fs ms) := rising_names (crashL_names fs ms).symm hr
/-- A thing in the midst, by another one of its name. -/
theorem put_mid {α : Type} {key : α → Nm} {A B : List α} {f x : α} (hr : Rising key (A ++ f :: B)) (hk : key x = key f) : put key x (A ++ f :: B) = A ++ x :: B := by
  have hg : get key (key x) (A ++ f :: B) = some f := by
    rw [hk]
    exact get_of_mem hr (by simp)
  rw [put_swap hr hg]
  unfold swap
  rw [List.map_append, List.map_cons]
  have hA : ∀ y ∈ A, key y ≠ key x := fun y hy e => by
    have := (List.pairwise_append.1 hr).2.2 y hy f (by simp)
    rw [e, hk, WideAt.bytes_irrefl] at this
    cases this
  have hB : ∀ y ∈ B, key y ≠ key x := fun y hy e => by
    have := (List.pairwise_cons.1 (List.pairwise_append.1 hr).2.1).1 y hy
    rw [e, hk, WideAt.bytes_irrefl] at this
    cases this
  have eA : A.map (fun y => if key y == key x then x else y) = A := by
    conv => rhs; rw [← List.map_id A]
    apply List.map_congr_left
    intro y hy
    simp [hA y hy]
  have eB : B.map (fun y => if key y == key x then x else y) = B := by
    conv => rhs; rw [← List.map_id B]
    apply List.map_congr_left
    intro y hy
    simp [hB y hy]
  rw [eA, eB]
  simp [hk]
end Go.Proofs.Ythheolhghhmdlaa.Dsk

/- What a disk is, without memory: files by rising names; what is done to it; what a crash leaves. -/
import Derived.Test.YthheolhghhmdlaaCrcMath
import Derived.Maps.Ext
import Derived.Sort.KeysCollected
import Derived.WideShapes
namespace Go.Proofs.Ythheolhghhmdlaa.Dsk
open Go

abbrev Nm := List UInt8
abbrev By := List (BitVec 8)

section
variable {α : Type} (key : α → Nm)
/-- A thing in its place, by rising keys. -/
def ins (x : α) : List α → List α
  | [] => [x]
  | y :: r => if bytesBefore (key x) (key y) then x :: y :: r else y :: ins x r
def del (n : Nm) (l : List α) : List α := l.filter fun y => !(key y == n)
def put (x : α) (l : List α) : List α := ins key x (del key (key x) l)
def get (n : Nm) (l : List α) : Option α := l.find? fun y => key y == n
def Rising (l : List α) : Prop := l.Pairwise fun x y => bytesBefore (key x) (key y) = true
variable {key}

theorem mem_ins {x y : α} : ∀ {l : List α}, y ∈ ins key x l ↔ y = x ∨ y ∈ l
  | [] => by simp [ins]
  | z :: r => by
    unfold ins
    split
    · simp
    · simp only [List.mem_cons, mem_ins (l := r)]
      constructor
      · rintro (h | h | h)
        · exact .inr (.inl h)
        · exact .inl h
        · exact .inr (.inr h)
      · rintro (h | h | h)
        · exact .inr (.inl h)
        · exact .inl h
        · exact .inr (.inr h)
theorem mem_del {n : Nm} {y : α} {l : List α} : y ∈ del key n l ↔ y ∈ l ∧ key y ≠ n := by simp [del]
theorem mem_put {x y : α} {l : List α} : y ∈ put key x l ↔ y = x ∨ (y ∈ l ∧ key y ≠ key x) := by rw [put, mem_ins, mem_del]
theorem ins_length (x : α) : ∀ l : List α, (ins key x l).length = l.length + 1
  | [] => rfl
  | y :: r => by
    unfold ins
    split
    · rfl
    · simp [ins_length x r]
theorem del_length (n : Nm) (l : List α) : (del key n l).length ≤ l.length := List.length_filter_le _ _
theorem put_length (x : α) (l : List α) : (put key x l).length ≤ l.length + 1 := by
  rw [put, ins_length]
  have := del_length (key := key) (key x) l
  omega
theorem Rising.del {n : Nm} {l : List α} (h : Rising key l) : Rising key (del key n l) := List.Pairwise.filter _ h
theorem Rising.ins {x : α} : ∀ {l : List α}, Rising key l → (∀ y ∈ l, key y ≠ key x) → Rising key (ins key x l)
  | [], _, _ => by simp [Dsk.ins, Rising]
  | y :: r, h, hne => by
    unfold Dsk.ins
    have h' := List.pairwise_cons.1 h
    split
    · rename_i hb
      refine List.pairwise_cons.2 ⟨fun z hz => ?_, h⟩
      rcases List.mem_cons.1 hz with rfl | hz
      · exact hb
      · exact WideShapes.bytes_trans _ _ _ hb (h'.1 z hz)
    · rename_i hb
      refine List.pairwise_cons.2 ⟨fun z hz => ?_, Rising.ins h'.2 fun z hz => hne z (by simp [hz])⟩
      rcases mem_ins.1 hz with rfl | hz
      · rcases WideAt.bytes_total (key y) (key z) (hne y (by simp)) with h1 | h1
        · exact h1
        · exact absurd h1 hb
      · exact h'.1 z hz
theorem Rising.put {x : α} {l : List α} (h : Rising key l) : Rising key (put key x l) := Rising.ins h.del fun _ hy => (mem_del.1 hy).2
theorem Rising.inj {l : List α} (h : Rising key l) {x y : α} (hx : x ∈ l) (hy : y ∈ l) (e : key x = key y) : x = y := by
  induction l with
  | nil => cases hx
  | cons z r ih =>
    have h' := List.pairwise_cons.1 h
    rcases List.mem_cons.1 hx with rfl | hx'
    · rcases List.mem_cons.1 hy with rfl | hy'
      · rfl
      · have := h'.1 y hy'
        rw [e, WideAt.bytes_irrefl] at this
        cases this
    · rcases List.mem_cons.1 hy with rfl | hy'
      · have := h'.1 x hx'
        rw [e, WideAt.bytes_irrefl] at this
        cases this
      · exact ih h'.2 hx' hy'
theorem get_some {n : Nm} {l : List α} {x : α} (h : get key n l = some x) : x ∈ l ∧ key x = n := by
  have h1 := List.mem_of_find?_eq_some h
  have h2 := List.find?_some h
  exact ⟨h1, by simpa using h2⟩
theorem get_none {n : Nm} {l : List α} : get key n l = none ↔ ∀ x ∈ l, key x ≠ n := by simp [get]
theorem get_of_mem {l : List α} (h : Rising key l) {x : α} (hx : x ∈ l) : get key (key x) l = some x := by
  cases hg : get key (key x) l with
  | none => exact absurd rfl (get_none.1 hg x hx)
  | some y =>
    obtain ⟨h1, h2⟩ := get_some hg
    rw [h.inj h1 hx h2]
theorem del_none {n : Nm} {l : List α} (h : get key n l = none) : del key n l = l := by
  rw [del, List.filter_eq_self]
  intro x hx
  have := get_none.1 h x hx
  simp [this]
theorem get_del_same {n : Nm} {l : List α} : get key n (del key n l) = none := get_none.2 fun _ hx => (mem_del.1 hx).2
theorem ext_of {l m : List α} (hl : Rising key l) (hm : Rising key m) (h : ∀ x, x ∈ l ↔ x ∈ m) : l = m := by
  have nd : ∀ {k : List α}, Rising key k → k.Nodup := fun {k} hk => hk.imp fun {a b} hab e => by subst e; rw [WideAt.bytes_irrefl] at hab; cases hab
  refine List.Perm.eq_of_pairwise (le := fun a b => bytesBefore (key a) (key b) = true) (fun a b _ _ h1 h2 => ?_) hl hm ((List.perm_ext_iff_of_nodup (nd hl) (nd hm)).2 h)
  have := WideShapes.bytes_trans _ _ _ h1 h2
  rw [WideAt.bytes_irrefl] at this
  cases this
/-- A thing laid in the place of the one of its name. -/
def swap (x : α) (l : List α) : List α := l.map fun y => if key y == key x then x else y
theorem put_swap {x e : α} {l : List α} (h : Rising key l) (he : get key (key x) l = some e) : put key x l = swap (key := key) x l := by
  obtain ⟨hm, hk⟩ := get_some he
  refine ext_of h.put ?_ fun y => ?_
  · refine List.pairwise_map.2 (h.imp fun {a b} hab => ?_)
    by_cases ha : key a = key x <;> by_cases hb : key b = key x
    · rw [ha, hb, WideAt.bytes_irrefl] at hab; cases hab
    · simp [ha, hb]; rw [← ha]; exact hab
    · simp [ha, hb]; rw [← hb]; exact hab
    · simp [ha, hb]; exact hab
  · rw [mem_put, swap, List.mem_map]
    constructor
    · rintro (rfl | ⟨h1, h2⟩)
      · exact ⟨e, hm, by simp [hk]⟩
      · exact ⟨y, h1, by simp [h2]⟩
    · rintro ⟨z, hz, rfl⟩
      by_cases hzx : key z = key x
      · simp [hzx]
      · simp [hzx, hz]
theorem put_same {x : α} {l : List α} (h : Rising key l) (hx : get key (key x) l = some x) : put key x l = l := by
  refine ext_of h.put h fun y => ?_
  rw [mem_put]
  obtain ⟨hm, _⟩ := get_some hx
  constructor
  · rintro (rfl | h1)
    · exact hm
    · exact h1.1
  · intro hy
    by_cases e : key y = key x
    · exact .inl (h.inj hy hm e)
    · exact .inr ⟨hy, e⟩

theorem del_ins {x : α} : ∀ l : List α, del key (key x) (ins key x l) = del key (key x) l
  | [] => by simp [ins, del]
  | y :: r => by
    unfold ins
    split
    · simp [del]
    · have := del_ins (x := x) r
      simp only [del, List.filter_cons] at *
      split <;> simp [this]
theorem get_ins_same {x : α} : ∀ {l : List α}, get key (key x) l = none → get key (key x) (ins key x l) = some x
  | [], _ => by simp [ins, get]
  | y :: r, h => by
    have hy : key y ≠ key x := get_none.1 h y (by simp)
    have hr : get key (key x) r = none := get_none.2 fun z hz => get_none.1 h z (by simp [hz])
    unfold ins
    split
    · simp [get]
    · have := get_ins_same hr
      have hb : (key y == key x) = false := by simp [hy]
      unfold get at *
      rw [List.find?_cons, hb]
      exact this
theorem put_put {x y : α} (h : key x = key y) (l : List α) : put key x (put key y l) = put key x l := by
  have e : del key (key x) (put key y l) = del key (key x) l := by
    rw [put, h, del_ins]
    simp [del, List.filter_filter]
  rw [put, e, put]
theorem put_del_del {x : α} (n : Nm) (l : List α) : put key x (del key n (del key (key x) l)) = put key x (del key n l) := by
  unfold put
  congr 1
  simp only [del, List.filter_filter]
  congr 1
  funext y
  cases (key y == key x) <;> cases (key y == n) <;> rfl
theorem get_del_other {n m : Nm} (h : n ≠ m) (l : List α) : get key n (del key m l) = get key n l := by
  unfold get del
  rw [List.find?_filter]
  congr 1
  funext y
  by_cases e : key y = n
  · subst e; simp [h]
  · simp [e]

/-! sums -/
theorem ins_sum (g : α → Nat) (x : α) : ∀ l : List α, ((ins key x l).map g).sum = g x + (l.map g).sum
  | [] => by simp [ins]
  | y :: r => by
    unfold ins
    split
    · simp
    · simp only [List.map_cons, List.sum_cons, ins_sum g x r]; omega
theorem del_sum (g : α → Nat) {n : Nm} {x : α} : ∀ {l : List α}, Rising key l → get key n l = some x → ((del key n l).map g).sum + g x = (l.map g).sum
  | [], _, h => by simp [get] at h
  | y :: r, hr, h => by
    have h' := List.pairwise_cons.1 hr
    by_cases e : key y = n
    · have hy : y = x := by simpa [get, e] using h
      subst hy
      have hn : get key n r = none := get_none.2 fun z hz hzn => by
        have := h'.1 z hz
        rw [hzn, e, WideAt.bytes_irrefl] at this
        cases this
      have hd : del key n (y :: r) = del key n r := by simp [del, e]
      rw [hd, del_none hn]
      simp only [List.map_cons, List.sum_cons]
      omega
    · have h2 : get key n r = some x := by simpa [get, e] using h
      have hd : del key n (y :: r) = y :: del key n r := by simp [del, e]
      rw [hd]
      simp only [List.map_cons, List.sum_cons]
      have := del_sum g h'.2 h2
      omega
theorem del_sum_le (g : α → Nat) (n : Nm) (l : List α) : ((del key n l).map g).sum ≤ (l.map g).sum := by
  induction l with
  | nil => simp [del]
  | cons y r ih =>
    by_cases e : key y = n
    · have hd : del key n (y :: r) = del key n r := by simp [del, e]
      rw [hd]; simp only [List.map_cons, List.sum_cons]; omega
    · have hd : del key n (y :: r) = y :: del key n r := by simp [del, e]
      rw [hd]; simp only [List.map_cons, List.sum_cons]; omega

/-! another kind of thing with the same names -/
variable {β : Type} {key' : β → Nm} {f : α → β}
theorem ins_map (hf : ∀ x, key' (f x) = key x) (x : α) : ∀ l : List α, (ins key x l).map f = ins key' (f x) (l.map f)
  | [] => rfl
  | y :: r => by
    simp only [ins, List.map_cons, hf]
    split
    · rfl
    · simp [ins_map hf x r]
theorem del_map (hf : ∀ x, key' (f x) = key x) (n : Nm) (l : List α) : (del key n l).map f = del key' n (l.map f) := by
  simp only [del, List.filter_map]
  congr 1
  apply List.filter_congr
  intro x _
  simp [hf]
theorem put_map (hf : ∀ x, key' (f x) = key x) (x : α) (l : List α) : (put key x l).map f = put key' (f x) (l.map f) := by
  rw [put, put, ins_map hf, del_map hf, hf]
theorem get_map (hf : ∀ x, key' (f x) = key x) (n : Nm) (l : List α) : get key' n (l.map f) = (get key n l).map f := by
  simp only [get, List.find?_map]
  congr 1
  congr 1
  funext x
  simp [hf]
theorem Rising.map (hf : ∀ x, key' (f x) = key x) {l : List α} : Rising key' (l.map f) ↔ Rising key l := by
  unfold Rising
  rw [List.pairwise_map]
  simp only [hf]

/-! as a map's datum -/
variable {H : Type} {E : α → Lit × DataW H}
theorem ins_datum (hE : ∀ x, (E x).1 = .string (key x)) (x : α) : ∀ l : List α, (ins key x l).map E = DataW.insert (E x) (l.map E)
  | [] => rfl
  | y :: r => by
    simp only [ins, List.map_cons, DataW.insert, hE, Lit.before]
    split
    · rfl
    · simp [ins_datum hE x r]
theorem del_datum (hE : ∀ x, (E x).1 = .string (key x)) (n : Nm) (l : List α) : (DataW.map (l.map E)).del (.string n) = .map ((del key n l).map E) := by
  simp only [DataW.del, del, List.filter_map]
  congr 2
  apply List.filter_congr
  intro x _
  simp [hE, Lit.sameKey]
theorem put_datum (hE : ∀ x, (E x).1 = .string (key x)) (x : α) (l : List α) : (DataW.map (l.map E)).put (.string (key x)) (E x).2 = .map ((put key x l).map E) := by
  rw [put, ins_datum hE]
  simp only [DataW.put]
  congr 1
  rw [← hE x]
  congr 1
  have := del_datum (H := H) hE (key x) l
  simp only [DataW.del, DataW.map.injEq] at this
  rw [hE x]
  exact this
theorem at_datum (hE : ∀ x, (E x).1 = .string (key x)) (n : Nm) (l : List α) (z : DataW H) : (DataW.map (l.map E)).atKey (.string n) z = match get key n l with | some x => (E x).2 | none => z := by
  simp only [DataW.atKey, List.find?_map, get]
  have e : ((fun p : Lit × DataW H => p.1.sameKey (.string n)) ∘ E) = fun y => key y == n := by
    funext y
    simp [hE, Lit.sameKey]
  rw [e]
  cases List.find? (fun y => key y == n) l <;> rfl
theorem has_datum (hE : ∀ x, (E x).1 = .string (key x)) (n : Nm) (l : List α) : Maps.has (DataW.map (l.map E)) (.string n) = (get key n l).isSome := by
  simp only [Maps.has, List.any_map, get, List.isSome_find?]
  congr 1
  funext y
  simp [hE, Lit.sameKey]
theorem keys_datum (hE : ∀ x, (E x).1 = .string (key x)) (l : List α) : strKeys (DataW.map (l.map E)) = l.map key := by
  simp only [strKeys, List.map_map]
  apply List.map_congr_left
  intro x _
  simp [hE, strOf]
end

/-- A file: its name, what is firm, what was written behind that. -/
structure Fil where
  name : Nm
  firm : By
  ws : List By
def Fil.all (f : Fil) : By := f.firm ++ f.ws.flatten
def Fil.more (f : Fil) (l : By) : Fil := ⟨f.name, f.firm, f.ws ++ [l]⟩
def Fil.synced (f : Fil) : Fil := ⟨f.name, f.all, []⟩
def Fil.called (f : Fil) (t : Nm) : Fil := ⟨t, f.firm, f.ws⟩
def sizeL (fs : List Fil) : Nat := (fs.map fun f => f.all.length).sum
def looseL (fs : List Fil) : Nat := (fs.map fun f => f.ws.length).sum
/-- Something to do. -/
structure Ope where
  kind : Int
  name : Nm
  to : Nm
  data : By
def named (n : Nm) : Bool := decide (1 ≤ n.length ∧ n.length ≤ 60)
def mayBe (x : Ope) : Bool := (decide (x.kind = 1 ∨ x.kind = 2 ∨ x.kind = 4) && named x.name) || (decide (x.kind = 3) && named x.name && named x.to)
def ofName (n : Nm) (fs : List Fil) : Fil := (get Fil.name n fs).getD ⟨n, [], []⟩
/-- What is there behind it; the error. -/
def doL (room : Int) (fs : List Fil) (x : Ope) : List Fil × Nat :=
  if mayBe x = false then (fs, 2)
  else if x.kind = 1 then
    if (sizeL fs : Int) + x.data.length > room then (fs, 11)
    else (put Fil.name ((ofName x.name fs).more x.data) fs, 0)
  else match get Fil.name x.name fs with
    | none => (fs, 4)
    | some f =>
      if x.kind = 2 then (put Fil.name f.synced fs, 0)
      else if x.kind = 3 then (put Fil.name (f.called x.to) (del Fil.name x.name fs), 0)
      else (del Fil.name x.name fs, 0)
/-- One behind the other, up to the first error; how many were done. -/
def runL (room : Int) : List Fil → List Ope → List Fil × Nat
  | fs, [] => (fs, 0)
  | fs, x :: r => if (doL room fs x).2 = 0 then ((runL room (doL room fs x).1 r).1, (runL room (doL room fs x).1 r).2 + 1) else (fs, 0)
/-- How much of a write stays. -/
def stays (mark : Int) (w : By) : Nat := min mark.toNat w.length
/-- Some writes, by their marks: what was laid, what is behind the last that stayed. -/
def crashW : By × Nat → List By → List Int → By × Nat
  | s, [], _ => s
  | s, _ :: _, [] => s
  | (acc, gap), w :: ws, m :: ms => crashW (if stays m w = 0 then (acc, gap + w.length) else (acc ++ List.replicate gap 0 ++ w.take (stays m w), w.length - stays m w)) ws ms
def crashF (f : Fil) (ms : List Int) : Fil := ⟨f.name, (crashW (f.firm, 0) f.ws ms).1, []⟩
def crashL : List Fil → List Int → List Fil
  | [], _ => []
  | f :: r, ms => crashF f ms :: crashL r (ms.drop f.ws.length)
end Go.Proofs.Ythheolhghhmdlaa.Dsk

/- What the chapter's example fixes. -/
import Derived.Test.YthheolhghhmdlaaDiskQ
namespace Go.Proofs.Ythheolhghhmdlaa
open Go.RowKit Dsk
theorem Bytes.of_row {w : World} {g : Nat} {t : TypeId} {cs : Array Value} {l : By} (h : Row w g t cs) (hc : ∀ (i : Nat) (x : BitVec 8), l[i]? = some x → cs[i]? = some (Value.int .u8 (B x))) : Bytes w (some ⟨g, 0, none⟩) l :=
  .inr ⟨g, 0, rfl, fun i x hx => by rw [Nat.zero_add, h.cell i]; exact hc i x hx⟩
theorem RdT.of_cells {w : World} {g : Nat} {t : TypeId} {cs : Array Value} {l : List Int} {T : Nat → Prop} (h : Row w g t cs) (hT : T g) (hc : ∀ (i : Nat) (x : Int), l[i]? = some x → cs[i]? = some (numV x)) : RdT numV w T (some ⟨g, 0, none⟩) l :=
  .inr ⟨g, 0, rfl, hT, fun i x hx => by rw [Nat.zero_add, h.cell i]; exact hc i x hx⟩
def kops : List Ope := [⟨1, [97], [], [1, 2]⟩, ⟨2, [97], [], []⟩, ⟨1, [97], [], [3, 4, 5]⟩]
def kdisk : List Fil := [⟨[97], [1, 2], [[3, 4, 5]]⟩]
theorem krun : runL 100 [] kops = (kdisk, 3) := by rfl
theorem kcrash : crashL kdisk [2] = [⟨[97], [1, 2, 3, 4], []⟩] := by rfl
theorem kread : readL (crashL kdisk [2]) [97] = ([1, 2, 3, 4], 0) := by rfl
abbrev kw (w1 : World) : World := ((w1.alloc (.cells #[.int .u8 1, .int .u8 2] 5)).alloc (.cells #[.int .u8 3, .int .u8 4, .int .u8 5] 5)).alloc (.cells #[.int .i64 1, .string ⟨#[97]⟩, .string ⟨#[]⟩, .slice (some ⟨w1.heap.size, 0, none⟩) 2 2, .int .i64 2, .string ⟨#[97]⟩, .string ⟨#[]⟩, .slice none 0 0, .int .i64 1, .string ⟨#[97]⟩, .string ⟨#[]⟩, .slice (some ⟨w1.heap.size + 1, 0, none⟩) 3 3] 36)
theorem known_ops (w1 : World) : Below w1.heap.size w1 (kw w1) ∧ (kw w1).heap.size = w1.heap.size + 3 ∧ Ops (kw w1) (fun k => w1.heap.size ≤ k ∧ k < (kw w1).heap.size) (some ⟨w1.heap.size + 1 + 1, 0, none⟩) kops := by
  have hs : (kw w1).heap.size = w1.heap.size + 3 := by simp [kw]
  have r1 := (((Row.fresh w1 5 #[.int .u8 1, .int .u8 2]).past (.cells #[.int .u8 3, .int .u8 4, .int .u8 5] 5)).past (.cells #[.int .i64 1, .string ⟨#[97]⟩, .string ⟨#[]⟩, .slice (some ⟨w1.heap.size, 0, none⟩) 2 2, .int .i64 2, .string ⟨#[97]⟩, .string ⟨#[]⟩, .slice none 0 0, .int .i64 1, .string ⟨#[97]⟩, .string ⟨#[]⟩, .slice (some ⟨w1.heap.size + 1, 0, none⟩) 3 3] 36))
  have r2 := (Row.fresh (w1.alloc (.cells #[.int .u8 1, .int .u8 2] 5)) 5 #[.int .u8 3, .int .u8 4, .int .u8 5]).past (.cells #[.int .i64 1, .string ⟨#[97]⟩, .string ⟨#[]⟩, .slice (some ⟨w1.heap.size, 0, none⟩) 2 2, .int .i64 2, .string ⟨#[97]⟩, .string ⟨#[]⟩, .slice none 0 0, .int .i64 1, .string ⟨#[97]⟩, .string ⟨#[]⟩, .slice (some ⟨w1.heap.size + 1, 0, none⟩) 3 3] 36)
  have r3 := Row.fresh ((w1.alloc (.cells #[.int .u8 1, .int .u8 2] 5)).alloc (.cells #[.int .u8 3, .int .u8 4, .int .u8 5] 5)) 36 #[.int .i64 1, .string ⟨#[97]⟩, .string ⟨#[]⟩, .slice (some ⟨w1.heap.size, 0, none⟩) 2 2, .int .i64 2, .string ⟨#[97]⟩, .string ⟨#[]⟩, .slice none 0 0, .int .i64 1, .string ⟨#[97]⟩, .string ⟨#[]⟩, .slice (some ⟨w1.heap.size + 1, 0, none⟩) 3 3]
  rw [World.size_alloc] at r2
  rw [World.size_alloc, World.size_alloc] at r3
  have b1 : Bytes (kw w1) (some ⟨w1.heap.size, 0, none⟩) [1, 2] := Bytes.of_row r1 (fun i x hx => by rcases i with _ | _ | i <;> simp at hx <;> subst hx <;> rfl)
  have b2 : Bytes (kw w1) (some ⟨w1.heap.size + 1, 0, none⟩) [3, 4, 5] := Bytes.of_row r2 (fun i x hx => by rcases i with _ | _ | _ | i <;> simp at hx <;> subst hx <;> rfl)
  refine ⟨?_, hs, .inr ⟨w1.heap.size + 1 + 1, 0, rfl, by omega, fun i x hx => ?_⟩⟩
  · exact (((Below.refl _ _).alloc (Nat.le_refl _) _).alloc (by simp) _).alloc (by simp; omega) _
  · rcases i with _ | _ | _ | i
    · simp [kops] at hx
      subst hx
      exact ⟨_, 2, r3.cell 0, r3.cell 1, r3.cell 2, r3.cell 3, b1, fun _ k hk => by cases hk; simp only; omega⟩
    · simp [kops] at hx
      subst hx
      exact ⟨_, 0, r3.cell 4, r3.cell 5, r3.cell 6, r3.cell 7, .inl rfl, fun _ k hk => by cases hk⟩
    · simp [kops] at hx
      subst hx
      exact ⟨_, 3, r3.cell 8, r3.cell 9, r3.cell 10, r3.cell 11, b2, fun _ k hk => by cases hk; simp only; omega⟩
    · simp [kops] at hx
set_option maxRecDepth 100000 in
theorem known_any (w : World) : Calls Try.prog 11 #[] w fun e w' => e = .returned (.bool true) ∧ Below w.heap.size w w' := by
  have HN := Lib.hid (new_any 100 w (by omega) (by omega))
  go_enter Try.func11, Try.ntmps11
  go_wp2_with fail
  refine HN.out.mono ?_
  rintro e w1 ⟨rfl, hd, hb⟩
  obtain ⟨q1, q2, q3⟩ := known_ops w1
  have hs1 := hb.size
  have HR := Lib.hid (run_any kops _ 3 (hd.below q1) (by omega) (by omega) q3 (fun k hk e => by have := hd.lt k e; omega) (fun k hk => hk.2) (by decide))
  have HB := Lib.hid (hb.trans (q1.mono hb.size))
  rw [krun] at HR
  clear hd hb HN q1 q3
  go_wp2_with fail
  refine HR.out.mono ?_
  rintro e w2 ⟨rfl, hd2⟩
  obtain ⟨S2, hd2, hS2, ho2⟩ := hd2.dq
  have hb2 : Below w.heap.size w w2 := HB.out.trans (ho2.below (K := w.heap.size) (fun k q => by omega) HB.out.size)
  have r2 := Row.fresh w2 3 #[.int .i64 2]
  have al : Below w2.heap.size w2 (w2.alloc (.cells #[.int .i64 2] 3)) := (Below.refl _ _).alloc (Nat.le_refl _) _
  have HC := Lib.hid (crash_any (T := fun k => k = w2.heap.size) [2] (some ⟨w2.heap.size, 0, none⟩) 1 (hd2.below al) (by unfold Sm; decide) (RdT.of_cells r2 rfl (fun i x hx => by rcases i with _ | i <;> simp at hx; subst hx; rfl)) (fun k hk e => by have := hd2.lt k e; omega) (fun k hk => by rw [hk]; simp) (by decide) (by decide))
  have HB2 := Lib.hid (And.intro (hb2.trans (al.mono hb2.size)) (fun k (hk : S2 k) => show w.heap.size ≤ k by rcases hS2 k hk with q | q <;> omega))
  clear hd2 hS2 ho2 hb2 r2 al
  go_wp2_with fail
  refine HC.out.mono ?_
  rintro e w3 ⟨rfl, hd3⟩
  obtain ⟨S3, hd3, hS3, ho3⟩ := hd3.dq
  have hb3 : Below w.heap.size w w3 := HB2.out.1.trans (ho3.below (K := w.heap.size) HB2.out.2 HB2.out.1.size)
  have HRd := Lib.hid (read_any [97] hd3 (by unfold Sm; decide) (by decide))
  rw [kread] at HRd
  have HB3 := Lib.hid hb3
  clear hd3 hS3 ho3 hb3
  go_wp2_with fail
  refine HRd.out.mono ?_
  rintro e w4 ⟨v, rfl, hO, hb4⟩
  obtain ⟨a, c, hv, hB, _⟩ := hO.shape
  subst hv
  have al : Below w4.heap.size w4 (w4.alloc (.cells #[.int .u8 1, .int .u8 2, .int .u8 3, .int .u8 4] 5)) := (Below.refl _ _).alloc (Nat.le_refl _) _
  have HSm := Lib.hid (same_any a (some ⟨w4.heap.size, 0, none⟩) [1, 2, 3, 4] [1, 2, 3, 4] c 4 _ (hB.under al) (Bytes.of_row (Row.fresh w4 5 #[.int .u8 1, .int .u8 2, .int .u8 3, .int .u8 4]) (fun i x hx => by rcases i with _ | _ | _ | _ | i <;> simp at hx <;> subst hx <;> rfl)))
  have hb5 := HB3.out.trans (hb4.mono HB3.out.size)
  have HB5 := Lib.hid (hb5.trans (al.mono hb5.size))
  clear hO hb4 hb5 hB al
  simp only [List.length_cons, List.length_nil] at *
  go_wp2_with fail
  refine HSm.out.mono ?_
  rintro e w5 ⟨rfl, rfl⟩
  have HDo := Lib.hid (do_nil ⟨0, [], [], []⟩ none 0 (w4.alloc (.cells #[.int .u8 1, .int .u8 2, .int .u8 3, .int .u8 4] 5)))
  go_wp2_with fail
  refine HDo.out.mono ?_
  rintro e w6 ⟨rfl, hb6⟩
  have HB6 := Lib.hid (HB5.out.trans (hb6.mono HB5.out.size))
  clear hb6
  go_wp2
  go_ret
  exact ⟨rfl, HB6.out⟩
end Go.Proofs.Ythheolhghhmdlaa

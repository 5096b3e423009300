import Derived.Test.YtnahejljelbbgaaGreatDoorTe
import Derived.Lib.ReplaceLaws
/- Each quote twice, and each pair of quotes once: plain facts. -/
namespace Go.Proofs.YtnahejljelbbgaaGreatDoor
open Go.RowKit Go.Lib

theorem idx2_hit (l : List UInt8) : Lib.index (39 :: 39 :: l) [39, 39] = 0 := by simp [Lib.index]
theorem idx2_miss {c : UInt8} (hc : c ≠ 39) (l : List UInt8) : Lib.index (c :: l) [39, 39] = if Lib.index l [39, 39] == -1 then -1 else Lib.index l [39, 39] + 1 := by
  have : ([39, 39] : List UInt8).isPrefixOf (c :: l) = false := by simp [List.isPrefixOf, Ne.symm hc]
  simp [Lib.index, this]
/-- Where the first quote stands, there the first pair stands. -/
theorem idx2 : ∀ l : List UInt8, Lib.index (dbl l) [39, 39] = Lib.index l [39]
  | [] => by simp [dbl, Lib.index]
  | c :: l => by
    by_cases hc : c = 39
    · subst hc
      simp only [dbl, if_true]
      rw [idx2_hit, idx_hit]
    · simp only [dbl, hc, if_false]
      rw [idx2_miss hc, idx_miss hc, idx2 l]
theorem rep2_dbl : ∀ (k : Nat) (l : List UInt8), l.count 39 ≤ k → replaceK [39, 39] [39] k (dbl l) = l
  | k, [], _ => by
    cases k with
    | zero => rfl
    | succ k => simp [replaceK, dbl, Lib.index]
  | k, c :: l, h => by
    by_cases hc : c = 39
    · subst hc
      rw [List.count_cons_self] at h
      obtain ⟨j, rfl⟩ : ∃ j, k = j + 1 := ⟨k - 1, by omega⟩
      have ih := rep2_dbl j l (by omega)
      have hh : Lib.index (dbl (39 :: l)) [39, 39] = ((0 : Nat) : Int) := by simp only [dbl, if_true]; exact idx2_hit _
      rw [replaceK_hit _ _ _ _ 0 hh]
      simp only [dbl, if_true]
      simpa using ih
    · rw [List.count_cons_of_ne hc] at h
      have ih := rep2_dbl k l h
      simp only [dbl, hc, if_false]
      cases k with
      | zero => simp only [replaceK] at ih ⊢; rw [ih]
      | succ k =>
        by_cases hm : Lib.index (dbl l) [39, 39] = -1
        · have hm' : Lib.index (c :: dbl l) [39, 39] = -1 := by rw [idx2_miss hc, hm]; rfl
          rw [replaceK, if_pos (by rw [hm]; rfl)] at ih
          rw [replaceK, if_pos (by rw [hm']; rfl), ih]
        · have hge := index_ge (dbl l) [39, 39]
          obtain ⟨i, hi⟩ : ∃ i : Nat, Lib.index (dbl l) [39, 39] = i := ⟨(Lib.index (dbl l) [39, 39]).toNat, by omega⟩
          have hi' : Lib.index (c :: dbl l) [39, 39] = ((i + 1 : Nat) : Int) := by
            rw [idx2_miss hc, hi]
            have : ((i : Int) == -1) = false := beq_eq_false_iff_ne.2 (by omega)
            rw [this]; simp
          rw [replaceK_hit _ _ _ _ _ hi] at ih
          rw [replaceK_hit _ _ _ _ _ hi']
          simpa using ih
theorem cnt2_ne {c : UInt8} (hc : c ≠ 39) (l : List UInt8) : Lib.count (c :: l) [39, 39] = Lib.count l [39, 39] := by
  by_cases hm : Lib.index l [39, 39] = -1
  · have hm' : Lib.index (c :: l) [39, 39] = -1 := by rw [idx2_miss hc, hm]; rfl
    rw [count_miss hm, count_miss hm']
  · have hge := index_ge l [39, 39]
    obtain ⟨i, hi⟩ : ∃ i : Nat, Lib.index l [39, 39] = i := ⟨(Lib.index l [39, 39]).toNat, by omega⟩
    have hi' : Lib.index (c :: l) [39, 39] = ((i + 1 : Nat) : Int) := by
      rw [idx2_miss hc, hi]
      have : ((i : Int) == -1) = false := beq_eq_false_iff_ne.2 (by omega)
      rw [this]; simp
    rw [count_hit (by simp) hi, count_hit (by simp) hi']
    simp
theorem cnt2 : ∀ l : List UInt8, Lib.count (dbl l) [39, 39] = l.count 39
  | [] => by rw [count_miss (by simp [dbl, Lib.index])]; rfl
  | c :: l => by
    by_cases hc : c = 39
    · subst hc
      have hh : Lib.index (dbl (39 :: l)) [39, 39] = ((0 : Nat) : Int) := by simp only [dbl, if_true]; exact idx2_hit _
      rw [count_hit (by simp) hh, List.count_cons_self]
      simp only [dbl, if_true]
      have := cnt2 l
      simp
      omega
    · rw [List.count_cons_of_ne hc]
      simp only [dbl, hc, if_false]
      rw [cnt2_ne hc, cnt2 l]
/-- Each pair of quotes once gives the text back. -/
theorem undbl (l : List UInt8) : Lib.replaceAll (dbl l) [39, 39] [39] = l := by
  unfold Lib.replaceAll Lib.replace Lib.replaceNum
  rw [if_neg (by decide), if_pos (.inl (by decide)), cnt2]
  exact rep2_dbl _ l (Nat.le_refl _)
end Go.Proofs.YtnahejljelbbgaaGreatDoor

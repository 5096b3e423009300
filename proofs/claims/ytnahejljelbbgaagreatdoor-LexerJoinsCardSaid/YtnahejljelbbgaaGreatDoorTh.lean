import Derived.Test.YtnahejljelbbgaaGreatDoorTg
import Derived.Lib.ParseIntBTie
import Derived.Lib.AtoiAllCases
/- A number's digits are parsed as that number: plain facts. -/
namespace Go.Proofs.YtnahejljelbbgaaGreatDoor
open Go.RowKit Go.Lib

theorem pu_snoc : ∀ (l : List UInt8) (acc v : Nat) (c : UInt8) (d : Nat), parseUint10 acc l = .ok v → c.toNat = 48 + d → d < 10 → v * 10 + d < 18446744073709551616 → parseUint10 acc (l ++ [c]) = .ok (v * 10 + d)
  | [], acc, v, c, d, h, hc, hd, hv => by
    simp only [parseUint10] at h
    injection h with h
    subst h
    simp only [List.nil_append, parseUint10]
    rw [if_pos (by omega), if_neg (by omega), if_neg (by omega), hc, show 48 + d - 48 = d by omega]
  | b :: l, acc, v, c, d, h, hc, hd, hv => by
    simp only [List.cons_append, parseUint10] at h ⊢
    split at h
    · rename_i h1
      rw [if_pos h1]
      split at h
      · cases h
      · rename_i h2
        rw [if_neg h2]
        split at h
        · cases h
        · rename_i h3
          rw [if_neg h3]
          exact pu_snoc l _ v c d h hc hd hv
    · cases h
theorem pu_dec (u : Nat) (hu : u < 18446744073709551616) : parseUint10 0 (decDigits u) = .ok u := by
  induction u using Nat.strongRecOn with
  | ind u ih =>
    by_cases h : u < 10
    · rw [dec_small h]
      have := pu_snoc [] 0 0 (UInt8.ofNat (48 + u % 10)) (u % 10) rfl (dig_val (by omega)) (by omega) (by omega)
      rw [show u % 10 = u by omega] at this ⊢
      simpa using this
    · rw [dec_big h]
      have := pu_snoc _ 0 (u / 10) (UInt8.ofNat (48 + u % 10)) (u % 10) (ih (u / 10) (by omega) (by omega)) (dig_val (by omega)) (by omega) (by omega)
      rw [this, show u / 10 * 10 + u % 10 = u by omega]
theorem mag_dec (u : Nat) (hu : u < 18446744073709551616) : parseMag (decDigits u) = .ok u := by
  unfold parseMag
  rw [if_neg (dec_ne u)]
  exact pu_dec u hu
theorem dec_head (u : Nat) : ∃ c r, decDigits u = c :: r ∧ c.toNat ≠ 43 ∧ c.toNat ≠ 45 := by
  induction u using Nat.strongRecOn with
  | ind u ih =>
    by_cases h : u < 10
    · refine ⟨_, _, dec_small h, ?_, ?_⟩ <;> rw [dig_val (by omega)] <;> omega
    · obtain ⟨c, r, e, h1, h2⟩ := ih (u / 10) (by omega)
      exact ⟨c, r ++ [_], by rw [dec_big h, e]; rfl, h1, h2⟩
/-- A number is parsed as it is written. -/
theorem parse_itoa (i : Int) (hi : In64 i) : parseIntB 64 (itoa i) = .ok i := by
  unfold In64 at hi
  rw [parseIntB_64]
  by_cases h : 0 ≤ i
  · obtain ⟨m, rfl⟩ := Int.eq_ofNat_of_zero_le h
    rw [itoa_nonneg]
    obtain ⟨c, r, e, h1, h2⟩ := dec_head m
    rw [e, atoiAll_plain c r h1 h2, ← e, mag_dec m (by omega)]
    simp only [signless]
    rw [if_neg (by omega)]
  · obtain ⟨m, hm⟩ := Int.eq_ofNat_of_zero_le (show 0 ≤ -i by omega)
    obtain rfl : i = -(m : Int) := by omega
    rw [itoa_neg m (by omega), atoiAll_minus, mag_dec m (by omega)]
    simp only [signed]
    rw [if_neg (by omega)]
end Go.Proofs.YtnahejljelbbgaaGreatDoor

import Derived.Test.YtnahejljelbbgaaVo
/- The order of values goes on from one to the next; the same are equal. No walk. -/
namespace Go.Proofs.Ytnahejljelbbgaa
open Go.RowKit Go.Lib

/-- A way of comparing goes on: of three, the third pair is as the first two say. -/
def Goes (x y z : Int) : Prop := 0 < x ∨ 0 < y ∨ z < 0 ∨ (z = 0 ∧ x = 0 ∧ y = 0)
theorem goes_of {x y z : Int} (h : x ≤ 0 → y ≤ 0 → z ≤ 0 ∧ (z = 0 → x = 0 ∧ y = 0)) : Goes x y z := by
  unfold Goes
  by_cases h1 : x ≤ 0
  · by_cases h2 : y ≤ 0
    · have := h h1 h2
      by_cases h3 : z = 0
      · exact .inr (.inr (.inr ⟨h3, this.2 h3⟩))
      · exact .inr (.inr (.inl (by omega)))
    · exact .inr (.inl (by omega))
  · exact .inl (by omega)
theorem cmpInt_goes (a b c : Int) : Goes (Lib.compareInt a b) (Lib.compareInt b c) (Lib.compareInt a c) := by
  have e : ∀ x y : Int, (x < y ∧ Lib.compareInt x y = -1) ∨ (y < x ∧ Lib.compareInt x y = 1) ∨ (x = y ∧ Lib.compareInt x y = 0) := by
    intro x y
    unfold Lib.compareInt
    by_cases h : x < y
    · exact .inl ⟨h, if_pos h⟩
    · by_cases h' : x > y
      · exact .inr (.inl ⟨h', by rw [if_neg h, if_pos h']⟩)
      · exact .inr (.inr ⟨by omega, by rw [if_neg h, if_neg h']⟩)
  have h1 := e a b
  have h2 := e b c
  have h3 := e a c
  unfold Goes
  omega
theorem cmpBytes_goes : ∀ (a b c : List UInt8), Goes (Lib.compareBytes a b) (Lib.compareBytes b c) (Lib.compareBytes a c)
  | [], [], [] => by simp [Goes, Lib.compareBytes]
  | [], [], _ :: _ => by simp [Goes, Lib.compareBytes]
  | [], _ :: _, [] => by simp [Goes, Lib.compareBytes]
  | [], _ :: _, _ :: _ => by simp [Goes, Lib.compareBytes]
  | _ :: _, [], _ => by simp [Goes, Lib.compareBytes]
  | _ :: _, _ :: _, [] => by simp [Goes, Lib.compareBytes]
  | x :: a, y :: b, z :: c => by
    have ih := cmpBytes_goes a b c
    simp only [Lib.compareBytes]
    by_cases e1 : x < y
    · by_cases e2 : y < z
      · have e3 : x < z := by rw [UInt8.lt_iff_toNat_lt] at *; omega
        simp [Goes, e3]
      · by_cases e4 : z < y
        · simp [Goes, e2, e4]
        · have e3 : x < z := by rw [UInt8.lt_iff_toNat_lt] at *; omega
          simp [Goes, e3]
    · by_cases e5 : y < x
      · simp [Goes, e1, e5]
      · by_cases e2 : y < z
        · have e3 : x < z := by rw [UInt8.lt_iff_toNat_lt] at *; omega
          simp [Goes, e3]
        · by_cases e4 : z < y
          · simp [Goes, e2, e4]
          · have e6 : ¬ x < z := by rw [UInt8.lt_iff_toNat_lt] at *; omega
            have e7 : ¬ z < x := by rw [UInt8.lt_iff_toNat_lt] at *; omega
            simp only [e1, e5, e2, e4, e6, e7, if_false]
            exact ih
theorem or3_goes {x1 x2 x3 y1 y2 y3 z1 z2 z3 : Int} (h1 : Goes x1 y1 z1) (h2 : Goes x2 y2 z2) (h3 : Goes x3 y3 z3) : Goes (or3 x1 x2 x3) (or3 y1 y2 y3) (or3 z1 z2 z3) := by
  unfold Goes at h1 h2 h3 ⊢
  unfold or3
  by_cases p1 : x1 = 0 <;> by_cases q1 : y1 = 0 <;> by_cases p2 : x2 = 0 <;> by_cases q2 : y2 = 0 <;> by_cases r1 : z1 = 0 <;> by_cases r2 : z2 = 0 <;>
    simp only [p1, q1, p2, q2, r1, r2, ne_eq, not_true_eq_false, not_false_eq_true, if_true, if_false] <;> omega
theorem goes_le {x y z : Int} (h : Goes x y z) (h1 : x ≤ 0) (h2 : y ≤ 0) : z ≤ 0 := by unfold Goes at h; omega
theorem ord_goes (k i : Int) (s : ByteArray) (k' i' : Int) (s' : ByteArray) (k'' i'' : Int) (s'' : ByteArray) (h1 : ordN k i s k' i' s' ≤ 0) (h2 : ordN k' i' s' k'' i'' s'' ≤ 0) : ordN k i s k'' i'' s'' ≤ 0 :=
  goes_le (or3_goes (cmpInt_goes _ _ _) (cmpInt_goes _ _ _) (cmpBytes_goes _ _ _)) h1 h2
theorem cmpInt_zero (a b : Int) : Lib.compareInt a b = 0 ↔ a = b := by unfold Lib.compareInt; repeat' split <;> omega
theorem cmpBytes_zero : ∀ (a b : List UInt8), Lib.compareBytes a b = 0 ↔ a = b
  | [], [] => by simp [Lib.compareBytes]
  | [], _ :: _ => by simp [Lib.compareBytes]
  | _ :: _, [] => by simp [Lib.compareBytes]
  | x :: a, y :: b => by
    simp only [Lib.compareBytes, List.cons.injEq]
    by_cases e1 : x < y
    · have : x ≠ y := fun h => by subst h; exact absurd e1 (UInt8.lt_irrefl _)
      simp [e1, this]
    · by_cases e2 : y < x
      · have : x ≠ y := fun h => by subst h; exact absurd e2 (UInt8.lt_irrefl _)
        simp [e1, e2, this]
      · have : x = y := by rw [UInt8.lt_iff_toNat_lt] at e1 e2; exact UInt8.toNat_inj.1 (by omega)
        rw [if_neg e1, if_neg e2, cmpBytes_zero a b]
        simp [this]
theorem or3_zero (x y z : Int) : or3 x y z = 0 ↔ x = 0 ∧ y = 0 ∧ z = 0 := by
  unfold or3
  by_cases h1 : x = 0 <;> by_cases h2 : y = 0 <;> simp [h1, h2]
theorem ordH_zero (k i : Int) (s : ByteArray) (k' i' : Int) (s' : ByteArray) : ordH k i s k' i' s' = 0 ↔ k = k' ∧ i = i' ∧ s = s' := by
  unfold ordH
  rw [or3_zero, cmpInt_zero, cmpInt_zero, cmpBytes_zero]
  constructor
  · rintro ⟨h1, h2, h3⟩
    exact ⟨h1, h2, ByteArray.ext (Array.toList_inj.1 h3)⟩
  · rintro ⟨h1, h2, h3⟩
    exact ⟨h1, h2, by rw [h3]⟩
theorem ord_zero (k i : Int) (s : ByteArray) (k' i' : Int) (s' : ByteArray) (h : mayB k i s = true) (h' : mayB k' i' s' = true) : ordN k i s k' i' s' = 0 ↔ k = k' ∧ i = i' ∧ s = s' := by
  unfold ordN hK hI hS
  rw [if_pos h, if_pos h, if_pos h, if_pos h', if_pos h', if_pos h', ordH_zero]
end Go.Proofs.Ytnahejljelbbgaa

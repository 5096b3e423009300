import Derived.Test.YtnahejljelbbgaaGreatDoorVg
/- What is known of the order of values, with no walk. -/
namespace Go.Proofs.YtnahejljelbbgaaGreatDoor
open Go.RowKit Go.Lib

theorem cmpInt_anti (x y : Int) : Lib.compareInt y x = -Lib.compareInt x y := by unfold Lib.compareInt; repeat (split <;> try omega)
theorem cmpInt_bd (x y : Int) : -1 ≤ Lib.compareInt x y ∧ Lib.compareInt x y ≤ 1 := by unfold Lib.compareInt; split <;> (try split) <;> omega
theorem cmpBytes_anti : ∀ (a b : List UInt8), Lib.compareBytes b a = -Lib.compareBytes a b
  | [], [] => rfl
  | [], _ :: _ => rfl
  | _ :: _, [] => rfl
  | x :: a, y :: b => by
    simp only [Lib.compareBytes]
    by_cases h1 : x < y
    · have h2 : ¬ y < x := fun h => by rw [UInt8.lt_iff_toNat_lt] at h h1; omega
      simp [h1, h2]
    · by_cases h2 : y < x
      · simp [h1, h2]
      · simp only [h1, h2, if_false]
        exact cmpBytes_anti a b
theorem cmpBytes_bd : ∀ (a b : List UInt8), -1 ≤ Lib.compareBytes a b ∧ Lib.compareBytes a b ≤ 1
  | [], [] => by simp [Lib.compareBytes]
  | [], _ :: _ => by simp [Lib.compareBytes]
  | _ :: _, [] => by simp [Lib.compareBytes]
  | x :: a, y :: b => by
    simp only [Lib.compareBytes]
    split
    · omega
    · split
      · omega
      · exact cmpBytes_bd a b
theorem or3_neg (x y z : Int) : or3 (-x) (-y) (-z) = -or3 x y z := by unfold or3; repeat (split <;> try omega)
theorem ord_anti (k i : Int) (s : ByteArray) (k' i' : Int) (s' : ByteArray) : ordN k' i' s' k i s = -ordN k i s k' i' s' := by
  unfold ordN ordH
  rw [cmpInt_anti (hK k i s) (hK k' i' s'), cmpInt_anti (hI k i s) (hI k' i' s'), cmpBytes_anti, or3_neg]
theorem ord_bd (k i : Int) (s : ByteArray) (k' i' : Int) (s' : ByteArray) : -1 ≤ ordN k i s k' i' s' ∧ ordN k i s k' i' s' ≤ 1 := by
  unfold ordN ordH or3
  split
  · exact cmpInt_bd _ _
  · split
    · exact cmpInt_bd _ _
    · exact cmpBytes_bd _ _
theorem alike_comm (k i : Int) (s : ByteArray) (k' i' : Int) (s' : ByteArray) : alikeB k' i' s' k i s = alikeB k i s k' i' s' := by
  unfold alikeB
  by_cases h : hK k i s = hK k' i' s'
  · rw [h]
  · simp [h, Ne.symm h]
theorem b2i_bd (b : Bool) : 0 ≤ b2i b ∧ b2i b ≤ 1 := by cases b <;> decide
/-- Just one holds. -/
theorem one_of_three (k i : Int) (s : ByteArray) (k' i' : Int) (s' : ByteArray) :
    b2i (decide (ordN k i s k' i' s' < 0)) + b2i (decide (ordN k' i' s' k i s < 0)) + b2i (ordN k i s k' i' s' == 0) = 1 := by
  rw [ord_anti k i s k' i' s']
  generalize ordN k i s k' i' s' = o
  unfold b2i
  by_cases h1 : o < 0
  · rw [decide_eq_true h1, decide_eq_false (show ¬ (-o < 0) by omega), beq_eq_false_iff_ne.2 (show o ≠ 0 by omega)]; rfl
  · by_cases h2 : o = 0
    · subst h2; decide
    · rw [decide_eq_false h1, decide_eq_true (show -o < 0 by omega), beq_eq_false_iff_ne.2 h2]; rfl

/-- A variable that a region has made. -/
def newR (u : Value) (F : List Nat) (w : World) : Prop := ∃ b, F = [b] ∧ u = .pointer (some ⟨b, 0, none⟩) ∧ At3 w b 0 0 ⟨#[]⟩ ∧ ∀ o, w.frozen? ⟨b, o, none⟩ = false
theorem newR_lasting : ∀ u F, Lasting (newR u F) := by
  rintro u F w w' hb ⟨b, h1, h2, h3, h4⟩
  exact ⟨b, h1, h2, h3.later hb, fun o => (hb.frozen (p := ⟨b, o, none⟩) h3.lt).trans (h4 o)⟩
theorem newR_at {v : Value} {b : Nat} {w : World} (h : newR v [b] w) : At3 w b 0 0 ⟨#[]⟩ ∧ ∀ o, w.frozen? ⟨b, o, none⟩ = false := by
  obtain ⟨b', e, _, h⟩ := h
  obtain rfl : b = b' := by injection e
  exact h
theorem newR_made {P : Program} {w : World} {t : TypeId} : Rel1 P newR w (.ok (.value (.pointer (some ⟨w.heap.size, 0, none⟩))) (w.alloc (.cells #[.int .i64 0, .int .i64 0, .string ⟨#[]⟩] t))) :=
  ⟨[w.heap.size], ⟨_, rfl, rfl, At3.new rfl, fun o => by simp [go_sem]⟩, by simp, (Below.refl _ _).alloc (Nat.le_refl _) _⟩
end Go.Proofs.YtnahejljelbbgaaGreatDoor

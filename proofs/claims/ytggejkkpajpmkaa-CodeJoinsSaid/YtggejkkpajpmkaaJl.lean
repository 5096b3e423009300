import Derived.Test.YtggejkkpajpmkaaJa
import Derived.Test.YtggejkkpajpmkaaJb
import Derived.Test.YtggejkkpajpmkaaJc
/- The law CodeJoins. -/
namespace Go.Proofs.Ytggejkkpajpmkaa
open Go.RowKit Go.Lib

theorem law_joins (A : Option Addr) (n cap : Nat) (l : List Vl) (A' : Option Addr) (m cap' : Nat) (l' : List Vl) (k i : Int) (s : ByteArray) (k' i' : Int) (s' : ByteArray) (w : World) (h : Inp w A n l) (h' : Inp w A' m l') (hi : In64 i) (hs : s.size ≤ maxLen) (hi' : In64 i') (hs' : s'.size ≤ maxLen) :
    Calls Try.prog 5 #[.agg #[.slice A n cap, .slice A' m cap', .int .i64 k, .int .i64 i, .string s, .int .i64 k', .int .i64 i', .string s']] w fun e w' => e = .returned (.bool true) ∧ Below w.heap.size w w' := by
  cases h1 : ((⟨(valO k i (fewS s)).toArray⟩ : ByteArray).toList == (⟨(valO k' i' (fewS s')).toArray⟩ : ByteArray).toList) with
  | true =>
    rcases row_cases (fewL l) (fewL l') with e1 | ⟨e1, e2⟩ | ⟨e1, e2, e3⟩ | ⟨e1, e2, e3, e4⟩
    · exact joins_11 A n cap l A' m cap' l' k i s k' i' s' w h h' hi hs hi' hs' _ _ rfl rfl h1 e1
    · exact joins_12 A n cap l A' m cap' l' k i s k' i' s' w h h' hi hs hi' hs' _ _ rfl rfl h1 e1 e2
    · exact joins_13 A n cap l A' m cap' l' k i s k' i' s' w h h' hi hs hi' hs' _ _ rfl rfl h1 e1 e2 e3
    · exact joins_14 A n cap l A' m cap' l' k i s k' i' s' w h h' hi hs hi' hs' _ _ rfl rfl h1 e1 e2 e3 e4
  | false =>
    by_cases h2 : (⟨(valO k' i' (fewS s')).toArray⟩ : ByteArray).size ≤ (⟨(valO k i (fewS s)).toArray⟩ : ByteArray).size
    · rcases row_cases (fewL l) (fewL l') with e1 | ⟨e1, e2⟩ | ⟨e1, e2, e3⟩ | ⟨e1, e2, e3, e4⟩
      · exact joins_21 A n cap l A' m cap' l' k i s k' i' s' w h h' hi hs hi' hs' _ _ rfl rfl h1 h2 e1
      · exact joins_22 A n cap l A' m cap' l' k i s k' i' s' w h h' hi hs hi' hs' _ _ rfl rfl h1 h2 e1 e2
      · exact joins_23 A n cap l A' m cap' l' k i s k' i' s' w h h' hi hs hi' hs' _ _ rfl rfl h1 h2 e1 e2 e3
      · exact joins_24 A n cap l A' m cap' l' k i s k' i' s' w h h' hi hs hi' hs' _ _ rfl rfl h1 h2 e1 e2 e3 e4
    · have hz : ∀ x : List UInt8, (⟨x.toArray⟩ : ByteArray).size = x.length := fun x => by simp [ByteArray.size]
      have hn : valO k i (fewS s) ≠ valO k' i' (fewS s') := fun e => by rw [e] at h2; exact h2 (Nat.le_refl _)
      have h3 : (((⟨(valO k' i' (fewS s')).toArray⟩ : ByteArray).extract 0 (⟨(valO k i (fewS s)).toArray⟩ : ByteArray).size).toList == (⟨(valO k i (fewS s)).toArray⟩ : ByteArray).toList) = false := by
        rw [beq_eq_false_iff_ne, toList_data, toList_data, extract_take, hz]
        exact no_prefix hi hi' hn
      rcases row_cases (fewL l) (fewL l') with e1 | ⟨e1, e2⟩ | ⟨e1, e2, e3⟩ | ⟨e1, e2, e3, e4⟩
      · exact joins_31 A n cap l A' m cap' l' k i s k' i' s' w h h' hi hs hi' hs' _ _ rfl rfl h1 (by omega) h3 e1
      · exact joins_32 A n cap l A' m cap' l' k i s k' i' s' w h h' hi hs hi' hs' _ _ rfl rfl h1 (by omega) h3 e1 e2
      · exact joins_33 A n cap l A' m cap' l' k i s k' i' s' w h h' hi hs hi' hs' _ _ rfl rfl h1 (by omega) h3 e1 e2 e3
      · exact joins_34 A n cap l A' m cap' l' k i s k' i' s' w h h' hi hs hi' hs' _ _ rfl rfl h1 (by omega) h3 e1 e2 e3 e4
end Go.Proofs.Ytggejkkpajpmkaa

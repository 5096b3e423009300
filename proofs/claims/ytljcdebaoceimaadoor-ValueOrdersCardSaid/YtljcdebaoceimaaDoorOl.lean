import Derived.Test.YtljcdebaoceimaaDoorOa
import Derived.Test.YtljcdebaoceimaaDoorOb
import Derived.Test.YtljcdebaoceimaaDoorOc
import Derived.Test.YtljcdebaoceimaaDoorOd
import Derived.Test.YtljcdebaoceimaaDoorOe
/- The law ValueOrders: the order of values is one. -/
namespace Go.Proofs.YtljcdebaoceimaaDoor
open Go.RowKit Go.Lib

theorem bytes_inj {a b : ByteArray} (h : a.toList = b.toList) : a = b := by
  rw [ByteArray.toList_eq, ByteArray.toList_eq] at h
  exact ByteArray.ext (Array.toList_inj.1 h)
theorem law_orders' (k i : Int) (s : ByteArray) (k' i' : Int) (s' : ByteArray) (k'' i'' : Int) (s'' : ByteArray) (w : World) (hs : s.size ≤ maxLen) (hs' : s'.size ≤ maxLen) (hs'' : s''.size ≤ maxLen) (m : Int) (hm : w.cell? ⟨0, 0, none⟩ = some (.int .i64 m))
    (S S' S'' : ByteArray) (hS : fewS s = S) (hS' : fewS s' = S') (hS'' : fewS s'' = S'') (y z : Int) (hy : ordN k' i' S' k'' i'' S'' = y) (hz : ordN k i S k'' i'' S'' = z) :
    Calls Tryd.prog 7 #[.agg #[.int .i64 k, .int .i64 i, .string s], .agg #[.int .i64 k', .int .i64 i', .string s'], .agg #[.int .i64 k'', .int .i64 i'', .string s'']] w fun e w' => e = .returned (.bool true) ∧ Below w.heap.size w w' := by
  have bd := ord_bd k i S k' i' S'
  have hg := ord_goes k i S k' i' S' k'' i'' S''
  rw [hy, hz] at hg
  have hzr := ord_zero k i S k' i' S'
  rcases (show ordN k i S k' i' S' = 0 ∨ ordN k i S k' i' S' = 1 ∨ ordN k i S k' i' S' = -1 by omega) with hx | hx | hx
  · by_cases h1 : y ≤ 0
    · have hy1 : decide (y ≤ 0) = true := decide_eq_true h1
      have hz1 : decide (0 < z) = false := decide_eq_false (by have := hg (by rw [hx]; decide) h1; omega)
      cases ha : mayB k i S with
      | false => exact orders_0y_f _ _ s _ _ _ s' _ _ _ s'' _ w hs hs' hs'' hS hS' hS'' m hm y z hx hy hz hy1 hz1 ha
      | true =>
        cases hb : mayB k' i' S' with
        | false => exact orders_0y_tf _ _ s _ _ _ s' _ _ _ s'' _ w hs hs' hs'' hS hS' hS'' m hm y z hx hy hz hy1 hz1 ha hb
        | true =>
          obtain ⟨rfl, rfl, rfl⟩ := (hzr ha hb).1 hx
          exact orders_0y_eq _ _ s _ s' _ _ s'' _ w hs hs' hs'' hS hS' hS'' m hm y z hx hy hz hy1 hz1 ha hb
    · have hy1 : decide (y ≤ 0) = false := decide_eq_false h1
      cases ha : mayB k i S with
      | false => exact orders_0n_f _ _ s _ _ _ s' _ _ _ s'' _ w hs hs' hs'' hS hS' hS'' m hm y z hx hy hz hy1 ha
      | true =>
        cases hb : mayB k' i' S' with
        | false => exact orders_0n_tf _ _ s _ _ _ s' _ _ _ s'' _ w hs hs' hs'' hS hS' hS'' m hm y z hx hy hz hy1 ha hb
        | true =>
          obtain ⟨rfl, rfl, rfl⟩ := (hzr ha hb).1 hx
          exact orders_0n_eq _ _ s _ s' _ _ s'' _ w hs hs' hs'' hS hS' hS'' m hm y z hx hy hz hy1 ha hb
  · cases ha : mayB k i S with
    | false => exact orders_1o_f _ _ s _ _ _ s' _ _ _ s'' _ w hs hs' hs'' hS hS' hS'' m hm y z hx hy hz  ha
    | true =>
      cases hb : mayB k' i' S' with
      | false => exact orders_1o_tf _ _ s _ _ _ s' _ _ _ s'' _ w hs hs' hs'' hS hS' hS'' m hm y z hx hy hz  ha hb
      | true =>
        have hn : ¬ (k = k' ∧ i = i' ∧ S = S') := fun h => absurd ((hzr ha hb).2 h) (by rw [hx]; decide)
        by_cases h2 : k = k'
        · subst h2
          by_cases h3 : i = i'
          · subst h3
            exact orders_1o_s _ _ s _ s' _ _ _ s'' _ w hs hs' hs'' hS hS' hS'' m hm y z hx hy hz  ha hb (fun h => hn ⟨rfl, rfl, bytes_inj h⟩)
          · exact orders_1o_i _ _ s _ _ s' _ _ _ s'' _ w hs hs' hs'' hS hS' hS'' m hm y z hx hy hz  ha hb (beq_eq_false_iff_ne.2 h3)
        · exact orders_1o_k _ _ s _ _ _ s' _ _ _ s'' _ w hs hs' hs'' hS hS' hS'' m hm y z hx hy hz  ha hb (beq_eq_false_iff_ne.2 h2)
  · by_cases h1 : y ≤ 0
    · have hy1 : decide (y ≤ 0) = true := decide_eq_true h1
      have hz1 : decide (0 < z) = false := decide_eq_false (by have := hg (by rw [hx]; decide) h1; omega)
      cases ha : mayB k i S with
      | false => exact orders_my_f _ _ s _ _ _ s' _ _ _ s'' _ w hs hs' hs'' hS hS' hS'' m hm y z hx hy hz hy1 hz1 ha
      | true =>
        cases hb : mayB k' i' S' with
        | false => exact orders_my_tf _ _ s _ _ _ s' _ _ _ s'' _ w hs hs' hs'' hS hS' hS'' m hm y z hx hy hz hy1 hz1 ha hb
        | true =>
          have hn : ¬ (k = k' ∧ i = i' ∧ S = S') := fun h => absurd ((hzr ha hb).2 h) (by rw [hx]; decide)
          by_cases h2 : k = k'
          · subst h2
            by_cases h3 : i = i'
            · subst h3
              exact orders_my_s _ _ s _ s' _ _ _ s'' _ w hs hs' hs'' hS hS' hS'' m hm y z hx hy hz hy1 hz1 ha hb (fun h => hn ⟨rfl, rfl, bytes_inj h⟩)
            · exact orders_my_i _ _ s _ _ s' _ _ _ s'' _ w hs hs' hs'' hS hS' hS'' m hm y z hx hy hz hy1 hz1 ha hb (beq_eq_false_iff_ne.2 h3)
          · exact orders_my_k _ _ s _ _ _ s' _ _ _ s'' _ w hs hs' hs'' hS hS' hS'' m hm y z hx hy hz hy1 hz1 ha hb (beq_eq_false_iff_ne.2 h2)
    · have hy1 : decide (y ≤ 0) = false := decide_eq_false h1
      cases ha : mayB k i S with
      | false => exact orders_mn_f _ _ s _ _ _ s' _ _ _ s'' _ w hs hs' hs'' hS hS' hS'' m hm y z hx hy hz hy1 ha
      | true =>
        cases hb : mayB k' i' S' with
        | false => exact orders_mn_tf _ _ s _ _ _ s' _ _ _ s'' _ w hs hs' hs'' hS hS' hS'' m hm y z hx hy hz hy1 ha hb
        | true =>
          have hn : ¬ (k = k' ∧ i = i' ∧ S = S') := fun h => absurd ((hzr ha hb).2 h) (by rw [hx]; decide)
          by_cases h2 : k = k'
          · subst h2
            by_cases h3 : i = i'
            · subst h3
              exact orders_mn_s _ _ s _ s' _ _ _ s'' _ w hs hs' hs'' hS hS' hS'' m hm y z hx hy hz hy1 ha hb (fun h => hn ⟨rfl, rfl, bytes_inj h⟩)
            · exact orders_mn_i _ _ s _ _ s' _ _ _ s'' _ w hs hs' hs'' hS hS' hS'' m hm y z hx hy hz hy1 ha hb (beq_eq_false_iff_ne.2 h3)
          · exact orders_mn_k _ _ s _ _ _ s' _ _ _ s'' _ w hs hs' hs'' hS hS' hS'' m hm y z hx hy hz hy1 ha hb (beq_eq_false_iff_ne.2 h2)

theorem law_orders (k i : Int) (s : ByteArray) (k' i' : Int) (s' : ByteArray) (k'' i'' : Int) (s'' : ByteArray) (w : World) (hs : s.size ≤ maxLen) (hs' : s'.size ≤ maxLen) (hs'' : s''.size ≤ maxLen) (m : Int) (hm : w.cell? ⟨0, 0, none⟩ = some (.int .i64 m)) :
    Calls Tryd.prog 7 #[.agg #[.int .i64 k, .int .i64 i, .string s], .agg #[.int .i64 k', .int .i64 i', .string s'], .agg #[.int .i64 k'', .int .i64 i'', .string s'']] w fun e w' => e = .returned (.bool true) ∧ Below w.heap.size w w' :=
  law_orders' k i s k' i' s' k'' i'' s'' w hs hs' hs'' m hm _ _ _ rfl rfl rfl _ _ rfl rfl
end Go.Proofs.YtljcdebaoceimaaDoor

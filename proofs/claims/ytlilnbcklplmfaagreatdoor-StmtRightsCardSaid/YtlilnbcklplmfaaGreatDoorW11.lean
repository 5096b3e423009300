import Derived.Test.YtlilnbcklplmfaaGreatDoorW10

/- A right's Text and May. -/
namespace Go.Proofs.YtlilnbcklplmfaaGreatDoor
open Go.RowKit Go.Lib

set_option maxRecDepth 100000 in
set_option maxHeartbeats 4000000 in
theorem text_read (tb ro : ByteArray) (w : World) (hl : LibE w) (h1 : tb.size ≤ 1000) (h2 : ro.size ≤ 1000) (x y : Bool) (hx : nmB tb = x) (hy : nmB ro = y) (hc : (x && y) = true → ∃ ts, cutR (⟨#[71, 82, 65, 78, 84, 32, 82, 69, 65, 68, 32, 79, 78, 32]⟩ ++ tb ++ ⟨#[32, 84, 79, 32]⟩ ++ ro).data.toList = some ts) :
    Calls Tryz.prog 51 #[.agg #[.string ⟨#[114, 101, 97, 100]⟩, .string tb, .string ⟨#[]⟩, .slice none 0 0, .slice none 0 0, .string ⟨#[]⟩, .slice none 0 0, .slice none 0 0, .string ⟨#[]⟩, .int .i64 0, .int .i64 0, .string ⟨#[]⟩, .string ⟨#[]⟩, .slice none 0 0, .slice none 0 0, .slice none 0 0, .string ⟨#[]⟩, .int .i64 0, .int .i64 0, .string ⟨#[]⟩, .string ⟨#[]⟩, .slice none 0 0, .string ro]] w fun e w' => e = .returned (if (x && y) = true then .tuple #[.string (⟨#[71, 82, 65, 78, 84, 32, 82, 69, 65, 68, 32, 79, 78, 32]⟩ ++ tb ++ ⟨#[32, 84, 79, 32]⟩ ++ ro), .int .i64 0] else .tuple #[.string ⟨#[]⟩, .int .i64 1]) ∧ Below w.heap.size w w' := by
  have HX := Lib.hid hx
  have HY := Lib.hid hy
  have HL := Lib.hid hl
  clear hx hy hl
  have HF : Hid (∀ W : World, Calls Tryz.prog 102 #[.agg #[.string ⟨#[114, 101, 97, 100]⟩, .string tb, .string ⟨#[]⟩, .slice none 0 0, .slice none 0 0, .string ⟨#[]⟩, .slice none 0 0, .slice none 0 0, .string ⟨#[]⟩, .int .i64 0, .int .i64 0, .string ⟨#[]⟩, .string ⟨#[]⟩, .slice none 0 0, .slice none 0 0, .slice none 0 0, .string ⟨#[]⟩, .int .i64 0, .int .i64 0, .string ⟨#[]⟩, .string ⟨#[]⟩, .slice none 0 0, .string ro]] W fun e w' => e = .returned (.bool (x && y)) ∧ Below W.heap.size W w') := Lib.hid fun W => formed_read tb ro W h1 h2 x y HX.out HY.out
  have H0 : Hid (Below w.heap.size w (w.alloc (.cells #[.string ⟨#[114, 101, 97, 100]⟩, .string tb, .string ⟨#[]⟩, .slice none 0 0, .slice none 0 0, .string ⟨#[]⟩, .slice none 0 0, .slice none 0 0, .string ⟨#[]⟩, .int .i64 0, .int .i64 0, .string ⟨#[]⟩, .string ⟨#[]⟩, .slice none 0 0, .slice none 0 0, .slice none 0 0, .string ⟨#[]⟩, .int .i64 0, .int .i64 0, .string ⟨#[]⟩, .string ⟨#[]⟩, .slice none 0 0, .string ro] 34)) ∧ (w.alloc (.cells #[.string ⟨#[114, 101, 97, 100]⟩, .string tb, .string ⟨#[]⟩, .slice none 0 0, .slice none 0 0, .string ⟨#[]⟩, .slice none 0 0, .slice none 0 0, .string ⟨#[]⟩, .int .i64 0, .int .i64 0, .string ⟨#[]⟩, .string ⟨#[]⟩, .slice none 0 0, .slice none 0 0, .slice none 0 0, .string ⟨#[]⟩, .int .i64 0, .int .i64 0, .string ⟨#[]⟩, .string ⟨#[]⟩, .slice none 0 0, .string ro] 34)).heap[w.heap.size]? = some (.cells #[.string ⟨#[114, 101, 97, 100]⟩, .string tb, .string ⟨#[]⟩, .slice none 0 0, .slice none 0 0, .string ⟨#[]⟩, .slice none 0 0, .slice none 0 0, .string ⟨#[]⟩, .int .i64 0, .int .i64 0, .string ⟨#[]⟩, .string ⟨#[]⟩, .slice none 0 0, .slice none 0 0, .slice none 0 0, .string ⟨#[]⟩, .int .i64 0, .int .i64 0, .string ⟨#[]⟩, .string ⟨#[]⟩, .slice none 0 0, .string ro] 34 (0, 0))) := ⟨(Below.refl _ _).alloc (Nat.le_refl _) _, alloc_at rfl _⟩
  have hbx := H0.out.2
  have STEP : Hid (∀ W W' : World, (Below w.heap.size w W ∧ W.heap[w.heap.size]? = some (.cells #[.string ⟨#[114, 101, 97, 100]⟩, .string tb, .string ⟨#[]⟩, .slice none 0 0, .slice none 0 0, .string ⟨#[]⟩, .slice none 0 0, .slice none 0 0, .string ⟨#[]⟩, .int .i64 0, .int .i64 0, .string ⟨#[]⟩, .string ⟨#[]⟩, .slice none 0 0, .slice none 0 0, .slice none 0 0, .string ⟨#[]⟩, .int .i64 0, .int .i64 0, .string ⟨#[]⟩, .string ⟨#[]⟩, .slice none 0 0, .string ro] 34 (0, 0))) → Below W.heap.size W W' → (Below w.heap.size w W' ∧ W'.heap[w.heap.size]? = some (.cells #[.string ⟨#[114, 101, 97, 100]⟩, .string tb, .string ⟨#[]⟩, .slice none 0 0, .slice none 0 0, .string ⟨#[]⟩, .slice none 0 0, .slice none 0 0, .string ⟨#[]⟩, .int .i64 0, .int .i64 0, .string ⟨#[]⟩, .string ⟨#[]⟩, .slice none 0 0, .slice none 0 0, .slice none 0 0, .string ⟨#[]⟩, .int .i64 0, .int .i64 0, .string ⟨#[]⟩, .string ⟨#[]⟩, .slice none 0 0, .string ro] 34 (0, 0)))) := Lib.hid fun W W' h hb => ⟨h.1.trans (hb.mono h.1.size), (hb.block _ (lt_of_block h.2)).trans h.2⟩
  generalize (x && y) = z at HF hc ⊢
  cases z with
  | false =>
    simp only [Bool.false_eq_true, if_false]
    go_enter Tryz.func51, Tryz.ntmps51
    go_wp2_with (first
      | (go_at_call 102; (with_reducible refine (HF.out _).mono ?_); rintro e w1 ⟨rfl, hb1⟩; have H0 := Lib.hid (STEP.out _ _ H0.out hb1); have hbx := H0.out.2; clear hb1)
      | (refine wpList_load_row rfl 34 (.tmp 1) rfl w.heap.size rfl 34 #[.string ⟨#[114, 101, 97, 100]⟩, .string tb, .string ⟨#[]⟩, .slice none 0 0, .slice none 0 0, .string ⟨#[]⟩, .slice none 0 0, .slice none 0 0, .string ⟨#[]⟩, .int .i64 0, .int .i64 0, .string ⟨#[]⟩, .string ⟨#[]⟩, .slice none 0 0, .slice none 0 0, .slice none 0 0, .string ⟨#[]⟩, .int .i64 0, .int .i64 0, .string ⟨#[]⟩, .string ⟨#[]⟩, .slice none 0 0, .string ro] (0, 0) _ hbx Tryz.underlying34 rfl stSize ?_))
    go_ret2
    exact ⟨rfl, H0.out.1⟩
  | true =>
    obtain ⟨ts, hc⟩ := hc rfl
    have HC := Lib.hid hc
    clear hc
    simp only [if_true]
    have hz : (⟨#[71, 82, 65, 78, 84, 32, 82, 69, 65, 68, 32, 79, 78, 32]⟩ ++ tb ++ ⟨#[32, 84, 79, 32]⟩ ++ ro).size ≤ 100000 := by simp only [ByteArray.size_append]; have e1 : (⟨#[71, 82, 65, 78, 84, 32, 82, 69, 65, 68, 32, 79, 78, 32]⟩ : ByteArray).size = 14 := rfl; have e2 : (⟨#[32, 84, 79, 32]⟩ : ByteArray).size = 4 := rfl; omega
    go_enter Tryz.func51, Tryz.ntmps51
    go_wp2_with (first
      | (go_at_call 102; (with_reducible refine (HF.out _).mono ?_); rintro e w1 ⟨rfl, hb1⟩; have H0 := Lib.hid (STEP.out _ _ H0.out hb1); have hbx := H0.out.2; clear hb1)
      | (go_at_call 103; (with_reducible refine (written_read tb ro _ h1 h2).mono ?_); rintro e w1 ⟨rfl, hb1⟩; have H0 := Lib.hid (STEP.out _ _ H0.out hb1); have hbx := H0.out.2; clear hb1)
      | (go_at_call 17; (with_reducible refine (cut_ok (⟨#[71, 82, 65, 78, 84, 32, 82, 69, 65, 68, 32, 79, 78, 32]⟩ ++ tb ++ ⟨#[32, 84, 79, 32]⟩ ++ ro) _ hz (HL.out.keep H0.out.1 (Nat.le_refl _)) ts HC.out).mono ?_); rintro e w1 ⟨vv, rfl, _, hb1⟩; have H0 := Lib.hid (STEP.out _ _ H0.out hb1); have hbx := H0.out.2; clear hb1)
      | (refine wpList_load_row rfl 34 (.tmp 1) rfl w.heap.size rfl 34 #[.string ⟨#[114, 101, 97, 100]⟩, .string tb, .string ⟨#[]⟩, .slice none 0 0, .slice none 0 0, .string ⟨#[]⟩, .slice none 0 0, .slice none 0 0, .string ⟨#[]⟩, .int .i64 0, .int .i64 0, .string ⟨#[]⟩, .string ⟨#[]⟩, .slice none 0 0, .slice none 0 0, .slice none 0 0, .string ⟨#[]⟩, .int .i64 0, .int .i64 0, .string ⟨#[]⟩, .string ⟨#[]⟩, .slice none 0 0, .string ro] (0, 0) _ hbx Tryz.underlying34 rfl stSize ?_))
    go_ret2
    exact ⟨rfl, H0.out.1⟩
set_option maxRecDepth 100000 in
set_option maxHeartbeats 4000000 in
theorem may_read (tb ro : ByteArray) (w : World) (hl : LibE w) (h1 : tb.size ≤ 1000) (h2 : ro.size ≤ 1000) (hc : (nmB tb && nmB ro) = true → ∃ ts, cutR (⟨#[71, 82, 65, 78, 84, 32, 82, 69, 65, 68, 32, 79, 78, 32]⟩ ++ tb ++ ⟨#[32, 84, 79, 32]⟩ ++ ro).data.toList = some ts) :
    Calls Tryz.prog 19 #[.agg #[.string ⟨#[114, 101, 97, 100]⟩, .string tb, .string ⟨#[]⟩, .slice none 0 0, .slice none 0 0, .string ⟨#[]⟩, .slice none 0 0, .slice none 0 0, .string ⟨#[]⟩, .int .i64 0, .int .i64 0, .string ⟨#[]⟩, .string ⟨#[]⟩, .slice none 0 0, .slice none 0 0, .slice none 0 0, .string ⟨#[]⟩, .int .i64 0, .int .i64 0, .string ⟨#[]⟩, .string ⟨#[]⟩, .slice none 0 0, .string ro]] w fun e w' => e = .returned (.bool (nmB tb && nmB ro)) ∧ Below w.heap.size w w' := by
  have HT : Hid (∀ W : World, LibE W → Calls Tryz.prog 51 #[.agg #[.string ⟨#[114, 101, 97, 100]⟩, .string tb, .string ⟨#[]⟩, .slice none 0 0, .slice none 0 0, .string ⟨#[]⟩, .slice none 0 0, .slice none 0 0, .string ⟨#[]⟩, .int .i64 0, .int .i64 0, .string ⟨#[]⟩, .string ⟨#[]⟩, .slice none 0 0, .slice none 0 0, .slice none 0 0, .string ⟨#[]⟩, .int .i64 0, .int .i64 0, .string ⟨#[]⟩, .string ⟨#[]⟩, .slice none 0 0, .string ro]] W fun e w' => e = .returned (if (nmB tb && nmB ro) = true then .tuple #[.string (⟨#[71, 82, 65, 78, 84, 32, 82, 69, 65, 68, 32, 79, 78, 32]⟩ ++ tb ++ ⟨#[32, 84, 79, 32]⟩ ++ ro), .int .i64 0] else .tuple #[.string ⟨#[]⟩, .int .i64 1]) ∧ Below W.heap.size W w') := Lib.hid fun W hW => text_read tb ro W hW h1 h2 _ _ rfl rfl hc
  have HL := Lib.hid hl
  clear hl hc
  have H0 : Hid (Below w.heap.size w (w.alloc (.cells #[.string ⟨#[114, 101, 97, 100]⟩, .string tb, .string ⟨#[]⟩, .slice none 0 0, .slice none 0 0, .string ⟨#[]⟩, .slice none 0 0, .slice none 0 0, .string ⟨#[]⟩, .int .i64 0, .int .i64 0, .string ⟨#[]⟩, .string ⟨#[]⟩, .slice none 0 0, .slice none 0 0, .slice none 0 0, .string ⟨#[]⟩, .int .i64 0, .int .i64 0, .string ⟨#[]⟩, .string ⟨#[]⟩, .slice none 0 0, .string ro] 34)) ∧ (w.alloc (.cells #[.string ⟨#[114, 101, 97, 100]⟩, .string tb, .string ⟨#[]⟩, .slice none 0 0, .slice none 0 0, .string ⟨#[]⟩, .slice none 0 0, .slice none 0 0, .string ⟨#[]⟩, .int .i64 0, .int .i64 0, .string ⟨#[]⟩, .string ⟨#[]⟩, .slice none 0 0, .slice none 0 0, .slice none 0 0, .string ⟨#[]⟩, .int .i64 0, .int .i64 0, .string ⟨#[]⟩, .string ⟨#[]⟩, .slice none 0 0, .string ro] 34)).heap[w.heap.size]? = some (.cells #[.string ⟨#[114, 101, 97, 100]⟩, .string tb, .string ⟨#[]⟩, .slice none 0 0, .slice none 0 0, .string ⟨#[]⟩, .slice none 0 0, .slice none 0 0, .string ⟨#[]⟩, .int .i64 0, .int .i64 0, .string ⟨#[]⟩, .string ⟨#[]⟩, .slice none 0 0, .slice none 0 0, .slice none 0 0, .string ⟨#[]⟩, .int .i64 0, .int .i64 0, .string ⟨#[]⟩, .string ⟨#[]⟩, .slice none 0 0, .string ro] 34 (0, 0))) := ⟨(Below.refl _ _).alloc (Nat.le_refl _) _, alloc_at rfl _⟩
  have hbx := H0.out.2
  have STEP : Hid (∀ W W' : World, (Below w.heap.size w W ∧ W.heap[w.heap.size]? = some (.cells #[.string ⟨#[114, 101, 97, 100]⟩, .string tb, .string ⟨#[]⟩, .slice none 0 0, .slice none 0 0, .string ⟨#[]⟩, .slice none 0 0, .slice none 0 0, .string ⟨#[]⟩, .int .i64 0, .int .i64 0, .string ⟨#[]⟩, .string ⟨#[]⟩, .slice none 0 0, .slice none 0 0, .slice none 0 0, .string ⟨#[]⟩, .int .i64 0, .int .i64 0, .string ⟨#[]⟩, .string ⟨#[]⟩, .slice none 0 0, .string ro] 34 (0, 0))) → Below W.heap.size W W' → (Below w.heap.size w W' ∧ W'.heap[w.heap.size]? = some (.cells #[.string ⟨#[114, 101, 97, 100]⟩, .string tb, .string ⟨#[]⟩, .slice none 0 0, .slice none 0 0, .string ⟨#[]⟩, .slice none 0 0, .slice none 0 0, .string ⟨#[]⟩, .int .i64 0, .int .i64 0, .string ⟨#[]⟩, .string ⟨#[]⟩, .slice none 0 0, .slice none 0 0, .slice none 0 0, .string ⟨#[]⟩, .int .i64 0, .int .i64 0, .string ⟨#[]⟩, .string ⟨#[]⟩, .slice none 0 0, .string ro] 34 (0, 0)))) := Lib.hid fun W W' h hb => ⟨h.1.trans (hb.mono h.1.size), (hb.block _ (lt_of_block h.2)).trans h.2⟩
  generalize (nmB tb && nmB ro) = z at HT ⊢
  cases z with
  | false =>
    simp only [Bool.false_eq_true, if_false] at HT
    go_enter Tryz.func19, Tryz.ntmps19
    go_wp2_with (first
      | (go_at_call 51; (with_reducible refine (HT.out _ (HL.out.keep H0.out.1 (Nat.le_refl _))).mono ?_); rintro e w1 ⟨rfl, hb1⟩; have H0 := Lib.hid (STEP.out _ _ H0.out hb1); have hbx := H0.out.2; clear hb1)
      | (refine wpList_load_row rfl 34 (.tmp 1) rfl w.heap.size rfl 34 #[.string ⟨#[114, 101, 97, 100]⟩, .string tb, .string ⟨#[]⟩, .slice none 0 0, .slice none 0 0, .string ⟨#[]⟩, .slice none 0 0, .slice none 0 0, .string ⟨#[]⟩, .int .i64 0, .int .i64 0, .string ⟨#[]⟩, .string ⟨#[]⟩, .slice none 0 0, .slice none 0 0, .slice none 0 0, .string ⟨#[]⟩, .int .i64 0, .int .i64 0, .string ⟨#[]⟩, .string ⟨#[]⟩, .slice none 0 0, .string ro] (0, 0) _ hbx Tryz.underlying34 rfl stSize ?_))
    go_ret
    exact ⟨rfl, H0.out.1⟩
  | true =>
    simp only [if_true] at HT
    go_enter Tryz.func19, Tryz.ntmps19
    go_wp2_with (first
      | (go_at_call 51; (with_reducible refine (HT.out _ (HL.out.keep H0.out.1 (Nat.le_refl _))).mono ?_); rintro e w1 ⟨rfl, hb1⟩; have H0 := Lib.hid (STEP.out _ _ H0.out hb1); have hbx := H0.out.2; clear hb1)
      | (refine wpList_load_row rfl 34 (.tmp 1) rfl w.heap.size rfl 34 #[.string ⟨#[114, 101, 97, 100]⟩, .string tb, .string ⟨#[]⟩, .slice none 0 0, .slice none 0 0, .string ⟨#[]⟩, .slice none 0 0, .slice none 0 0, .string ⟨#[]⟩, .int .i64 0, .int .i64 0, .string ⟨#[]⟩, .string ⟨#[]⟩, .slice none 0 0, .slice none 0 0, .slice none 0 0, .string ⟨#[]⟩, .int .i64 0, .int .i64 0, .string ⟨#[]⟩, .string ⟨#[]⟩, .slice none 0 0, .string ro] (0, 0) _ hbx Tryz.underlying34 rfl stSize ?_))
    go_ret
    exact ⟨rfl, H0.out.1⟩
set_option maxRecDepth 100000 in
set_option maxHeartbeats 4000000 in
theorem text_write (tb ro : ByteArray) (w : World) (hl : LibE w) (h1 : tb.size ≤ 1000) (h2 : ro.size ≤ 1000) (x y : Bool) (hx : nmB tb = x) (hy : nmB ro = y) (hc : (x && y) = true → ∃ ts, cutR (⟨#[71, 82, 65, 78, 84, 32, 87, 82, 73, 84, 69, 32, 79, 78, 32]⟩ ++ tb ++ ⟨#[32, 84, 79, 32]⟩ ++ ro).data.toList = some ts) :
    Calls Tryz.prog 51 #[.agg #[.string ⟨#[119, 114, 105, 116, 101]⟩, .string tb, .string ⟨#[]⟩, .slice none 0 0, .slice none 0 0, .string ⟨#[]⟩, .slice none 0 0, .slice none 0 0, .string ⟨#[]⟩, .int .i64 0, .int .i64 0, .string ⟨#[]⟩, .string ⟨#[]⟩, .slice none 0 0, .slice none 0 0, .slice none 0 0, .string ⟨#[]⟩, .int .i64 0, .int .i64 0, .string ⟨#[]⟩, .string ⟨#[]⟩, .slice none 0 0, .string ro]] w fun e w' => e = .returned (if (x && y) = true then .tuple #[.string (⟨#[71, 82, 65, 78, 84, 32, 87, 82, 73, 84, 69, 32, 79, 78, 32]⟩ ++ tb ++ ⟨#[32, 84, 79, 32]⟩ ++ ro), .int .i64 0] else .tuple #[.string ⟨#[]⟩, .int .i64 1]) ∧ Below w.heap.size w w' := by
  have HX := Lib.hid hx
  have HY := Lib.hid hy
  have HL := Lib.hid hl
  clear hx hy hl
  have HF : Hid (∀ W : World, Calls Tryz.prog 102 #[.agg #[.string ⟨#[119, 114, 105, 116, 101]⟩, .string tb, .string ⟨#[]⟩, .slice none 0 0, .slice none 0 0, .string ⟨#[]⟩, .slice none 0 0, .slice none 0 0, .string ⟨#[]⟩, .int .i64 0, .int .i64 0, .string ⟨#[]⟩, .string ⟨#[]⟩, .slice none 0 0, .slice none 0 0, .slice none 0 0, .string ⟨#[]⟩, .int .i64 0, .int .i64 0, .string ⟨#[]⟩, .string ⟨#[]⟩, .slice none 0 0, .string ro]] W fun e w' => e = .returned (.bool (x && y)) ∧ Below W.heap.size W w') := Lib.hid fun W => formed_write tb ro W h1 h2 x y HX.out HY.out
  have H0 : Hid (Below w.heap.size w (w.alloc (.cells #[.string ⟨#[119, 114, 105, 116, 101]⟩, .string tb, .string ⟨#[]⟩, .slice none 0 0, .slice none 0 0, .string ⟨#[]⟩, .slice none 0 0, .slice none 0 0, .string ⟨#[]⟩, .int .i64 0, .int .i64 0, .string ⟨#[]⟩, .string ⟨#[]⟩, .slice none 0 0, .slice none 0 0, .slice none 0 0, .string ⟨#[]⟩, .int .i64 0, .int .i64 0, .string ⟨#[]⟩, .string ⟨#[]⟩, .slice none 0 0, .string ro] 34)) ∧ (w.alloc (.cells #[.string ⟨#[119, 114, 105, 116, 101]⟩, .string tb, .string ⟨#[]⟩, .slice none 0 0, .slice none 0 0, .string ⟨#[]⟩, .slice none 0 0, .slice none 0 0, .string ⟨#[]⟩, .int .i64 0, .int .i64 0, .string ⟨#[]⟩, .string ⟨#[]⟩, .slice none 0 0, .slice none 0 0, .slice none 0 0, .string ⟨#[]⟩, .int .i64 0, .int .i64 0, .string ⟨#[]⟩, .string ⟨#[]⟩, .slice none 0 0, .string ro] 34)).heap[w.heap.size]? = some (.cells #[.string ⟨#[119, 114, 105, 116, 101]⟩, .string tb, .string ⟨#[]⟩, .slice none 0 0, .slice none 0 0, .string ⟨#[]⟩, .slice none 0 0, .slice none 0 0, .string ⟨#[]⟩, .int .i64 0, .int .i64 0, .string ⟨#[]⟩, .string ⟨#[]⟩, .slice none 0 0, .slice none 0 0, .slice none 0 0, .string ⟨#[]⟩, .int .i64 0, .int .i64 0, .string ⟨#[]⟩, .string ⟨#[]⟩, .slice none 0 0, .string ro] 34 (0, 0))) := ⟨(Below.refl _ _).alloc (Nat.le_refl _) _, alloc_at rfl _⟩
  have hbx := H0.out.2
  have STEP : Hid (∀ W W' : World, (Below w.heap.size w W ∧ W.heap[w.heap.size]? = some (.cells #[.string ⟨#[119, 114, 105, 116, 101]⟩, .string tb, .string ⟨#[]⟩, .slice none 0 0, .slice none 0 0, .string ⟨#[]⟩, .slice none 0 0, .slice none 0 0, .string ⟨#[]⟩, .int .i64 0, .int .i64 0, .string ⟨#[]⟩, .string ⟨#[]⟩, .slice none 0 0, .slice none 0 0, .slice none 0 0, .string ⟨#[]⟩, .int .i64 0, .int .i64 0, .string ⟨#[]⟩, .string ⟨#[]⟩, .slice none 0 0, .string ro] 34 (0, 0))) → Below W.heap.size W W' → (Below w.heap.size w W' ∧ W'.heap[w.heap.size]? = some (.cells #[.string ⟨#[119, 114, 105, 116, 101]⟩, .string tb, .string ⟨#[]⟩, .slice none 0 0, .slice none 0 0, .string ⟨#[]⟩, .slice none 0 0, .slice none 0 0, .string ⟨#[]⟩, .int .i64 0, .int .i64 0, .string ⟨#[]⟩, .string ⟨#[]⟩, .slice none 0 0, .slice none 0 0, .slice none 0 0, .string ⟨#[]⟩, .int .i64 0, .int .i64 0, .string ⟨#[]⟩, .string ⟨#[]⟩, .slice none 0 0, .string ro] 34 (0, 0)))) := Lib.hid fun W W' h hb => ⟨h.1.trans (hb.mono h.1.size), (hb.block _ (lt_of_block h.2)).trans h.2⟩
  generalize (x && y) = z at HF hc ⊢
  cases z with
  | false =>
    simp only [Bool.false_eq_true, if_false]
    go_enter Tryz.func51, Tryz.ntmps51
    go_wp2_with (first
      | (go_at_call 102; (with_reducible refine (HF.out _).mono ?_); rintro e w1 ⟨rfl, hb1⟩; have H0 := Lib.hid (STEP.out _ _ H0.out hb1); have hbx := H0.out.2; clear hb1)
      | (refine wpList_load_row rfl 34 (.tmp 1) rfl w.heap.size rfl 34 #[.string ⟨#[119, 114, 105, 116, 101]⟩, .string tb, .string ⟨#[]⟩, .slice none 0 0, .slice none 0 0, .string ⟨#[]⟩, .slice none 0 0, .slice none 0 0, .string ⟨#[]⟩, .int .i64 0, .int .i64 0, .string ⟨#[]⟩, .string ⟨#[]⟩, .slice none 0 0, .slice none 0 0, .slice none 0 0, .string ⟨#[]⟩, .int .i64 0, .int .i64 0, .string ⟨#[]⟩, .string ⟨#[]⟩, .slice none 0 0, .string ro] (0, 0) _ hbx Tryz.underlying34 rfl stSize ?_))
    go_ret2
    exact ⟨rfl, H0.out.1⟩
  | true =>
    obtain ⟨ts, hc⟩ := hc rfl
    have HC := Lib.hid hc
    clear hc
    simp only [if_true]
    have hz : (⟨#[71, 82, 65, 78, 84, 32, 87, 82, 73, 84, 69, 32, 79, 78, 32]⟩ ++ tb ++ ⟨#[32, 84, 79, 32]⟩ ++ ro).size ≤ 100000 := by simp only [ByteArray.size_append]; have e1 : (⟨#[71, 82, 65, 78, 84, 32, 87, 82, 73, 84, 69, 32, 79, 78, 32]⟩ : ByteArray).size = 15 := rfl; have e2 : (⟨#[32, 84, 79, 32]⟩ : ByteArray).size = 4 := rfl; omega
    go_enter Tryz.func51, Tryz.ntmps51
    go_wp2_with (first
      | (go_at_call 102; (with_reducible refine (HF.out _).mono ?_); rintro e w1 ⟨rfl, hb1⟩; have H0 := Lib.hid (STEP.out _ _ H0.out hb1); have hbx := H0.out.2; clear hb1)
      | (go_at_call 103; (with_reducible refine (written_write tb ro _ h1 h2).mono ?_); rintro e w1 ⟨rfl, hb1⟩; have H0 := Lib.hid (STEP.out _ _ H0.out hb1); have hbx := H0.out.2; clear hb1)
      | (go_at_call 17; (with_reducible refine (cut_ok (⟨#[71, 82, 65, 78, 84, 32, 87, 82, 73, 84, 69, 32, 79, 78, 32]⟩ ++ tb ++ ⟨#[32, 84, 79, 32]⟩ ++ ro) _ hz (HL.out.keep H0.out.1 (Nat.le_refl _)) ts HC.out).mono ?_); rintro e w1 ⟨vv, rfl, _, hb1⟩; have H0 := Lib.hid (STEP.out _ _ H0.out hb1); have hbx := H0.out.2; clear hb1)
      | (refine wpList_load_row rfl 34 (.tmp 1) rfl w.heap.size rfl 34 #[.string ⟨#[119, 114, 105, 116, 101]⟩, .string tb, .string ⟨#[]⟩, .slice none 0 0, .slice none 0 0, .string ⟨#[]⟩, .slice none 0 0, .slice none 0 0, .string ⟨#[]⟩, .int .i64 0, .int .i64 0, .string ⟨#[]⟩, .string ⟨#[]⟩, .slice none 0 0, .slice none 0 0, .slice none 0 0, .string ⟨#[]⟩, .int .i64 0, .int .i64 0, .string ⟨#[]⟩, .string ⟨#[]⟩, .slice none 0 0, .string ro] (0, 0) _ hbx Tryz.underlying34 rfl stSize ?_))
    go_ret2
    exact ⟨rfl, H0.out.1⟩
set_option maxRecDepth 100000 in
set_option maxHeartbeats 4000000 in
theorem may_write (tb ro : ByteArray) (w : World) (hl : LibE w) (h1 : tb.size ≤ 1000) (h2 : ro.size ≤ 1000) (hc : (nmB tb && nmB ro) = true → ∃ ts, cutR (⟨#[71, 82, 65, 78, 84, 32, 87, 82, 73, 84, 69, 32, 79, 78, 32]⟩ ++ tb ++ ⟨#[32, 84, 79, 32]⟩ ++ ro).data.toList = some ts) :
    Calls Tryz.prog 19 #[.agg #[.string ⟨#[119, 114, 105, 116, 101]⟩, .string tb, .string ⟨#[]⟩, .slice none 0 0, .slice none 0 0, .string ⟨#[]⟩, .slice none 0 0, .slice none 0 0, .string ⟨#[]⟩, .int .i64 0, .int .i64 0, .string ⟨#[]⟩, .string ⟨#[]⟩, .slice none 0 0, .slice none 0 0, .slice none 0 0, .string ⟨#[]⟩, .int .i64 0, .int .i64 0, .string ⟨#[]⟩, .string ⟨#[]⟩, .slice none 0 0, .string ro]] w fun e w' => e = .returned (.bool (nmB tb && nmB ro)) ∧ Below w.heap.size w w' := by
  have HT : Hid (∀ W : World, LibE W → Calls Tryz.prog 51 #[.agg #[.string ⟨#[119, 114, 105, 116, 101]⟩, .string tb, .string ⟨#[]⟩, .slice none 0 0, .slice none 0 0, .string ⟨#[]⟩, .slice none 0 0, .slice none 0 0, .string ⟨#[]⟩, .int .i64 0, .int .i64 0, .string ⟨#[]⟩, .string ⟨#[]⟩, .slice none 0 0, .slice none 0 0, .slice none 0 0, .string ⟨#[]⟩, .int .i64 0, .int .i64 0, .string ⟨#[]⟩, .string ⟨#[]⟩, .slice none 0 0, .string ro]] W fun e w' => e = .returned (if (nmB tb && nmB ro) = true then .tuple #[.string (⟨#[71, 82, 65, 78, 84, 32, 87, 82, 73, 84, 69, 32, 79, 78, 32]⟩ ++ tb ++ ⟨#[32, 84, 79, 32]⟩ ++ ro), .int .i64 0] else .tuple #[.string ⟨#[]⟩, .int .i64 1]) ∧ Below W.heap.size W w') := Lib.hid fun W hW => text_write tb ro W hW h1 h2 _ _ rfl rfl hc
  have HL := Lib.hid hl
  clear hl hc
  have H0 : Hid (Below w.heap.size w (w.alloc (.cells #[.string ⟨#[119, 114, 105, 116, 101]⟩, .string tb, .string ⟨#[]⟩, .slice none 0 0, .slice none 0 0, .string ⟨#[]⟩, .slice none 0 0, .slice none 0 0, .string ⟨#[]⟩, .int .i64 0, .int .i64 0, .string ⟨#[]⟩, .string ⟨#[]⟩, .slice none 0 0, .slice none 0 0, .slice none 0 0, .string ⟨#[]⟩, .int .i64 0, .int .i64 0, .string ⟨#[]⟩, .string ⟨#[]⟩, .slice none 0 0, .string ro] 34)) ∧ (w.alloc (.cells #[.string ⟨#[119, 114, 105, 116, 101]⟩, .string tb, .string ⟨#[]⟩, .slice none 0 0, .slice none 0 0, .string ⟨#[]⟩, .slice none 0 0, .slice none 0 0, .string ⟨#[]⟩, .int .i64 0, .int .i64 0, .string ⟨#[]⟩, .string ⟨#[]⟩, .slice none 0 0, .slice none 0 0, .slice none 0 0, .string ⟨#[]⟩, .int .i64 0, .int .i64 0, .string ⟨#[]⟩, .string ⟨#[]⟩, .slice none 0 0, .string ro] 34)).heap[w.heap.size]? = some (.cells #[.string ⟨#[119, 114, 105, 116, 101]⟩, .string tb, .string ⟨#[]⟩, .slice none 0 0, .slice none 0 0, .string ⟨#[]⟩, .slice none 0 0, .slice none 0 0, .string ⟨#[]⟩, .int .i64 0, .int .i64 0, .string ⟨#[]⟩, .string ⟨#[]⟩, .slice none 0 0, .slice none 0 0, .slice none 0 0, .string ⟨#[]⟩, .int .i64 0, .int .i64 0, .string ⟨#[]⟩, .string ⟨#[]⟩, .slice none 0 0, .string ro] 34 (0, 0))) := ⟨(Below.refl _ _).alloc (Nat.le_refl _) _, alloc_at rfl _⟩
  have hbx := H0.out.2
  have STEP : Hid (∀ W W' : World, (Below w.heap.size w W ∧ W.heap[w.heap.size]? = some (.cells #[.string ⟨#[119, 114, 105, 116, 101]⟩, .string tb, .string ⟨#[]⟩, .slice none 0 0, .slice none 0 0, .string ⟨#[]⟩, .slice none 0 0, .slice none 0 0, .string ⟨#[]⟩, .int .i64 0, .int .i64 0, .string ⟨#[]⟩, .string ⟨#[]⟩, .slice none 0 0, .slice none 0 0, .slice none 0 0, .string ⟨#[]⟩, .int .i64 0, .int .i64 0, .string ⟨#[]⟩, .string ⟨#[]⟩, .slice none 0 0, .string ro] 34 (0, 0))) → Below W.heap.size W W' → (Below w.heap.size w W' ∧ W'.heap[w.heap.size]? = some (.cells #[.string ⟨#[119, 114, 105, 116, 101]⟩, .string tb, .string ⟨#[]⟩, .slice none 0 0, .slice none 0 0, .string ⟨#[]⟩, .slice none 0 0, .slice none 0 0, .string ⟨#[]⟩, .int .i64 0, .int .i64 0, .string ⟨#[]⟩, .string ⟨#[]⟩, .slice none 0 0, .slice none 0 0, .slice none 0 0, .string ⟨#[]⟩, .int .i64 0, .int .i64 0, .string ⟨#[]⟩, .string ⟨#[]⟩, .slice none 0 0, .string ro] 34 (0, 0)))) := Lib.hid fun W W' h hb => ⟨h.1.trans (hb.mono h.1.size), (hb.block _ (lt_of_block h.2)).trans h.2⟩
  generalize (nmB tb && nmB ro) = z at HT ⊢
  cases z with
  | false =>
    simp only [Bool.false_eq_true, if_false] at HT
    go_enter Tryz.func19, Tryz.ntmps19
    go_wp2_with (first
      | (go_at_call 51; (with_reducible refine (HT.out _ (HL.out.keep H0.out.1 (Nat.le_refl _))).mono ?_); rintro e w1 ⟨rfl, hb1⟩; have H0 := Lib.hid (STEP.out _ _ H0.out hb1); have hbx := H0.out.2; clear hb1)
      | (refine wpList_load_row rfl 34 (.tmp 1) rfl w.heap.size rfl 34 #[.string ⟨#[119, 114, 105, 116, 101]⟩, .string tb, .string ⟨#[]⟩, .slice none 0 0, .slice none 0 0, .string ⟨#[]⟩, .slice none 0 0, .slice none 0 0, .string ⟨#[]⟩, .int .i64 0, .int .i64 0, .string ⟨#[]⟩, .string ⟨#[]⟩, .slice none 0 0, .slice none 0 0, .slice none 0 0, .string ⟨#[]⟩, .int .i64 0, .int .i64 0, .string ⟨#[]⟩, .string ⟨#[]⟩, .slice none 0 0, .string ro] (0, 0) _ hbx Tryz.underlying34 rfl stSize ?_))
    go_ret
    exact ⟨rfl, H0.out.1⟩
  | true =>
    simp only [if_true] at HT
    go_enter Tryz.func19, Tryz.ntmps19
    go_wp2_with (first
      | (go_at_call 51; (with_reducible refine (HT.out _ (HL.out.keep H0.out.1 (Nat.le_refl _))).mono ?_); rintro e w1 ⟨rfl, hb1⟩; have H0 := Lib.hid (STEP.out _ _ H0.out hb1); have hbx := H0.out.2; clear hb1)
      | (refine wpList_load_row rfl 34 (.tmp 1) rfl w.heap.size rfl 34 #[.string ⟨#[119, 114, 105, 116, 101]⟩, .string tb, .string ⟨#[]⟩, .slice none 0 0, .slice none 0 0, .string ⟨#[]⟩, .slice none 0 0, .slice none 0 0, .string ⟨#[]⟩, .int .i64 0, .int .i64 0, .string ⟨#[]⟩, .string ⟨#[]⟩, .slice none 0 0, .slice none 0 0, .slice none 0 0, .string ⟨#[]⟩, .int .i64 0, .int .i64 0, .string ⟨#[]⟩, .string ⟨#[]⟩, .slice none 0 0, .string ro] (0, 0) _ hbx Tryz.underlying34 rfl stSize ?_))
    go_ret
    exact ⟨rfl, H0.out.1⟩
set_option maxRecDepth 100000 in
set_option maxHeartbeats 4000000 in
theorem text_unread (tb ro : ByteArray) (w : World) (hl : LibE w) (h1 : tb.size ≤ 1000) (h2 : ro.size ≤ 1000) (x y : Bool) (hx : nmB tb = x) (hy : nmB ro = y) (hc : (x && y) = true → ∃ ts, cutR (⟨#[82, 69, 86, 79, 75, 69, 32, 82, 69, 65, 68, 32, 79, 78, 32]⟩ ++ tb ++ ⟨#[32, 70, 82, 79, 77, 32]⟩ ++ ro).data.toList = some ts) :
    Calls Tryz.prog 51 #[.agg #[.string ⟨#[117, 110, 114, 101, 97, 100]⟩, .string tb, .string ⟨#[]⟩, .slice none 0 0, .slice none 0 0, .string ⟨#[]⟩, .slice none 0 0, .slice none 0 0, .string ⟨#[]⟩, .int .i64 0, .int .i64 0, .string ⟨#[]⟩, .string ⟨#[]⟩, .slice none 0 0, .slice none 0 0, .slice none 0 0, .string ⟨#[]⟩, .int .i64 0, .int .i64 0, .string ⟨#[]⟩, .string ⟨#[]⟩, .slice none 0 0, .string ro]] w fun e w' => e = .returned (if (x && y) = true then .tuple #[.string (⟨#[82, 69, 86, 79, 75, 69, 32, 82, 69, 65, 68, 32, 79, 78, 32]⟩ ++ tb ++ ⟨#[32, 70, 82, 79, 77, 32]⟩ ++ ro), .int .i64 0] else .tuple #[.string ⟨#[]⟩, .int .i64 1]) ∧ Below w.heap.size w w' := by
  have HX := Lib.hid hx
  have HY := Lib.hid hy
  have HL := Lib.hid hl
  clear hx hy hl
  have HF : Hid (∀ W : World, Calls Tryz.prog 102 #[.agg #[.string ⟨#[117, 110, 114, 101, 97, 100]⟩, .string tb, .string ⟨#[]⟩, .slice none 0 0, .slice none 0 0, .string ⟨#[]⟩, .slice none 0 0, .slice none 0 0, .string ⟨#[]⟩, .int .i64 0, .int .i64 0, .string ⟨#[]⟩, .string ⟨#[]⟩, .slice none 0 0, .slice none 0 0, .slice none 0 0, .string ⟨#[]⟩, .int .i64 0, .int .i64 0, .string ⟨#[]⟩, .string ⟨#[]⟩, .slice none 0 0, .string ro]] W fun e w' => e = .returned (.bool (x && y)) ∧ Below W.heap.size W w') := Lib.hid fun W => formed_unread tb ro W h1 h2 x y HX.out HY.out
  have H0 : Hid (Below w.heap.size w (w.alloc (.cells #[.string ⟨#[117, 110, 114, 101, 97, 100]⟩, .string tb, .string ⟨#[]⟩, .slice none 0 0, .slice none 0 0, .string ⟨#[]⟩, .slice none 0 0, .slice none 0 0, .string ⟨#[]⟩, .int .i64 0, .int .i64 0, .string ⟨#[]⟩, .string ⟨#[]⟩, .slice none 0 0, .slice none 0 0, .slice none 0 0, .string ⟨#[]⟩, .int .i64 0, .int .i64 0, .string ⟨#[]⟩, .string ⟨#[]⟩, .slice none 0 0, .string ro] 34)) ∧ (w.alloc (.cells #[.string ⟨#[117, 110, 114, 101, 97, 100]⟩, .string tb, .string ⟨#[]⟩, .slice none 0 0, .slice none 0 0, .string ⟨#[]⟩, .slice none 0 0, .slice none 0 0, .string ⟨#[]⟩, .int .i64 0, .int .i64 0, .string ⟨#[]⟩, .string ⟨#[]⟩, .slice none 0 0, .slice none 0 0, .slice none 0 0, .string ⟨#[]⟩, .int .i64 0, .int .i64 0, .string ⟨#[]⟩, .string ⟨#[]⟩, .slice none 0 0, .string ro] 34)).heap[w.heap.size]? = some (.cells #[.string ⟨#[117, 110, 114, 101, 97, 100]⟩, .string tb, .string ⟨#[]⟩, .slice none 0 0, .slice none 0 0, .string ⟨#[]⟩, .slice none 0 0, .slice none 0 0, .string ⟨#[]⟩, .int .i64 0, .int .i64 0, .string ⟨#[]⟩, .string ⟨#[]⟩, .slice none 0 0, .slice none 0 0, .slice none 0 0, .string ⟨#[]⟩, .int .i64 0, .int .i64 0, .string ⟨#[]⟩, .string ⟨#[]⟩, .slice none 0 0, .string ro] 34 (0, 0))) := ⟨(Below.refl _ _).alloc (Nat.le_refl _) _, alloc_at rfl _⟩
  have hbx := H0.out.2
  have STEP : Hid (∀ W W' : World, (Below w.heap.size w W ∧ W.heap[w.heap.size]? = some (.cells #[.string ⟨#[117, 110, 114, 101, 97, 100]⟩, .string tb, .string ⟨#[]⟩, .slice none 0 0, .slice none 0 0, .string ⟨#[]⟩, .slice none 0 0, .slice none 0 0, .string ⟨#[]⟩, .int .i64 0, .int .i64 0, .string ⟨#[]⟩, .string ⟨#[]⟩, .slice none 0 0, .slice none 0 0, .slice none 0 0, .string ⟨#[]⟩, .int .i64 0, .int .i64 0, .string ⟨#[]⟩, .string ⟨#[]⟩, .slice none 0 0, .string ro] 34 (0, 0))) → Below W.heap.size W W' → (Below w.heap.size w W' ∧ W'.heap[w.heap.size]? = some (.cells #[.string ⟨#[117, 110, 114, 101, 97, 100]⟩, .string tb, .string ⟨#[]⟩, .slice none 0 0, .slice none 0 0, .string ⟨#[]⟩, .slice none 0 0, .slice none 0 0, .string ⟨#[]⟩, .int .i64 0, .int .i64 0, .string ⟨#[]⟩, .string ⟨#[]⟩, .slice none 0 0, .slice none 0 0, .slice none 0 0, .string ⟨#[]⟩, .int .i64 0, .int .i64 0, .string ⟨#[]⟩, .string ⟨#[]⟩, .slice none 0 0, .string ro] 34 (0, 0)))) := Lib.hid fun W W' h hb => ⟨h.1.trans (hb.mono h.1.size), (hb.block _ (lt_of_block h.2)).trans h.2⟩
  generalize (x && y) = z at HF hc ⊢
  cases z with
  | false =>
    simp only [Bool.false_eq_true, if_false]
    go_enter Tryz.func51, Tryz.ntmps51
    go_wp2_with (first
      | (go_at_call 102; (with_reducible refine (HF.out _).mono ?_); rintro e w1 ⟨rfl, hb1⟩; have H0 := Lib.hid (STEP.out _ _ H0.out hb1); have hbx := H0.out.2; clear hb1)
      | (refine wpList_load_row rfl 34 (.tmp 1) rfl w.heap.size rfl 34 #[.string ⟨#[117, 110, 114, 101, 97, 100]⟩, .string tb, .string ⟨#[]⟩, .slice none 0 0, .slice none 0 0, .string ⟨#[]⟩, .slice none 0 0, .slice none 0 0, .string ⟨#[]⟩, .int .i64 0, .int .i64 0, .string ⟨#[]⟩, .string ⟨#[]⟩, .slice none 0 0, .slice none 0 0, .slice none 0 0, .string ⟨#[]⟩, .int .i64 0, .int .i64 0, .string ⟨#[]⟩, .string ⟨#[]⟩, .slice none 0 0, .string ro] (0, 0) _ hbx Tryz.underlying34 rfl stSize ?_))
    go_ret2
    exact ⟨rfl, H0.out.1⟩
  | true =>
    obtain ⟨ts, hc⟩ := hc rfl
    have HC := Lib.hid hc
    clear hc
    simp only [if_true]
    have hz : (⟨#[82, 69, 86, 79, 75, 69, 32, 82, 69, 65, 68, 32, 79, 78, 32]⟩ ++ tb ++ ⟨#[32, 70, 82, 79, 77, 32]⟩ ++ ro).size ≤ 100000 := by simp only [ByteArray.size_append]; have e1 : (⟨#[82, 69, 86, 79, 75, 69, 32, 82, 69, 65, 68, 32, 79, 78, 32]⟩ : ByteArray).size = 15 := rfl; have e2 : (⟨#[32, 70, 82, 79, 77, 32]⟩ : ByteArray).size = 6 := rfl; omega
    go_enter Tryz.func51, Tryz.ntmps51
    go_wp2_with (first
      | (go_at_call 102; (with_reducible refine (HF.out _).mono ?_); rintro e w1 ⟨rfl, hb1⟩; have H0 := Lib.hid (STEP.out _ _ H0.out hb1); have hbx := H0.out.2; clear hb1)
      | (go_at_call 103; (with_reducible refine (written_unread tb ro _ h1 h2).mono ?_); rintro e w1 ⟨rfl, hb1⟩; have H0 := Lib.hid (STEP.out _ _ H0.out hb1); have hbx := H0.out.2; clear hb1)
      | (go_at_call 17; (with_reducible refine (cut_ok (⟨#[82, 69, 86, 79, 75, 69, 32, 82, 69, 65, 68, 32, 79, 78, 32]⟩ ++ tb ++ ⟨#[32, 70, 82, 79, 77, 32]⟩ ++ ro) _ hz (HL.out.keep H0.out.1 (Nat.le_refl _)) ts HC.out).mono ?_); rintro e w1 ⟨vv, rfl, _, hb1⟩; have H0 := Lib.hid (STEP.out _ _ H0.out hb1); have hbx := H0.out.2; clear hb1)
      | (refine wpList_load_row rfl 34 (.tmp 1) rfl w.heap.size rfl 34 #[.string ⟨#[117, 110, 114, 101, 97, 100]⟩, .string tb, .string ⟨#[]⟩, .slice none 0 0, .slice none 0 0, .string ⟨#[]⟩, .slice none 0 0, .slice none 0 0, .string ⟨#[]⟩, .int .i64 0, .int .i64 0, .string ⟨#[]⟩, .string ⟨#[]⟩, .slice none 0 0, .slice none 0 0, .slice none 0 0, .string ⟨#[]⟩, .int .i64 0, .int .i64 0, .string ⟨#[]⟩, .string ⟨#[]⟩, .slice none 0 0, .string ro] (0, 0) _ hbx Tryz.underlying34 rfl stSize ?_))
    go_ret2
    exact ⟨rfl, H0.out.1⟩
set_option maxRecDepth 100000 in
set_option maxHeartbeats 4000000 in
theorem may_unread (tb ro : ByteArray) (w : World) (hl : LibE w) (h1 : tb.size ≤ 1000) (h2 : ro.size ≤ 1000) (hc : (nmB tb && nmB ro) = true → ∃ ts, cutR (⟨#[82, 69, 86, 79, 75, 69, 32, 82, 69, 65, 68, 32, 79, 78, 32]⟩ ++ tb ++ ⟨#[32, 70, 82, 79, 77, 32]⟩ ++ ro).data.toList = some ts) :
    Calls Tryz.prog 19 #[.agg #[.string ⟨#[117, 110, 114, 101, 97, 100]⟩, .string tb, .string ⟨#[]⟩, .slice none 0 0, .slice none 0 0, .string ⟨#[]⟩, .slice none 0 0, .slice none 0 0, .string ⟨#[]⟩, .int .i64 0, .int .i64 0, .string ⟨#[]⟩, .string ⟨#[]⟩, .slice none 0 0, .slice none 0 0, .slice none 0 0, .string ⟨#[]⟩, .int .i64 0, .int .i64 0, .string ⟨#[]⟩, .string ⟨#[]⟩, .slice none 0 0, .string ro]] w fun e w' => e = .returned (.bool (nmB tb && nmB ro)) ∧ Below w.heap.size w w' := by
  have HT : Hid (∀ W : World, LibE W → Calls Tryz.prog 51 #[.agg #[.string ⟨#[117, 110, 114, 101, 97, 100]⟩, .string tb, .string ⟨#[]⟩, .slice none 0 0, .slice none 0 0, .string ⟨#[]⟩, .slice none 0 0, .slice none 0 0, .string ⟨#[]⟩, .int .i64 0, .int .i64 0, .string ⟨#[]⟩, .string ⟨#[]⟩, .slice none 0 0, .slice none 0 0, .slice none 0 0, .string ⟨#[]⟩, .int .i64 0, .int .i64 0, .string ⟨#[]⟩, .string ⟨#[]⟩, .slice none 0 0, .string ro]] W fun e w' => e = .returned (if (nmB tb && nmB ro) = true then .tuple #[.string (⟨#[82, 69, 86, 79, 75, 69, 32, 82, 69, 65, 68, 32, 79, 78, 32]⟩ ++ tb ++ ⟨#[32, 70, 82, 79, 77, 32]⟩ ++ ro), .int .i64 0] else .tuple #[.string ⟨#[]⟩, .int .i64 1]) ∧ Below W.heap.size W w') := Lib.hid fun W hW => text_unread tb ro W hW h1 h2 _ _ rfl rfl hc
  have HL := Lib.hid hl
  clear hl hc
  have H0 : Hid (Below w.heap.size w (w.alloc (.cells #[.string ⟨#[117, 110, 114, 101, 97, 100]⟩, .string tb, .string ⟨#[]⟩, .slice none 0 0, .slice none 0 0, .string ⟨#[]⟩, .slice none 0 0, .slice none 0 0, .string ⟨#[]⟩, .int .i64 0, .int .i64 0, .string ⟨#[]⟩, .string ⟨#[]⟩, .slice none 0 0, .slice none 0 0, .slice none 0 0, .string ⟨#[]⟩, .int .i64 0, .int .i64 0, .string ⟨#[]⟩, .string ⟨#[]⟩, .slice none 0 0, .string ro] 34)) ∧ (w.alloc (.cells #[.string ⟨#[117, 110, 114, 101, 97, 100]⟩, .string tb, .string ⟨#[]⟩, .slice none 0 0, .slice none 0 0, .string ⟨#[]⟩, .slice none 0 0, .slice none 0 0, .string ⟨#[]⟩, .int .i64 0, .int .i64 0, .string ⟨#[]⟩, .string ⟨#[]⟩, .slice none 0 0, .slice none 0 0, .slice none 0 0, .string ⟨#[]⟩, .int .i64 0, .int .i64 0, .string ⟨#[]⟩, .string ⟨#[]⟩, .slice none 0 0, .string ro] 34)).heap[w.heap.size]? = some (.cells #[.string ⟨#[117, 110, 114, 101, 97, 100]⟩, .string tb, .string ⟨#[]⟩, .slice none 0 0, .slice none 0 0, .string ⟨#[]⟩, .slice none 0 0, .slice none 0 0, .string ⟨#[]⟩, .int .i64 0, .int .i64 0, .string ⟨#[]⟩, .string ⟨#[]⟩, .slice none 0 0, .slice none 0 0, .slice none 0 0, .string ⟨#[]⟩, .int .i64 0, .int .i64 0, .string ⟨#[]⟩, .string ⟨#[]⟩, .slice none 0 0, .string ro] 34 (0, 0))) := ⟨(Below.refl _ _).alloc (Nat.le_refl _) _, alloc_at rfl _⟩
  have hbx := H0.out.2
  have STEP : Hid (∀ W W' : World, (Below w.heap.size w W ∧ W.heap[w.heap.size]? = some (.cells #[.string ⟨#[117, 110, 114, 101, 97, 100]⟩, .string tb, .string ⟨#[]⟩, .slice none 0 0, .slice none 0 0, .string ⟨#[]⟩, .slice none 0 0, .slice none 0 0, .string ⟨#[]⟩, .int .i64 0, .int .i64 0, .string ⟨#[]⟩, .string ⟨#[]⟩, .slice none 0 0, .slice none 0 0, .slice none 0 0, .string ⟨#[]⟩, .int .i64 0, .int .i64 0, .string ⟨#[]⟩, .string ⟨#[]⟩, .slice none 0 0, .string ro] 34 (0, 0))) → Below W.heap.size W W' → (Below w.heap.size w W' ∧ W'.heap[w.heap.size]? = some (.cells #[.string ⟨#[117, 110, 114, 101, 97, 100]⟩, .string tb, .string ⟨#[]⟩, .slice none 0 0, .slice none 0 0, .string ⟨#[]⟩, .slice none 0 0, .slice none 0 0, .string ⟨#[]⟩, .int .i64 0, .int .i64 0, .string ⟨#[]⟩, .string ⟨#[]⟩, .slice none 0 0, .slice none 0 0, .slice none 0 0, .string ⟨#[]⟩, .int .i64 0, .int .i64 0, .string ⟨#[]⟩, .string ⟨#[]⟩, .slice none 0 0, .string ro] 34 (0, 0)))) := Lib.hid fun W W' h hb => ⟨h.1.trans (hb.mono h.1.size), (hb.block _ (lt_of_block h.2)).trans h.2⟩
  generalize (nmB tb && nmB ro) = z at HT ⊢
  cases z with
  | false =>
    simp only [Bool.false_eq_true, if_false] at HT
    go_enter Tryz.func19, Tryz.ntmps19
    go_wp2_with (first
      | (go_at_call 51; (with_reducible refine (HT.out _ (HL.out.keep H0.out.1 (Nat.le_refl _))).mono ?_); rintro e w1 ⟨rfl, hb1⟩; have H0 := Lib.hid (STEP.out _ _ H0.out hb1); have hbx := H0.out.2; clear hb1)
      | (refine wpList_load_row rfl 34 (.tmp 1) rfl w.heap.size rfl 34 #[.string ⟨#[117, 110, 114, 101, 97, 100]⟩, .string tb, .string ⟨#[]⟩, .slice none 0 0, .slice none 0 0, .string ⟨#[]⟩, .slice none 0 0, .slice none 0 0, .string ⟨#[]⟩, .int .i64 0, .int .i64 0, .string ⟨#[]⟩, .string ⟨#[]⟩, .slice none 0 0, .slice none 0 0, .slice none 0 0, .string ⟨#[]⟩, .int .i64 0, .int .i64 0, .string ⟨#[]⟩, .string ⟨#[]⟩, .slice none 0 0, .string ro] (0, 0) _ hbx Tryz.underlying34 rfl stSize ?_))
    go_ret
    exact ⟨rfl, H0.out.1⟩
  | true =>
    simp only [if_true] at HT
    go_enter Tryz.func19, Tryz.ntmps19
    go_wp2_with (first
      | (go_at_call 51; (with_reducible refine (HT.out _ (HL.out.keep H0.out.1 (Nat.le_refl _))).mono ?_); rintro e w1 ⟨rfl, hb1⟩; have H0 := Lib.hid (STEP.out _ _ H0.out hb1); have hbx := H0.out.2; clear hb1)
      | (refine wpList_load_row rfl 34 (.tmp 1) rfl w.heap.size rfl 34 #[.string ⟨#[117, 110, 114, 101, 97, 100]⟩, .string tb, .string ⟨#[]⟩, .slice none 0 0, .slice none 0 0, .string ⟨#[]⟩, .slice none 0 0, .slice none 0 0, .string ⟨#[]⟩, .int .i64 0, .int .i64 0, .string ⟨#[]⟩, .string ⟨#[]⟩, .slice none 0 0, .slice none 0 0, .slice none 0 0, .string ⟨#[]⟩, .int .i64 0, .int .i64 0, .string ⟨#[]⟩, .string ⟨#[]⟩, .slice none 0 0, .string ro] (0, 0) _ hbx Tryz.underlying34 rfl stSize ?_))
    go_ret
    exact ⟨rfl, H0.out.1⟩
set_option maxRecDepth 100000 in
set_option maxHeartbeats 4000000 in
theorem text_unwrite (tb ro : ByteArray) (w : World) (hl : LibE w) (h1 : tb.size ≤ 1000) (h2 : ro.size ≤ 1000) (x y : Bool) (hx : nmB tb = x) (hy : nmB ro = y) (hc : (x && y) = true → ∃ ts, cutR (⟨#[82, 69, 86, 79, 75, 69, 32, 87, 82, 73, 84, 69, 32, 79, 78, 32]⟩ ++ tb ++ ⟨#[32, 70, 82, 79, 77, 32]⟩ ++ ro).data.toList = some ts) :
    Calls Tryz.prog 51 #[.agg #[.string ⟨#[117, 110, 119, 114, 105, 116, 101]⟩, .string tb, .string ⟨#[]⟩, .slice none 0 0, .slice none 0 0, .string ⟨#[]⟩, .slice none 0 0, .slice none 0 0, .string ⟨#[]⟩, .int .i64 0, .int .i64 0, .string ⟨#[]⟩, .string ⟨#[]⟩, .slice none 0 0, .slice none 0 0, .slice none 0 0, .string ⟨#[]⟩, .int .i64 0, .int .i64 0, .string ⟨#[]⟩, .string ⟨#[]⟩, .slice none 0 0, .string ro]] w fun e w' => e = .returned (if (x && y) = true then .tuple #[.string (⟨#[82, 69, 86, 79, 75, 69, 32, 87, 82, 73, 84, 69, 32, 79, 78, 32]⟩ ++ tb ++ ⟨#[32, 70, 82, 79, 77, 32]⟩ ++ ro), .int .i64 0] else .tuple #[.string ⟨#[]⟩, .int .i64 1]) ∧ Below w.heap.size w w' := by
  have HX := Lib.hid hx
  have HY := Lib.hid hy
  have HL := Lib.hid hl
  clear hx hy hl
  have HF : Hid (∀ W : World, Calls Tryz.prog 102 #[.agg #[.string ⟨#[117, 110, 119, 114, 105, 116, 101]⟩, .string tb, .string ⟨#[]⟩, .slice none 0 0, .slice none 0 0, .string ⟨#[]⟩, .slice none 0 0, .slice none 0 0, .string ⟨#[]⟩, .int .i64 0, .int .i64 0, .string ⟨#[]⟩, .string ⟨#[]⟩, .slice none 0 0, .slice none 0 0, .slice none 0 0, .string ⟨#[]⟩, .int .i64 0, .int .i64 0, .string ⟨#[]⟩, .string ⟨#[]⟩, .slice none 0 0, .string ro]] W fun e w' => e = .returned (.bool (x && y)) ∧ Below W.heap.size W w') := Lib.hid fun W => formed_unwrite tb ro W h1 h2 x y HX.out HY.out
  have H0 : Hid (Below w.heap.size w (w.alloc (.cells #[.string ⟨#[117, 110, 119, 114, 105, 116, 101]⟩, .string tb, .string ⟨#[]⟩, .slice none 0 0, .slice none 0 0, .string ⟨#[]⟩, .slice none 0 0, .slice none 0 0, .string ⟨#[]⟩, .int .i64 0, .int .i64 0, .string ⟨#[]⟩, .string ⟨#[]⟩, .slice none 0 0, .slice none 0 0, .slice none 0 0, .string ⟨#[]⟩, .int .i64 0, .int .i64 0, .string ⟨#[]⟩, .string ⟨#[]⟩, .slice none 0 0, .string ro] 34)) ∧ (w.alloc (.cells #[.string ⟨#[117, 110, 119, 114, 105, 116, 101]⟩, .string tb, .string ⟨#[]⟩, .slice none 0 0, .slice none 0 0, .string ⟨#[]⟩, .slice none 0 0, .slice none 0 0, .string ⟨#[]⟩, .int .i64 0, .int .i64 0, .string ⟨#[]⟩, .string ⟨#[]⟩, .slice none 0 0, .slice none 0 0, .slice none 0 0, .string ⟨#[]⟩, .int .i64 0, .int .i64 0, .string ⟨#[]⟩, .string ⟨#[]⟩, .slice none 0 0, .string ro] 34)).heap[w.heap.size]? = some (.cells #[.string ⟨#[117, 110, 119, 114, 105, 116, 101]⟩, .string tb, .string ⟨#[]⟩, .slice none 0 0, .slice none 0 0, .string ⟨#[]⟩, .slice none 0 0, .slice none 0 0, .string ⟨#[]⟩, .int .i64 0, .int .i64 0, .string ⟨#[]⟩, .string ⟨#[]⟩, .slice none 0 0, .slice none 0 0, .slice none 0 0, .string ⟨#[]⟩, .int .i64 0, .int .i64 0, .string ⟨#[]⟩, .string ⟨#[]⟩, .slice none 0 0, .string ro] 34 (0, 0))) := ⟨(Below.refl _ _).alloc (Nat.le_refl _) _, alloc_at rfl _⟩
  have hbx := H0.out.2
  have STEP : Hid (∀ W W' : World, (Below w.heap.size w W ∧ W.heap[w.heap.size]? = some (.cells #[.string ⟨#[117, 110, 119, 114, 105, 116, 101]⟩, .string tb, .string ⟨#[]⟩, .slice none 0 0, .slice none 0 0, .string ⟨#[]⟩, .slice none 0 0, .slice none 0 0, .string ⟨#[]⟩, .int .i64 0, .int .i64 0, .string ⟨#[]⟩, .string ⟨#[]⟩, .slice none 0 0, .slice none 0 0, .slice none 0 0, .string ⟨#[]⟩, .int .i64 0, .int .i64 0, .string ⟨#[]⟩, .string ⟨#[]⟩, .slice none 0 0, .string ro] 34 (0, 0))) → Below W.heap.size W W' → (Below w.heap.size w W' ∧ W'.heap[w.heap.size]? = some (.cells #[.string ⟨#[117, 110, 119, 114, 105, 116, 101]⟩, .string tb, .string ⟨#[]⟩, .slice none 0 0, .slice none 0 0, .string ⟨#[]⟩, .slice none 0 0, .slice none 0 0, .string ⟨#[]⟩, .int .i64 0, .int .i64 0, .string ⟨#[]⟩, .string ⟨#[]⟩, .slice none 0 0, .slice none 0 0, .slice none 0 0, .string ⟨#[]⟩, .int .i64 0, .int .i64 0, .string ⟨#[]⟩, .string ⟨#[]⟩, .slice none 0 0, .string ro] 34 (0, 0)))) := Lib.hid fun W W' h hb => ⟨h.1.trans (hb.mono h.1.size), (hb.block _ (lt_of_block h.2)).trans h.2⟩
  generalize (x && y) = z at HF hc ⊢
  cases z with
  | false =>
    simp only [Bool.false_eq_true, if_false]
    go_enter Tryz.func51, Tryz.ntmps51
    go_wp2_with (first
      | (go_at_call 102; (with_reducible refine (HF.out _).mono ?_); rintro e w1 ⟨rfl, hb1⟩; have H0 := Lib.hid (STEP.out _ _ H0.out hb1); have hbx := H0.out.2; clear hb1)
      | (refine wpList_load_row rfl 34 (.tmp 1) rfl w.heap.size rfl 34 #[.string ⟨#[117, 110, 119, 114, 105, 116, 101]⟩, .string tb, .string ⟨#[]⟩, .slice none 0 0, .slice none 0 0, .string ⟨#[]⟩, .slice none 0 0, .slice none 0 0, .string ⟨#[]⟩, .int .i64 0, .int .i64 0, .string ⟨#[]⟩, .string ⟨#[]⟩, .slice none 0 0, .slice none 0 0, .slice none 0 0, .string ⟨#[]⟩, .int .i64 0, .int .i64 0, .string ⟨#[]⟩, .string ⟨#[]⟩, .slice none 0 0, .string ro] (0, 0) _ hbx Tryz.underlying34 rfl stSize ?_))
    go_ret2
    exact ⟨rfl, H0.out.1⟩
  | true =>
    obtain ⟨ts, hc⟩ := hc rfl
    have HC := Lib.hid hc
    clear hc
    simp only [if_true]
    have hz : (⟨#[82, 69, 86, 79, 75, 69, 32, 87, 82, 73, 84, 69, 32, 79, 78, 32]⟩ ++ tb ++ ⟨#[32, 70, 82, 79, 77, 32]⟩ ++ ro).size ≤ 100000 := by simp only [ByteArray.size_append]; have e1 : (⟨#[82, 69, 86, 79, 75, 69, 32, 87, 82, 73, 84, 69, 32, 79, 78, 32]⟩ : ByteArray).size = 16 := rfl; have e2 : (⟨#[32, 70, 82, 79, 77, 32]⟩ : ByteArray).size = 6 := rfl; omega
    go_enter Tryz.func51, Tryz.ntmps51
    go_wp2_with (first
      | (go_at_call 102; (with_reducible refine (HF.out _).mono ?_); rintro e w1 ⟨rfl, hb1⟩; have H0 := Lib.hid (STEP.out _ _ H0.out hb1); have hbx := H0.out.2; clear hb1)
      | (go_at_call 103; (with_reducible refine (written_unwrite tb ro _ h1 h2).mono ?_); rintro e w1 ⟨rfl, hb1⟩; have H0 := Lib.hid (STEP.out _ _ H0.out hb1); have hbx := H0.out.2; clear hb1)
      | (go_at_call 17; (with_reducible refine (cut_ok (⟨#[82, 69, 86, 79, 75, 69, 32, 87, 82, 73, 84, 69, 32, 79, 78, 32]⟩ ++ tb ++ ⟨#[32, 70, 82, 79, 77, 32]⟩ ++ ro) _ hz (HL.out.keep H0.out.1 (Nat.le_refl _)) ts HC.out).mono ?_); rintro e w1 ⟨vv, rfl, _, hb1⟩; have H0 := Lib.hid (STEP.out _ _ H0.out hb1); have hbx := H0.out.2; clear hb1)
      | (refine wpList_load_row rfl 34 (.tmp 1) rfl w.heap.size rfl 34 #[.string ⟨#[117, 110, 119, 114, 105, 116, 101]⟩, .string tb, .string ⟨#[]⟩, .slice none 0 0, .slice none 0 0, .string ⟨#[]⟩, .slice none 0 0, .slice none 0 0, .string ⟨#[]⟩, .int .i64 0, .int .i64 0, .string ⟨#[]⟩, .string ⟨#[]⟩, .slice none 0 0, .slice none 0 0, .slice none 0 0, .string ⟨#[]⟩, .int .i64 0, .int .i64 0, .string ⟨#[]⟩, .string ⟨#[]⟩, .slice none 0 0, .string ro] (0, 0) _ hbx Tryz.underlying34 rfl stSize ?_))
    go_ret2
    exact ⟨rfl, H0.out.1⟩
set_option maxRecDepth 100000 in
set_option maxHeartbeats 4000000 in
theorem may_unwrite (tb ro : ByteArray) (w : World) (hl : LibE w) (h1 : tb.size ≤ 1000) (h2 : ro.size ≤ 1000) (hc : (nmB tb && nmB ro) = true → ∃ ts, cutR (⟨#[82, 69, 86, 79, 75, 69, 32, 87, 82, 73, 84, 69, 32, 79, 78, 32]⟩ ++ tb ++ ⟨#[32, 70, 82, 79, 77, 32]⟩ ++ ro).data.toList = some ts) :
    Calls Tryz.prog 19 #[.agg #[.string ⟨#[117, 110, 119, 114, 105, 116, 101]⟩, .string tb, .string ⟨#[]⟩, .slice none 0 0, .slice none 0 0, .string ⟨#[]⟩, .slice none 0 0, .slice none 0 0, .string ⟨#[]⟩, .int .i64 0, .int .i64 0, .string ⟨#[]⟩, .string ⟨#[]⟩, .slice none 0 0, .slice none 0 0, .slice none 0 0, .string ⟨#[]⟩, .int .i64 0, .int .i64 0, .string ⟨#[]⟩, .string ⟨#[]⟩, .slice none 0 0, .string ro]] w fun e w' => e = .returned (.bool (nmB tb && nmB ro)) ∧ Below w.heap.size w w' := by
  have HT : Hid (∀ W : World, LibE W → Calls Tryz.prog 51 #[.agg #[.string ⟨#[117, 110, 119, 114, 105, 116, 101]⟩, .string tb, .string ⟨#[]⟩, .slice none 0 0, .slice none 0 0, .string ⟨#[]⟩, .slice none 0 0, .slice none 0 0, .string ⟨#[]⟩, .int .i64 0, .int .i64 0, .string ⟨#[]⟩, .string ⟨#[]⟩, .slice none 0 0, .slice none 0 0, .slice none 0 0, .string ⟨#[]⟩, .int .i64 0, .int .i64 0, .string ⟨#[]⟩, .string ⟨#[]⟩, .slice none 0 0, .string ro]] W fun e w' => e = .returned (if (nmB tb && nmB ro) = true then .tuple #[.string (⟨#[82, 69, 86, 79, 75, 69, 32, 87, 82, 73, 84, 69, 32, 79, 78, 32]⟩ ++ tb ++ ⟨#[32, 70, 82, 79, 77, 32]⟩ ++ ro), .int .i64 0] else .tuple #[.string ⟨#[]⟩, .int .i64 1]) ∧ Below W.heap.size W w') := Lib.hid fun W hW => text_unwrite tb ro W hW h1 h2 _ _ rfl rfl hc
  have HL := Lib.hid hl
  clear hl hc
  have H0 : Hid (Below w.heap.size w (w.alloc (.cells #[.string ⟨#[117, 110, 119, 114, 105, 116, 101]⟩, .string tb, .string ⟨#[]⟩, .slice none 0 0, .slice none 0 0, .string ⟨#[]⟩, .slice none 0 0, .slice none 0 0, .string ⟨#[]⟩, .int .i64 0, .int .i64 0, .string ⟨#[]⟩, .string ⟨#[]⟩, .slice none 0 0, .slice none 0 0, .slice none 0 0, .string ⟨#[]⟩, .int .i64 0, .int .i64 0, .string ⟨#[]⟩, .string ⟨#[]⟩, .slice none 0 0, .string ro] 34)) ∧ (w.alloc (.cells #[.string ⟨#[117, 110, 119, 114, 105, 116, 101]⟩, .string tb, .string ⟨#[]⟩, .slice none 0 0, .slice none 0 0, .string ⟨#[]⟩, .slice none 0 0, .slice none 0 0, .string ⟨#[]⟩, .int .i64 0, .int .i64 0, .string ⟨#[]⟩, .string ⟨#[]⟩, .slice none 0 0, .slice none 0 0, .slice none 0 0, .string ⟨#[]⟩, .int .i64 0, .int .i64 0, .string ⟨#[]⟩, .string ⟨#[]⟩, .slice none 0 0, .string ro] 34)).heap[w.heap.size]? = some (.cells #[.string ⟨#[117, 110, 119, 114, 105, 116, 101]⟩, .string tb, .string ⟨#[]⟩, .slice none 0 0, .slice none 0 0, .string ⟨#[]⟩, .slice none 0 0, .slice none 0 0, .string ⟨#[]⟩, .int .i64 0, .int .i64 0, .string ⟨#[]⟩, .string ⟨#[]⟩, .slice none 0 0, .slice none 0 0, .slice none 0 0, .string ⟨#[]⟩, .int .i64 0, .int .i64 0, .string ⟨#[]⟩, .string ⟨#[]⟩, .slice none 0 0, .string ro] 34 (0, 0))) := ⟨(Below.refl _ _).alloc (Nat.le_refl _) _, alloc_at rfl _⟩
  have hbx := H0.out.2
  have STEP : Hid (∀ W W' : World, (Below w.heap.size w W ∧ W.heap[w.heap.size]? = some (.cells #[.string ⟨#[117, 110, 119, 114, 105, 116, 101]⟩, .string tb, .string ⟨#[]⟩, .slice none 0 0, .slice none 0 0, .string ⟨#[]⟩, .slice none 0 0, .slice none 0 0, .string ⟨#[]⟩, .int .i64 0, .int .i64 0, .string ⟨#[]⟩, .string ⟨#[]⟩, .slice none 0 0, .slice none 0 0, .slice none 0 0, .string ⟨#[]⟩, .int .i64 0, .int .i64 0, .string ⟨#[]⟩, .string ⟨#[]⟩, .slice none 0 0, .string ro] 34 (0, 0))) → Below W.heap.size W W' → (Below w.heap.size w W' ∧ W'.heap[w.heap.size]? = some (.cells #[.string ⟨#[117, 110, 119, 114, 105, 116, 101]⟩, .string tb, .string ⟨#[]⟩, .slice none 0 0, .slice none 0 0, .string ⟨#[]⟩, .slice none 0 0, .slice none 0 0, .string ⟨#[]⟩, .int .i64 0, .int .i64 0, .string ⟨#[]⟩, .string ⟨#[]⟩, .slice none 0 0, .slice none 0 0, .slice none 0 0, .string ⟨#[]⟩, .int .i64 0, .int .i64 0, .string ⟨#[]⟩, .string ⟨#[]⟩, .slice none 0 0, .string ro] 34 (0, 0)))) := Lib.hid fun W W' h hb => ⟨h.1.trans (hb.mono h.1.size), (hb.block _ (lt_of_block h.2)).trans h.2⟩
  generalize (nmB tb && nmB ro) = z at HT ⊢
  cases z with
  | false =>
    simp only [Bool.false_eq_true, if_false] at HT
    go_enter Tryz.func19, Tryz.ntmps19
    go_wp2_with (first
      | (go_at_call 51; (with_reducible refine (HT.out _ (HL.out.keep H0.out.1 (Nat.le_refl _))).mono ?_); rintro e w1 ⟨rfl, hb1⟩; have H0 := Lib.hid (STEP.out _ _ H0.out hb1); have hbx := H0.out.2; clear hb1)
      | (refine wpList_load_row rfl 34 (.tmp 1) rfl w.heap.size rfl 34 #[.string ⟨#[117, 110, 119, 114, 105, 116, 101]⟩, .string tb, .string ⟨#[]⟩, .slice none 0 0, .slice none 0 0, .string ⟨#[]⟩, .slice none 0 0, .slice none 0 0, .string ⟨#[]⟩, .int .i64 0, .int .i64 0, .string ⟨#[]⟩, .string ⟨#[]⟩, .slice none 0 0, .slice none 0 0, .slice none 0 0, .string ⟨#[]⟩, .int .i64 0, .int .i64 0, .string ⟨#[]⟩, .string ⟨#[]⟩, .slice none 0 0, .string ro] (0, 0) _ hbx Tryz.underlying34 rfl stSize ?_))
    go_ret
    exact ⟨rfl, H0.out.1⟩
  | true =>
    simp only [if_true] at HT
    go_enter Tryz.func19, Tryz.ntmps19
    go_wp2_with (first
      | (go_at_call 51; (with_reducible refine (HT.out _ (HL.out.keep H0.out.1 (Nat.le_refl _))).mono ?_); rintro e w1 ⟨rfl, hb1⟩; have H0 := Lib.hid (STEP.out _ _ H0.out hb1); have hbx := H0.out.2; clear hb1)
      | (refine wpList_load_row rfl 34 (.tmp 1) rfl w.heap.size rfl 34 #[.string ⟨#[117, 110, 119, 114, 105, 116, 101]⟩, .string tb, .string ⟨#[]⟩, .slice none 0 0, .slice none 0 0, .string ⟨#[]⟩, .slice none 0 0, .slice none 0 0, .string ⟨#[]⟩, .int .i64 0, .int .i64 0, .string ⟨#[]⟩, .string ⟨#[]⟩, .slice none 0 0, .slice none 0 0, .slice none 0 0, .string ⟨#[]⟩, .int .i64 0, .int .i64 0, .string ⟨#[]⟩, .string ⟨#[]⟩, .slice none 0 0, .string ro] (0, 0) _ hbx Tryz.underlying34 rfl stSize ?_))
    go_ret
    exact ⟨rfl, H0.out.1⟩
end Go.Proofs.YtlilnbcklplmfaaGreatDoor

/- The document's: a right is the same as itself. -/
namespace Go.Proofs.YtlilnbcklplmfaaGreatDoor
open Go.RowKit Go.Lib

set_option maxRecDepth 100000 in
set_option maxHeartbeats 4000000 in
theorem rsame_nil (w : World) : Calls Tryz.prog 20 #[.agg #[.string ⟨#[]⟩, .int .i64 0, .int .i64 0, .string ⟨#[]⟩, .string ⟨#[]⟩, .slice none 0 0], .agg #[.string ⟨#[]⟩, .int .i64 0, .int .i64 0, .string ⟨#[]⟩, .string ⟨#[]⟩, .slice none 0 0]] w fun e w' => e = .returned (.bool true) ∧ Below w.heap.size w w' := by
  go_enter Tryz.func20, Tryz.ntmps20
  go_wp2_with (fail)
  refine wp_loop_once ?_
  go_wp2_with (fail)
  go_ret
  exact ⟨rfl, ((Below.refl _ _).alloc (Nat.le_refl _) _).alloc (by simp) _⟩
/-- Two rights in the two blocks behind w's. -/
structure Bxr (w : World) (op tb ro : ByteArray) (W : World) : Prop where
  lo : Below w.heap.size w W
  a : W.heap[w.heap.size]? = some (.cells #[.string op, .string tb, .string ⟨#[]⟩, .slice none 0 0, .slice none 0 0, .string ⟨#[]⟩, .slice none 0 0, .slice none 0 0, .string ⟨#[]⟩, .int .i64 0, .int .i64 0, .string ⟨#[]⟩, .string ⟨#[]⟩, .slice none 0 0, .slice none 0 0, .slice none 0 0, .string ⟨#[]⟩, .int .i64 0, .int .i64 0, .string ⟨#[]⟩, .string ⟨#[]⟩, .slice none 0 0, .string ro] 34 (0, 0))
  b : W.heap[w.heap.size + 1]? = some (.cells #[.string op, .string tb, .string ⟨#[]⟩, .slice none 0 0, .slice none 0 0, .string ⟨#[]⟩, .slice none 0 0, .slice none 0 0, .string ⟨#[]⟩, .int .i64 0, .int .i64 0, .string ⟨#[]⟩, .string ⟨#[]⟩, .slice none 0 0, .slice none 0 0, .slice none 0 0, .string ⟨#[]⟩, .int .i64 0, .int .i64 0, .string ⟨#[]⟩, .string ⟨#[]⟩, .slice none 0 0, .string ro] 34 (0, 0))
section
variable {w W W' : World} {op tb ro : ByteArray}
theorem Bxr.step (h : Bxr w op tb ro W) (hb : Below W.heap.size W W') : Bxr w op tb ro W' :=
  ⟨h.lo.trans (hb.mono h.lo.size), (hb.block _ (lt_of_block h.a)).trans h.a, (hb.block _ (lt_of_block h.b)).trans h.b⟩
theorem Bxr.ca (h : Bxr w op tb ro W) (j : Nat) : W.cell? ⟨w.heap.size, j, none⟩ = (#[.string op, .string tb, .string ⟨#[]⟩, .slice none 0 0, .slice none 0 0, .string ⟨#[]⟩, .slice none 0 0, .slice none 0 0, .string ⟨#[]⟩, .int .i64 0, .int .i64 0, .string ⟨#[]⟩, .string ⟨#[]⟩, .slice none 0 0, .slice none 0 0, .slice none 0 0, .string ⟨#[]⟩, .int .i64 0, .int .i64 0, .string ⟨#[]⟩, .string ⟨#[]⟩, .slice none 0 0, .string ro] : Array Value)[j]? := Lib.cell_of_heap h.a j
theorem Bxr.cb (h : Bxr w op tb ro W) (j : Nat) : W.cell? ⟨w.heap.size + 1, j, none⟩ = (#[.string op, .string tb, .string ⟨#[]⟩, .slice none 0 0, .slice none 0 0, .string ⟨#[]⟩, .slice none 0 0, .slice none 0 0, .string ⟨#[]⟩, .int .i64 0, .int .i64 0, .string ⟨#[]⟩, .string ⟨#[]⟩, .slice none 0 0, .slice none 0 0, .slice none 0 0, .string ⟨#[]⟩, .int .i64 0, .int .i64 0, .string ⟨#[]⟩, .string ⟨#[]⟩, .slice none 0 0, .string ro] : Array Value)[j]? := Lib.cell_of_heap h.b j
theorem Bxr.start (w : World) (op tb ro : ByteArray) : Bxr w op tb ro ((w.alloc (.cells #[.string op, .string tb, .string ⟨#[]⟩, .slice none 0 0, .slice none 0 0, .string ⟨#[]⟩, .slice none 0 0, .slice none 0 0, .string ⟨#[]⟩, .int .i64 0, .int .i64 0, .string ⟨#[]⟩, .string ⟨#[]⟩, .slice none 0 0, .slice none 0 0, .slice none 0 0, .string ⟨#[]⟩, .int .i64 0, .int .i64 0, .string ⟨#[]⟩, .string ⟨#[]⟩, .slice none 0 0, .string ro] 34)).alloc (.cells #[.string op, .string tb, .string ⟨#[]⟩, .slice none 0 0, .slice none 0 0, .string ⟨#[]⟩, .slice none 0 0, .slice none 0 0, .string ⟨#[]⟩, .int .i64 0, .int .i64 0, .string ⟨#[]⟩, .string ⟨#[]⟩, .slice none 0 0, .slice none 0 0, .slice none 0 0, .string ⟨#[]⟩, .int .i64 0, .int .i64 0, .string ⟨#[]⟩, .string ⟨#[]⟩, .slice none 0 0, .string ro] 34)) :=
  ⟨((Below.refl _ _).alloc (Nat.le_refl _) _).alloc (by simp) _, (Below.heap_alloc _ _ _ (by simp)).trans (alloc_at rfl _), alloc_at (by simp) _⟩
end

set_option maxRecDepth 100000 in
set_option maxHeartbeats 4000000 in
theorem rsame_right (op tb ro : ByteArray) (w : World) : Calls Tryz.prog 9 #[.agg #[.string op, .string tb, .string ⟨#[]⟩, .slice none 0 0, .slice none 0 0, .string ⟨#[]⟩, .slice none 0 0, .slice none 0 0, .string ⟨#[]⟩, .int .i64 0, .int .i64 0, .string ⟨#[]⟩, .string ⟨#[]⟩, .slice none 0 0, .slice none 0 0, .slice none 0 0, .string ⟨#[]⟩, .int .i64 0, .int .i64 0, .string ⟨#[]⟩, .string ⟨#[]⟩, .slice none 0 0, .string ro], .agg #[.string op, .string tb, .string ⟨#[]⟩, .slice none 0 0, .slice none 0 0, .string ⟨#[]⟩, .slice none 0 0, .slice none 0 0, .string ⟨#[]⟩, .int .i64 0, .int .i64 0, .string ⟨#[]⟩, .string ⟨#[]⟩, .slice none 0 0, .slice none 0 0, .slice none 0 0, .string ⟨#[]⟩, .int .i64 0, .int .i64 0, .string ⟨#[]⟩, .string ⟨#[]⟩, .slice none 0 0, .string ro]] w fun e w' => e = .returned (.bool true) ∧ Below w.heap.size w w' := by
  have H0 := Lib.hid (Bxr.start w op tb ro)
  go_enter Tryz.func9, Tryz.ntmps9
  go_wp2_with (go_at_call 20; (with_reducible refine (rsame_nil _).mono ?_); rintro e w1 ⟨rfl, hb1⟩; have H0 := Lib.hid (H0.out.step hb1); have a3 : w1.cell? ⟨w.heap.size, 3, none⟩ = some (.slice none 0 0) := H0.out.ca 3; have b3 : w1.cell? ⟨w.heap.size + 1, 3, none⟩ = some (.slice none 0 0) := H0.out.cb 3; have a4 : w1.cell? ⟨w.heap.size, 4, none⟩ = some (.slice none 0 0) := H0.out.ca 4; have b4 : w1.cell? ⟨w.heap.size + 1, 4, none⟩ = some (.slice none 0 0) := H0.out.cb 4; have a6 : w1.cell? ⟨w.heap.size, 6, none⟩ = some (.slice none 0 0) := H0.out.ca 6; have b6 : w1.cell? ⟨w.heap.size + 1, 6, none⟩ = some (.slice none 0 0) := H0.out.cb 6; have a7 : w1.cell? ⟨w.heap.size, 7, none⟩ = some (.slice none 0 0) := H0.out.ca 7; have b7 : w1.cell? ⟨w.heap.size + 1, 7, none⟩ = some (.slice none 0 0) := H0.out.cb 7; have a14 : w1.cell? ⟨w.heap.size, 14, none⟩ = some (.slice none 0 0) := H0.out.ca 14; have b14 : w1.cell? ⟨w.heap.size + 1, 14, none⟩ = some (.slice none 0 0) := H0.out.cb 14; have a15 : w1.cell? ⟨w.heap.size, 15, none⟩ = some (.slice none 0 0) := H0.out.ca 15; have b15 : w1.cell? ⟨w.heap.size + 1, 15, none⟩ = some (.slice none 0 0) := H0.out.cb 15; have a16 : w1.cell? ⟨w.heap.size, 16, none⟩ = some (.string ⟨#[]⟩) := H0.out.ca 16; have b16 : w1.cell? ⟨w.heap.size + 1, 16, none⟩ = some (.string ⟨#[]⟩) := H0.out.cb 16; have a17 : w1.cell? ⟨w.heap.size, 17, none⟩ = some (.int .i64 0) := H0.out.ca 17; have b17 : w1.cell? ⟨w.heap.size + 1, 17, none⟩ = some (.int .i64 0) := H0.out.cb 17; have a18 : w1.cell? ⟨w.heap.size, 18, none⟩ = some (.int .i64 0) := H0.out.ca 18; have b18 : w1.cell? ⟨w.heap.size + 1, 18, none⟩ = some (.int .i64 0) := H0.out.cb 18; have a19 : w1.cell? ⟨w.heap.size, 19, none⟩ = some (.string ⟨#[]⟩) := H0.out.ca 19; have b19 : w1.cell? ⟨w.heap.size + 1, 19, none⟩ = some (.string ⟨#[]⟩) := H0.out.cb 19; have a20 : w1.cell? ⟨w.heap.size, 20, none⟩ = some (.string ⟨#[]⟩) := H0.out.ca 20; have b20 : w1.cell? ⟨w.heap.size + 1, 20, none⟩ = some (.string ⟨#[]⟩) := H0.out.cb 20; have a21 : w1.cell? ⟨w.heap.size, 21, none⟩ = some (.slice none 0 0) := H0.out.ca 21; have b21 : w1.cell? ⟨w.heap.size + 1, 21, none⟩ = some (.slice none 0 0) := H0.out.cb 21; clear hb1)
  refine wp_loop_once ?_
  go_wp2_with (fail)
  refine wp_loop_once ?_
  go_wp2_with (fail)
  refine wp_loop_once ?_
  go_wp2_with (fail)
  refine wp_loop_once ?_
  go_wp2_with (fail)
  refine wp_loop_once ?_
  go_wp2_with (fail)
  refine wp_loop_once ?_
  go_wp2_with (fail)
  go_ret
  exact ⟨rfl, H0.out.lo⟩
end Go.Proofs.YtlilnbcklplmfaaGreatDoor

/- The statement parser at a right: what comes of any tokens behind GRANT READ and the like. -/
namespace Go.Proofs.YtlilnbcklplmfaaGreatDoor
open Go.RowKit Go.Lib

def tokN (l : List Tn) (st : Nat × Bool) : Tn := if st.2 = true then ⟨0, ⟨#[]⟩⟩ else (l[st.1]?).getD ⟨0, ⟨#[]⟩⟩
def stp (l : List Tn) (p : Tn → Bool) (st : Nat × Bool) : Nat × Bool := (if p (tokN l st) = true then st.1 + 1 else st.1, st.2 || !p (tokN l st))
section
variable {l : List Tn} {st : Nat × Bool} {p : Tn → Bool}
theorem tokN_ny (h : st.1 ≤ l.length) : Ny l st.1 st.2 (tokN l st) := by
  obtain ⟨i, f⟩ := st
  cases f with
  | true => exact .inl ⟨rfl, rfl⟩
  | false =>
    rcases Nat.lt_or_ge i l.length with h' | h'
    · refine .inr (.inr ⟨rfl, ?_⟩)
      simp [tokN, List.getElem?_eq_getElem h']
    · have hi : i = l.length := Nat.le_antisymm h h'
      refine .inr (.inl ⟨rfl, hi, ?_⟩)
      simp [tokN, List.getElem?_eq_none h']
theorem tokN_on (hz : p ⟨0, ⟨#[]⟩⟩ = false) (h : p (tokN l st) = true) : st.2 = false ∧ l[st.1]? = some (tokN l st) := by
  obtain ⟨i, f⟩ := st
  cases f with
  | true => simp [tokN, hz] at h
  | false =>
    refine ⟨rfl, ?_⟩
    cases hx : l[i]? with
    | none => simp [tokN, hx, hz] at h
    | some t => simp [tokN, hx]
theorem stp_le (hz : p ⟨0, ⟨#[]⟩⟩ = false) (h : st.1 ≤ l.length) : (stp l p st).1 ≤ l.length := by
  unfold stp
  show (if p (tokN l st) = true then st.1 + 1 else st.1) ≤ l.length
  split
  · next hp =>
    have := (List.getElem?_eq_some_iff.1 (tokN_on hz hp).2).1
    omega
  · exact h
theorem stp_ok (hz : p ⟨0, ⟨#[]⟩⟩ = false) (h : (stp l p st).2 = false) : st.2 = false ∧ l[st.1]? = some (tokN l st) ∧ p (tokN l st) = true ∧ (stp l p st).1 = st.1 + 1 := by
  unfold stp at h
  simp only [Bool.or_eq_false_iff, Bool.not_eq_false'] at h
  exact ⟨h.1, (tokN_on hz h.2).2, h.2, by unfold stp; simp [h.2]⟩
theorem stp_do {t : Tn} (hf : st.2 = false) (h : l[st.1]? = some t) (hp : p t = true) : stp l p st = (st.1 + 1, false) ∧ tokN l st = t := by
  have e : tokN l st = t := by simp [tokN, hf, h]
  exact ⟨by simp [stp, e, hp, hf], e⟩
theorem tokN_size (hs : ∀ t ∈ l, t.s.size ≤ 100000) : (tokN l st).s.size ≤ 100000 := by
  unfold tokN
  split
  · decide
  · cases hx : l[st.1]? with
    | none => decide
    | some t => exact hs t (List.mem_of_getElem? hx)
end
theorem isB_z (wd : ByteArray) : isB ⟨0, ⟨#[]⟩⟩ wd = false := by simp [isB]
theorem isNm_z : isNm ⟨0, ⟨#[]⟩⟩ = false := by simp [isNm]
def stA (l : List Tn) (m : ByteArray) : Nat × Bool := stp l (fun t => isB t ⟨#[79, 78]⟩) (2, false)
def stB (l : List Tn) (m : ByteArray) : Nat × Bool := stp l isNm (stA l m)
def stC (l : List Tn) (m : ByteArray) : Nat × Bool := stp l (fun t => isB t m) (stB l m)
def stD (l : List Tn) (m : ByteArray) : Nat × Bool := stp l isNm (stC l m)
theorem stA_le {l : List Tn} (m : ByteArray) (h : 2 ≤ l.length) : (stA l m).1 ≤ l.length := stp_le (p := fun t => isB t ⟨#[79, 78]⟩) (isB_z _) h
theorem stB_le {l : List Tn} (m : ByteArray) (h : 2 ≤ l.length) : (stB l m).1 ≤ l.length := stp_le isNm_z (stA_le m h)
theorem stC_le {l : List Tn} (m : ByteArray) (h : 2 ≤ l.length) : (stC l m).1 ≤ l.length := stp_le (p := fun t => isB t m) (isB_z _) (stB_le m h)
theorem stD_le {l : List Tn} (m : ByteArray) (h : 2 ≤ l.length) : (stD l m).1 ≤ l.length := stp_le isNm_z (stC_le m h)

theorem sright_read (ts : List Tk) (hlen : ts.length ≤ 100000) (hsz : ∀ t ∈ (ts.map tnOf), t.s.size ≤ 100000) (h0 : (ts.map tnOf)[0]? = some ⟨1, ⟨#[71, 82, 65, 78, 84]⟩⟩) (h1 : (ts.map tnOf)[1]? = some ⟨1, ⟨#[82, 69, 65, 68]⟩⟩)
    (g : Nat) (A : Option Addr) (cap : Nat) (W : World) (hz : Sz W g A cap (ts.map tnOf) 0 false) :
    Calls Tryz.prog 18 #[.pointer (some ⟨g, 0, none⟩)] W fun e w' => e = .returned (.agg (rtC ⟨#[114, 101, 97, 100]⟩ (nmOf (tokN (ts.map tnOf) (stA (ts.map tnOf) ⟨#[84, 79]⟩))) (nmOf (tokN (ts.map tnOf) (stC (ts.map tnOf) ⟨#[84, 79]⟩))))) ∧ Sz w' g A cap (ts.map tnOf) (stD (ts.map tnOf) ⟨#[84, 79]⟩).1 (stD (ts.map tnOf) ⟨#[84, 79]⟩).2 ∧ W.grownBy w' (some g) := by
  have hll : (ts.map tnOf).length ≤ 100000 := by simpa using hlen
  have h2 : 2 ≤ (ts.map tnOf).length := (List.getElem?_eq_some_iff.1 h1).1
  refine statement_grant g A cap (ts.map tnOf) 0 false _ _ _ W hz hll (by omega) (.inr (.inr ⟨rfl, h0⟩)) (rt_one _ _ _) rfl fun W1 hz1 _ => ?_
  refine grant_any g A cap (ts.map tnOf) 1 false _ _ _ _ _ W1 hz1 fun W2 hz2 _ => ?_
  exact right_read g A cap (ts.map tnOf) 1 false ⟨#[114, 101, 97, 100]⟩ ⟨#[119, 114, 105, 116, 101]⟩ ⟨#[84, 79]⟩ ⟨1, ⟨#[82, 69, 65, 68]⟩⟩ _ _ _ _ 2 _ _ _ _ false _ _ _ _ W2 hz2 hll (by omega)
    (.inr (.inr ⟨rfl, h1⟩)) (by simp [isB, toList_data]) ⟨rfl, rfl⟩
    (tokN_ny (st := (2, false)) h2) ⟨rfl, rfl⟩ (tokN_ny (st := stA (ts.map tnOf) ⟨#[84, 79]⟩) (stA_le _ h2)) (tokN_size hsz) ⟨rfl, rfl⟩ (tokN_ny (st := stB (ts.map tnOf) ⟨#[84, 79]⟩) (stB_le _ h2)) ⟨rfl, rfl⟩ (tokN_ny (st := stC (ts.map tnOf) ⟨#[84, 79]⟩) (stC_le _ h2)) (tokN_size hsz) ⟨rfl, rfl⟩
theorem sparse_read (s : ByteArray) (w : World) (hs : s.size ≤ 100000) (hl : LibE w) (ts : List Tk) (hc : cutR s.data.toList = some ts) (hlen : ts.length ≤ 100000) (hsz : ∀ t ∈ (ts.map tnOf), t.s.size ≤ 1000) (h0 : (ts.map tnOf)[0]? = some ⟨1, ⟨#[71, 82, 65, 78, 84]⟩⟩) (h1 : (ts.map tnOf)[1]? = some ⟨1, ⟨#[82, 69, 65, 68]⟩⟩)
    (hcut : ∀ n1 n2 : ByteArray, nmB n1 = true → nmB n2 = true → n1.size ≤ 1000 → n2.size ≤ 1000 → ∃ ts, cutR (⟨#[71, 82, 65, 78, 84, 32, 82, 69, 65, 68, 32, 79, 78, 32]⟩ ++ n1 ++ ⟨#[32, 84, 79, 32]⟩ ++ n2).data.toList = some ts) :
    Calls Tryz.prog 7 #[.string s] w fun e w' => e = .returned (if (stD (ts.map tnOf) ⟨#[84, 79]⟩).2 = false ∧ (stD (ts.map tnOf) ⟨#[84, 79]⟩).1 = ts.length then .tuple #[.agg (rtC ⟨#[114, 101, 97, 100]⟩ (nmOf (tokN (ts.map tnOf) (stA (ts.map tnOf) ⟨#[84, 79]⟩))) (nmOf (tokN (ts.map tnOf) (stC (ts.map tnOf) ⟨#[84, 79]⟩)))), .int .i64 0] else .tuple #[.agg #[.string ⟨#[]⟩, .string ⟨#[]⟩, .string ⟨#[]⟩, .slice none 0 0, .slice none 0 0, .string ⟨#[]⟩, .slice none 0 0, .slice none 0 0, .string ⟨#[]⟩, .int .i64 0, .int .i64 0, .string ⟨#[]⟩, .string ⟨#[]⟩, .slice none 0 0, .slice none 0 0, .slice none 0 0, .string ⟨#[]⟩, .int .i64 0, .int .i64 0, .string ⟨#[]⟩, .string ⟨#[]⟩, .slice none 0 0, .string ⟨#[]⟩], .int .i64 2]) ∧ Below w.heap.size w w' := by
  have h2 : 2 ≤ (ts.map tnOf).length := (List.getElem?_eq_some_iff.1 h1).1
  have hd := stD_le ⟨#[84, 79]⟩ h2
  rw [List.length_map] at hd
  have HS := sright_read ts hlen (fun t ht => Nat.le_trans (hsz t ht) (by omega)) h0 h1
  cases hf : (stD (ts.map tnOf) ⟨#[84, 79]⟩).2 with
  | true =>
    rw [if_neg (by rintro ⟨h, _⟩; cases h)]
    rw [hf] at HS
    exact sparse_failed s w hs hl ts hc _ _ (rt_one _ _ _) rfl HS
  | false =>
    rw [hf] at HS
    rcases Nat.lt_or_ge (stD (ts.map tnOf) ⟨#[84, 79]⟩).1 ts.length with hx | hx
    · rw [if_neg (by rintro ⟨_, h⟩; omega)]
      exact sparse_left s w hs hl ts hc _ _ (rt_one _ _ _) rfl HS hx
    · have he : (stD (ts.map tnOf) ⟨#[84, 79]⟩).1 = ts.length := Nat.le_antisymm hd hx
      rw [if_pos ⟨rfl, he⟩]
      obtain ⟨c2, c3, c4, _⟩ := stp_ok isNm_z hf
      obtain ⟨b2, b3, b4, _⟩ := stp_ok (p := fun t => isB t ⟨#[84, 79]⟩) (isB_z _) c2
      obtain ⟨a2, a3, a4, _⟩ := stp_ok isNm_z b2
      have na : nmB (nmOf (tokN (ts.map tnOf) (stA (ts.map tnOf) ⟨#[84, 79]⟩))) = true := by unfold nmOf; rw [if_pos a4]; unfold isNm at a4; exact (Bool.and_eq_true _ _ ▸ a4).2
      have nc : nmB (nmOf (tokN (ts.map tnOf) (stC (ts.map tnOf) ⟨#[84, 79]⟩))) = true := by unfold nmOf; rw [if_pos c4]; unfold isNm at c4; exact (Bool.and_eq_true _ _ ▸ c4).2
      have za : (nmOf (tokN (ts.map tnOf) (stA (ts.map tnOf) ⟨#[84, 79]⟩))).size ≤ 1000 := by unfold nmOf; rw [if_pos a4]; exact hsz _ (List.mem_of_getElem? a3)
      have zc : (nmOf (tokN (ts.map tnOf) (stC (ts.map tnOf) ⟨#[84, 79]⟩))).size ≤ 1000 := by unfold nmOf; rw [if_pos c4]; exact hsz _ (List.mem_of_getElem? c3)
      refine sparse_done s w hs hl ts hc _ _ (rt_one _ _ _) rfl HS he fun W hW => ?_
      have hm := may_read (nmOf (tokN (ts.map tnOf) (stA (ts.map tnOf) ⟨#[84, 79]⟩))) (nmOf (tokN (ts.map tnOf) (stC (ts.map tnOf) ⟨#[84, 79]⟩))) W hW za zc (fun _ => hcut _ _ na nc za zc)
      rw [na, nc] at hm
      exact hm

theorem sright_write (ts : List Tk) (hlen : ts.length ≤ 100000) (hsz : ∀ t ∈ (ts.map tnOf), t.s.size ≤ 100000) (h0 : (ts.map tnOf)[0]? = some ⟨1, ⟨#[71, 82, 65, 78, 84]⟩⟩) (h1 : (ts.map tnOf)[1]? = some ⟨1, ⟨#[87, 82, 73, 84, 69]⟩⟩)
    (g : Nat) (A : Option Addr) (cap : Nat) (W : World) (hz : Sz W g A cap (ts.map tnOf) 0 false) :
    Calls Tryz.prog 18 #[.pointer (some ⟨g, 0, none⟩)] W fun e w' => e = .returned (.agg (rtC ⟨#[119, 114, 105, 116, 101]⟩ (nmOf (tokN (ts.map tnOf) (stA (ts.map tnOf) ⟨#[84, 79]⟩))) (nmOf (tokN (ts.map tnOf) (stC (ts.map tnOf) ⟨#[84, 79]⟩))))) ∧ Sz w' g A cap (ts.map tnOf) (stD (ts.map tnOf) ⟨#[84, 79]⟩).1 (stD (ts.map tnOf) ⟨#[84, 79]⟩).2 ∧ W.grownBy w' (some g) := by
  have hll : (ts.map tnOf).length ≤ 100000 := by simpa using hlen
  have h2 : 2 ≤ (ts.map tnOf).length := (List.getElem?_eq_some_iff.1 h1).1
  refine statement_grant g A cap (ts.map tnOf) 0 false _ _ _ W hz hll (by omega) (.inr (.inr ⟨rfl, h0⟩)) (rt_one _ _ _) rfl fun W1 hz1 _ => ?_
  refine grant_any g A cap (ts.map tnOf) 1 false _ _ _ _ _ W1 hz1 fun W2 hz2 _ => ?_
  exact right_write g A cap (ts.map tnOf) 1 false ⟨#[114, 101, 97, 100]⟩ ⟨#[119, 114, 105, 116, 101]⟩ ⟨#[84, 79]⟩ ⟨1, ⟨#[87, 82, 73, 84, 69]⟩⟩ _ _ _ _ 2 _ _ _ _ false _ _ _ _ W2 hz2 hll (by omega)
    (.inr (.inr ⟨rfl, h1⟩)) (by simp [isB, toList_data]) (by simp [isB])
    (tokN_ny (st := (2, false)) h2) ⟨rfl, rfl⟩ (tokN_ny (st := stA (ts.map tnOf) ⟨#[84, 79]⟩) (stA_le _ h2)) (tokN_size hsz) ⟨rfl, rfl⟩ (tokN_ny (st := stB (ts.map tnOf) ⟨#[84, 79]⟩) (stB_le _ h2)) ⟨rfl, rfl⟩ (tokN_ny (st := stC (ts.map tnOf) ⟨#[84, 79]⟩) (stC_le _ h2)) (tokN_size hsz) ⟨rfl, rfl⟩
theorem sparse_write (s : ByteArray) (w : World) (hs : s.size ≤ 100000) (hl : LibE w) (ts : List Tk) (hc : cutR s.data.toList = some ts) (hlen : ts.length ≤ 100000) (hsz : ∀ t ∈ (ts.map tnOf), t.s.size ≤ 1000) (h0 : (ts.map tnOf)[0]? = some ⟨1, ⟨#[71, 82, 65, 78, 84]⟩⟩) (h1 : (ts.map tnOf)[1]? = some ⟨1, ⟨#[87, 82, 73, 84, 69]⟩⟩)
    (hcut : ∀ n1 n2 : ByteArray, nmB n1 = true → nmB n2 = true → n1.size ≤ 1000 → n2.size ≤ 1000 → ∃ ts, cutR (⟨#[71, 82, 65, 78, 84, 32, 87, 82, 73, 84, 69, 32, 79, 78, 32]⟩ ++ n1 ++ ⟨#[32, 84, 79, 32]⟩ ++ n2).data.toList = some ts) :
    Calls Tryz.prog 7 #[.string s] w fun e w' => e = .returned (if (stD (ts.map tnOf) ⟨#[84, 79]⟩).2 = false ∧ (stD (ts.map tnOf) ⟨#[84, 79]⟩).1 = ts.length then .tuple #[.agg (rtC ⟨#[119, 114, 105, 116, 101]⟩ (nmOf (tokN (ts.map tnOf) (stA (ts.map tnOf) ⟨#[84, 79]⟩))) (nmOf (tokN (ts.map tnOf) (stC (ts.map tnOf) ⟨#[84, 79]⟩)))), .int .i64 0] else .tuple #[.agg #[.string ⟨#[]⟩, .string ⟨#[]⟩, .string ⟨#[]⟩, .slice none 0 0, .slice none 0 0, .string ⟨#[]⟩, .slice none 0 0, .slice none 0 0, .string ⟨#[]⟩, .int .i64 0, .int .i64 0, .string ⟨#[]⟩, .string ⟨#[]⟩, .slice none 0 0, .slice none 0 0, .slice none 0 0, .string ⟨#[]⟩, .int .i64 0, .int .i64 0, .string ⟨#[]⟩, .string ⟨#[]⟩, .slice none 0 0, .string ⟨#[]⟩], .int .i64 2]) ∧ Below w.heap.size w w' := by
  have h2 : 2 ≤ (ts.map tnOf).length := (List.getElem?_eq_some_iff.1 h1).1
  have hd := stD_le ⟨#[84, 79]⟩ h2
  rw [List.length_map] at hd
  have HS := sright_write ts hlen (fun t ht => Nat.le_trans (hsz t ht) (by omega)) h0 h1
  cases hf : (stD (ts.map tnOf) ⟨#[84, 79]⟩).2 with
  | true =>
    rw [if_neg (by rintro ⟨h, _⟩; cases h)]
    rw [hf] at HS
    exact sparse_failed s w hs hl ts hc _ _ (rt_one _ _ _) rfl HS
  | false =>
    rw [hf] at HS
    rcases Nat.lt_or_ge (stD (ts.map tnOf) ⟨#[84, 79]⟩).1 ts.length with hx | hx
    · rw [if_neg (by rintro ⟨_, h⟩; omega)]
      exact sparse_left s w hs hl ts hc _ _ (rt_one _ _ _) rfl HS hx
    · have he : (stD (ts.map tnOf) ⟨#[84, 79]⟩).1 = ts.length := Nat.le_antisymm hd hx
      rw [if_pos ⟨rfl, he⟩]
      obtain ⟨c2, c3, c4, _⟩ := stp_ok isNm_z hf
      obtain ⟨b2, b3, b4, _⟩ := stp_ok (p := fun t => isB t ⟨#[84, 79]⟩) (isB_z _) c2
      obtain ⟨a2, a3, a4, _⟩ := stp_ok isNm_z b2
      have na : nmB (nmOf (tokN (ts.map tnOf) (stA (ts.map tnOf) ⟨#[84, 79]⟩))) = true := by unfold nmOf; rw [if_pos a4]; unfold isNm at a4; exact (Bool.and_eq_true _ _ ▸ a4).2
      have nc : nmB (nmOf (tokN (ts.map tnOf) (stC (ts.map tnOf) ⟨#[84, 79]⟩))) = true := by unfold nmOf; rw [if_pos c4]; unfold isNm at c4; exact (Bool.and_eq_true _ _ ▸ c4).2
      have za : (nmOf (tokN (ts.map tnOf) (stA (ts.map tnOf) ⟨#[84, 79]⟩))).size ≤ 1000 := by unfold nmOf; rw [if_pos a4]; exact hsz _ (List.mem_of_getElem? a3)
      have zc : (nmOf (tokN (ts.map tnOf) (stC (ts.map tnOf) ⟨#[84, 79]⟩))).size ≤ 1000 := by unfold nmOf; rw [if_pos c4]; exact hsz _ (List.mem_of_getElem? c3)
      refine sparse_done s w hs hl ts hc _ _ (rt_one _ _ _) rfl HS he fun W hW => ?_
      have hm := may_write (nmOf (tokN (ts.map tnOf) (stA (ts.map tnOf) ⟨#[84, 79]⟩))) (nmOf (tokN (ts.map tnOf) (stC (ts.map tnOf) ⟨#[84, 79]⟩))) W hW za zc (fun _ => hcut _ _ na nc za zc)
      rw [na, nc] at hm
      exact hm

theorem sright_unread (ts : List Tk) (hlen : ts.length ≤ 100000) (hsz : ∀ t ∈ (ts.map tnOf), t.s.size ≤ 100000) (h0 : (ts.map tnOf)[0]? = some ⟨1, ⟨#[82, 69, 86, 79, 75, 69]⟩⟩) (h1 : (ts.map tnOf)[1]? = some ⟨1, ⟨#[82, 69, 65, 68]⟩⟩)
    (g : Nat) (A : Option Addr) (cap : Nat) (W : World) (hz : Sz W g A cap (ts.map tnOf) 0 false) :
    Calls Tryz.prog 18 #[.pointer (some ⟨g, 0, none⟩)] W fun e w' => e = .returned (.agg (rtC ⟨#[117, 110, 114, 101, 97, 100]⟩ (nmOf (tokN (ts.map tnOf) (stA (ts.map tnOf) ⟨#[70, 82, 79, 77]⟩))) (nmOf (tokN (ts.map tnOf) (stC (ts.map tnOf) ⟨#[70, 82, 79, 77]⟩))))) ∧ Sz w' g A cap (ts.map tnOf) (stD (ts.map tnOf) ⟨#[70, 82, 79, 77]⟩).1 (stD (ts.map tnOf) ⟨#[70, 82, 79, 77]⟩).2 ∧ W.grownBy w' (some g) := by
  have hll : (ts.map tnOf).length ≤ 100000 := by simpa using hlen
  have h2 : 2 ≤ (ts.map tnOf).length := (List.getElem?_eq_some_iff.1 h1).1
  refine statement_revoke g A cap (ts.map tnOf) 0 false _ _ _ W hz hll (by omega) (.inr (.inr ⟨rfl, h0⟩)) (rt_one _ _ _) rfl fun W1 hz1 _ => ?_
  refine revoke_any g A cap (ts.map tnOf) 1 false _ _ _ _ _ W1 hz1 fun W2 hz2 _ => ?_
  exact right_read g A cap (ts.map tnOf) 1 false ⟨#[117, 110, 114, 101, 97, 100]⟩ ⟨#[117, 110, 119, 114, 105, 116, 101]⟩ ⟨#[70, 82, 79, 77]⟩ ⟨1, ⟨#[82, 69, 65, 68]⟩⟩ _ _ _ _ 2 _ _ _ _ false _ _ _ _ W2 hz2 hll (by omega)
    (.inr (.inr ⟨rfl, h1⟩)) (by simp [isB, toList_data]) ⟨rfl, rfl⟩
    (tokN_ny (st := (2, false)) h2) ⟨rfl, rfl⟩ (tokN_ny (st := stA (ts.map tnOf) ⟨#[70, 82, 79, 77]⟩) (stA_le _ h2)) (tokN_size hsz) ⟨rfl, rfl⟩ (tokN_ny (st := stB (ts.map tnOf) ⟨#[70, 82, 79, 77]⟩) (stB_le _ h2)) ⟨rfl, rfl⟩ (tokN_ny (st := stC (ts.map tnOf) ⟨#[70, 82, 79, 77]⟩) (stC_le _ h2)) (tokN_size hsz) ⟨rfl, rfl⟩
theorem sparse_unread (s : ByteArray) (w : World) (hs : s.size ≤ 100000) (hl : LibE w) (ts : List Tk) (hc : cutR s.data.toList = some ts) (hlen : ts.length ≤ 100000) (hsz : ∀ t ∈ (ts.map tnOf), t.s.size ≤ 1000) (h0 : (ts.map tnOf)[0]? = some ⟨1, ⟨#[82, 69, 86, 79, 75, 69]⟩⟩) (h1 : (ts.map tnOf)[1]? = some ⟨1, ⟨#[82, 69, 65, 68]⟩⟩)
    (hcut : ∀ n1 n2 : ByteArray, nmB n1 = true → nmB n2 = true → n1.size ≤ 1000 → n2.size ≤ 1000 → ∃ ts, cutR (⟨#[82, 69, 86, 79, 75, 69, 32, 82, 69, 65, 68, 32, 79, 78, 32]⟩ ++ n1 ++ ⟨#[32, 70, 82, 79, 77, 32]⟩ ++ n2).data.toList = some ts) :
    Calls Tryz.prog 7 #[.string s] w fun e w' => e = .returned (if (stD (ts.map tnOf) ⟨#[70, 82, 79, 77]⟩).2 = false ∧ (stD (ts.map tnOf) ⟨#[70, 82, 79, 77]⟩).1 = ts.length then .tuple #[.agg (rtC ⟨#[117, 110, 114, 101, 97, 100]⟩ (nmOf (tokN (ts.map tnOf) (stA (ts.map tnOf) ⟨#[70, 82, 79, 77]⟩))) (nmOf (tokN (ts.map tnOf) (stC (ts.map tnOf) ⟨#[70, 82, 79, 77]⟩)))), .int .i64 0] else .tuple #[.agg #[.string ⟨#[]⟩, .string ⟨#[]⟩, .string ⟨#[]⟩, .slice none 0 0, .slice none 0 0, .string ⟨#[]⟩, .slice none 0 0, .slice none 0 0, .string ⟨#[]⟩, .int .i64 0, .int .i64 0, .string ⟨#[]⟩, .string ⟨#[]⟩, .slice none 0 0, .slice none 0 0, .slice none 0 0, .string ⟨#[]⟩, .int .i64 0, .int .i64 0, .string ⟨#[]⟩, .string ⟨#[]⟩, .slice none 0 0, .string ⟨#[]⟩], .int .i64 2]) ∧ Below w.heap.size w w' := by
  have h2 : 2 ≤ (ts.map tnOf).length := (List.getElem?_eq_some_iff.1 h1).1
  have hd := stD_le ⟨#[70, 82, 79, 77]⟩ h2
  rw [List.length_map] at hd
  have HS := sright_unread ts hlen (fun t ht => Nat.le_trans (hsz t ht) (by omega)) h0 h1
  cases hf : (stD (ts.map tnOf) ⟨#[70, 82, 79, 77]⟩).2 with
  | true =>
    rw [if_neg (by rintro ⟨h, _⟩; cases h)]
    rw [hf] at HS
    exact sparse_failed s w hs hl ts hc _ _ (rt_one _ _ _) rfl HS
  | false =>
    rw [hf] at HS
    rcases Nat.lt_or_ge (stD (ts.map tnOf) ⟨#[70, 82, 79, 77]⟩).1 ts.length with hx | hx
    · rw [if_neg (by rintro ⟨_, h⟩; omega)]
      exact sparse_left s w hs hl ts hc _ _ (rt_one _ _ _) rfl HS hx
    · have he : (stD (ts.map tnOf) ⟨#[70, 82, 79, 77]⟩).1 = ts.length := Nat.le_antisymm hd hx
      rw [if_pos ⟨rfl, he⟩]
      obtain ⟨c2, c3, c4, _⟩ := stp_ok isNm_z hf
      obtain ⟨b2, b3, b4, _⟩ := stp_ok (p := fun t => isB t ⟨#[70, 82, 79, 77]⟩) (isB_z _) c2
      obtain ⟨a2, a3, a4, _⟩ := stp_ok isNm_z b2
      have na : nmB (nmOf (tokN (ts.map tnOf) (stA (ts.map tnOf) ⟨#[70, 82, 79, 77]⟩))) = true := by unfold nmOf; rw [if_pos a4]; unfold isNm at a4; exact (Bool.and_eq_true _ _ ▸ a4).2
      have nc : nmB (nmOf (tokN (ts.map tnOf) (stC (ts.map tnOf) ⟨#[70, 82, 79, 77]⟩))) = true := by unfold nmOf; rw [if_pos c4]; unfold isNm at c4; exact (Bool.and_eq_true _ _ ▸ c4).2
      have za : (nmOf (tokN (ts.map tnOf) (stA (ts.map tnOf) ⟨#[70, 82, 79, 77]⟩))).size ≤ 1000 := by unfold nmOf; rw [if_pos a4]; exact hsz _ (List.mem_of_getElem? a3)
      have zc : (nmOf (tokN (ts.map tnOf) (stC (ts.map tnOf) ⟨#[70, 82, 79, 77]⟩))).size ≤ 1000 := by unfold nmOf; rw [if_pos c4]; exact hsz _ (List.mem_of_getElem? c3)
      refine sparse_done s w hs hl ts hc _ _ (rt_one _ _ _) rfl HS he fun W hW => ?_
      have hm := may_unread (nmOf (tokN (ts.map tnOf) (stA (ts.map tnOf) ⟨#[70, 82, 79, 77]⟩))) (nmOf (tokN (ts.map tnOf) (stC (ts.map tnOf) ⟨#[70, 82, 79, 77]⟩))) W hW za zc (fun _ => hcut _ _ na nc za zc)
      rw [na, nc] at hm
      exact hm

theorem sright_unwrite (ts : List Tk) (hlen : ts.length ≤ 100000) (hsz : ∀ t ∈ (ts.map tnOf), t.s.size ≤ 100000) (h0 : (ts.map tnOf)[0]? = some ⟨1, ⟨#[82, 69, 86, 79, 75, 69]⟩⟩) (h1 : (ts.map tnOf)[1]? = some ⟨1, ⟨#[87, 82, 73, 84, 69]⟩⟩)
    (g : Nat) (A : Option Addr) (cap : Nat) (W : World) (hz : Sz W g A cap (ts.map tnOf) 0 false) :
    Calls Tryz.prog 18 #[.pointer (some ⟨g, 0, none⟩)] W fun e w' => e = .returned (.agg (rtC ⟨#[117, 110, 119, 114, 105, 116, 101]⟩ (nmOf (tokN (ts.map tnOf) (stA (ts.map tnOf) ⟨#[70, 82, 79, 77]⟩))) (nmOf (tokN (ts.map tnOf) (stC (ts.map tnOf) ⟨#[70, 82, 79, 77]⟩))))) ∧ Sz w' g A cap (ts.map tnOf) (stD (ts.map tnOf) ⟨#[70, 82, 79, 77]⟩).1 (stD (ts.map tnOf) ⟨#[70, 82, 79, 77]⟩).2 ∧ W.grownBy w' (some g) := by
  have hll : (ts.map tnOf).length ≤ 100000 := by simpa using hlen
  have h2 : 2 ≤ (ts.map tnOf).length := (List.getElem?_eq_some_iff.1 h1).1
  refine statement_revoke g A cap (ts.map tnOf) 0 false _ _ _ W hz hll (by omega) (.inr (.inr ⟨rfl, h0⟩)) (rt_one _ _ _) rfl fun W1 hz1 _ => ?_
  refine revoke_any g A cap (ts.map tnOf) 1 false _ _ _ _ _ W1 hz1 fun W2 hz2 _ => ?_
  exact right_write g A cap (ts.map tnOf) 1 false ⟨#[117, 110, 114, 101, 97, 100]⟩ ⟨#[117, 110, 119, 114, 105, 116, 101]⟩ ⟨#[70, 82, 79, 77]⟩ ⟨1, ⟨#[87, 82, 73, 84, 69]⟩⟩ _ _ _ _ 2 _ _ _ _ false _ _ _ _ W2 hz2 hll (by omega)
    (.inr (.inr ⟨rfl, h1⟩)) (by simp [isB, toList_data]) (by simp [isB])
    (tokN_ny (st := (2, false)) h2) ⟨rfl, rfl⟩ (tokN_ny (st := stA (ts.map tnOf) ⟨#[70, 82, 79, 77]⟩) (stA_le _ h2)) (tokN_size hsz) ⟨rfl, rfl⟩ (tokN_ny (st := stB (ts.map tnOf) ⟨#[70, 82, 79, 77]⟩) (stB_le _ h2)) ⟨rfl, rfl⟩ (tokN_ny (st := stC (ts.map tnOf) ⟨#[70, 82, 79, 77]⟩) (stC_le _ h2)) (tokN_size hsz) ⟨rfl, rfl⟩
theorem sparse_unwrite (s : ByteArray) (w : World) (hs : s.size ≤ 100000) (hl : LibE w) (ts : List Tk) (hc : cutR s.data.toList = some ts) (hlen : ts.length ≤ 100000) (hsz : ∀ t ∈ (ts.map tnOf), t.s.size ≤ 1000) (h0 : (ts.map tnOf)[0]? = some ⟨1, ⟨#[82, 69, 86, 79, 75, 69]⟩⟩) (h1 : (ts.map tnOf)[1]? = some ⟨1, ⟨#[87, 82, 73, 84, 69]⟩⟩)
    (hcut : ∀ n1 n2 : ByteArray, nmB n1 = true → nmB n2 = true → n1.size ≤ 1000 → n2.size ≤ 1000 → ∃ ts, cutR (⟨#[82, 69, 86, 79, 75, 69, 32, 87, 82, 73, 84, 69, 32, 79, 78, 32]⟩ ++ n1 ++ ⟨#[32, 70, 82, 79, 77, 32]⟩ ++ n2).data.toList = some ts) :
    Calls Tryz.prog 7 #[.string s] w fun e w' => e = .returned (if (stD (ts.map tnOf) ⟨#[70, 82, 79, 77]⟩).2 = false ∧ (stD (ts.map tnOf) ⟨#[70, 82, 79, 77]⟩).1 = ts.length then .tuple #[.agg (rtC ⟨#[117, 110, 119, 114, 105, 116, 101]⟩ (nmOf (tokN (ts.map tnOf) (stA (ts.map tnOf) ⟨#[70, 82, 79, 77]⟩))) (nmOf (tokN (ts.map tnOf) (stC (ts.map tnOf) ⟨#[70, 82, 79, 77]⟩)))), .int .i64 0] else .tuple #[.agg #[.string ⟨#[]⟩, .string ⟨#[]⟩, .string ⟨#[]⟩, .slice none 0 0, .slice none 0 0, .string ⟨#[]⟩, .slice none 0 0, .slice none 0 0, .string ⟨#[]⟩, .int .i64 0, .int .i64 0, .string ⟨#[]⟩, .string ⟨#[]⟩, .slice none 0 0, .slice none 0 0, .slice none 0 0, .string ⟨#[]⟩, .int .i64 0, .int .i64 0, .string ⟨#[]⟩, .string ⟨#[]⟩, .slice none 0 0, .string ⟨#[]⟩], .int .i64 2]) ∧ Below w.heap.size w w' := by
  have h2 : 2 ≤ (ts.map tnOf).length := (List.getElem?_eq_some_iff.1 h1).1
  have hd := stD_le ⟨#[70, 82, 79, 77]⟩ h2
  rw [List.length_map] at hd
  have HS := sright_unwrite ts hlen (fun t ht => Nat.le_trans (hsz t ht) (by omega)) h0 h1
  cases hf : (stD (ts.map tnOf) ⟨#[70, 82, 79, 77]⟩).2 with
  | true =>
    rw [if_neg (by rintro ⟨h, _⟩; cases h)]
    rw [hf] at HS
    exact sparse_failed s w hs hl ts hc _ _ (rt_one _ _ _) rfl HS
  | false =>
    rw [hf] at HS
    rcases Nat.lt_or_ge (stD (ts.map tnOf) ⟨#[70, 82, 79, 77]⟩).1 ts.length with hx | hx
    · rw [if_neg (by rintro ⟨_, h⟩; omega)]
      exact sparse_left s w hs hl ts hc _ _ (rt_one _ _ _) rfl HS hx
    · have he : (stD (ts.map tnOf) ⟨#[70, 82, 79, 77]⟩).1 = ts.length := Nat.le_antisymm hd hx
      rw [if_pos ⟨rfl, he⟩]
      obtain ⟨c2, c3, c4, _⟩ := stp_ok isNm_z hf
      obtain ⟨b2, b3, b4, _⟩ := stp_ok (p := fun t => isB t ⟨#[70, 82, 79, 77]⟩) (isB_z _) c2
      obtain ⟨a2, a3, a4, _⟩ := stp_ok isNm_z b2
      have na : nmB (nmOf (tokN (ts.map tnOf) (stA (ts.map tnOf) ⟨#[70, 82, 79, 77]⟩))) = true := by unfold nmOf; rw [if_pos a4]; unfold isNm at a4; exact (Bool.and_eq_true _ _ ▸ a4).2
      have nc : nmB (nmOf (tokN (ts.map tnOf) (stC (ts.map tnOf) ⟨#[70, 82, 79, 77]⟩))) = true := by unfold nmOf; rw [if_pos c4]; unfold isNm at c4; exact (Bool.and_eq_true _ _ ▸ c4).2
      have za : (nmOf (tokN (ts.map tnOf) (stA (ts.map tnOf) ⟨#[70, 82, 79, 77]⟩))).size ≤ 1000 := by unfold nmOf; rw [if_pos a4]; exact hsz _ (List.mem_of_getElem? a3)
      have zc : (nmOf (tokN (ts.map tnOf) (stC (ts.map tnOf) ⟨#[70, 82, 79, 77]⟩))).size ≤ 1000 := by unfold nmOf; rw [if_pos c4]; exact hsz _ (List.mem_of_getElem? c3)
      refine sparse_done s w hs hl ts hc _ _ (rt_one _ _ _) rfl HS he fun W hW => ?_
      have hm := may_unwrite (nmOf (tokN (ts.map tnOf) (stA (ts.map tnOf) ⟨#[70, 82, 79, 77]⟩))) (nmOf (tokN (ts.map tnOf) (stC (ts.map tnOf) ⟨#[70, 82, 79, 77]⟩))) W hW za zc (fun _ => hcut _ _ na nc za zc)
      rw [na, nc] at hm
      exact hm

end Go.Proofs.YtlilnbcklplmfaaGreatDoor

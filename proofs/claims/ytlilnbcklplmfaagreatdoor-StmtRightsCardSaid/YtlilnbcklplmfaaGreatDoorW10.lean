import Derived.Test.YtlilnbcklplmfaaGreatDoorW09

/- A right without its parts is the empty statement. -/
namespace Go.Proofs.YtlilnbcklplmfaaGreatDoor
open Go.RowKit Go.Lib

theorem wpList_buildTo_on {P : Program} {ops : Array Oper} {rest : List Oper} {o : Oper} {a : Act} {w : World} {Q : Exit → Act → World → Prop} (hw : Region.wanted o (yielded ops a.tmps) = true) (t : TypeId) (parts : Array (Nat × Operand)) (ho : o.op = .build t parts)
    (d : Option Tmp) (hd : o.dst = d) (cells : Array Value) (hf : P.built t (parts.map fun (i, x) => (i, a.eval x)).toList = some cells)
    (h : wpList P ops Q rest (a.put d (.agg cells)) w) : wpList P ops Q (o :: rest) a w := by
  subst hd
  refine wpList_step fun K hK => ?_
  rw [if_pos hw]
  refine wp_build t parts ho (by rw [hf]; rfl) ?_
  rw [hf]
  exact hK _ _ h
set_option maxRecDepth 100000 in
set_option maxHeartbeats 4000000 in
theorem rest_read (tb ro : ByteArray) (w : World) : Calls Tryz.prog 148 #[.agg #[.string ⟨#[114, 101, 97, 100]⟩, .string tb, .string ⟨#[]⟩, .slice none 0 0, .slice none 0 0, .string ⟨#[]⟩, .slice none 0 0, .slice none 0 0, .string ⟨#[]⟩, .int .i64 0, .int .i64 0, .string ⟨#[]⟩, .string ⟨#[]⟩, .slice none 0 0, .slice none 0 0, .slice none 0 0, .string ⟨#[]⟩, .int .i64 0, .int .i64 0, .string ⟨#[]⟩, .string ⟨#[]⟩, .slice none 0 0, .string ro]] w fun e w' => e = .returned (.agg #[.string ⟨#[]⟩, .string ⟨#[]⟩, .string ⟨#[]⟩, .slice none 0 0, .slice none 0 0, .string ⟨#[]⟩, .slice none 0 0, .slice none 0 0, .string ⟨#[]⟩, .int .i64 0, .int .i64 0, .string ⟨#[]⟩, .string ⟨#[]⟩, .slice none 0 0, .slice none 0 0, .slice none 0 0, .string ⟨#[]⟩, .int .i64 0, .int .i64 0, .string ⟨#[]⟩, .string ⟨#[]⟩, .slice none 0 0, .string ⟨#[]⟩]) ∧ Below w.heap.size w w' := by
  go_enter Tryz.func148, Tryz.ntmps148
  go_upto_region 22 with (fail)
  refine wp_gen (Bx2 w) (Bx2.start w) fun w1 h1 => ?_
  have H1 := Lib.hid h1
  clear h1
  have b1 := H1.out.a
  have b2 := H1.out.b
  go_wp2_with (first
    | (refine wpList_load_row rfl 34 (.tmp 1) rfl w.heap.size rfl 34 #[.string ⟨#[]⟩, .string ⟨#[]⟩, .string ⟨#[]⟩, .slice none 0 0, .slice none 0 0, .string ⟨#[]⟩, .slice none 0 0, .slice none 0 0, .string ⟨#[]⟩, .int .i64 0, .int .i64 0, .string ⟨#[]⟩, .string ⟨#[]⟩, .slice none 0 0, .slice none 0 0, .slice none 0 0, .string ⟨#[]⟩, .int .i64 0, .int .i64 0, .string ⟨#[]⟩, .string ⟨#[]⟩, .slice none 0 0, .string ⟨#[]⟩] (0, 0) _ b1 Tryz.underlying34 rfl stSize ?_)
    | (refine wpList_store_row rfl 34 (.tmp 2) (.tmp 48) rfl (w.heap.size + 1) #[.string ⟨#[]⟩, .string ⟨#[]⟩, .string ⟨#[]⟩, .slice none 0 0, .slice none 0 0, .string ⟨#[]⟩, .slice none 0 0, .slice none 0 0, .string ⟨#[]⟩, .int .i64 0, .int .i64 0, .string ⟨#[]⟩, .string ⟨#[]⟩, .slice none 0 0, .slice none 0 0, .slice none 0 0, .string ⟨#[]⟩, .int .i64 0, .int .i64 0, .string ⟨#[]⟩, .string ⟨#[]⟩, .slice none 0 0, .string ⟨#[]⟩] rfl rfl 34 _ b2 stSize rfl (rt_one _ _ _) ?_))
  refine bodyPost_ret (results_cell_row rfl _ _ (w.heap.size + 1) 34 #[.string ⟨#[]⟩, .string ⟨#[]⟩, .string ⟨#[]⟩, .slice none 0 0, .slice none 0 0, .string ⟨#[]⟩, .slice none 0 0, .slice none 0 0, .string ⟨#[]⟩, .int .i64 0, .int .i64 0, .string ⟨#[]⟩, .string ⟨#[]⟩, .slice none 0 0, .slice none 0 0, .slice none 0 0, .string ⟨#[]⟩, .int .i64 0, .int .i64 0, .string ⟨#[]⟩, .string ⟨#[]⟩, .slice none 0 0, .string ⟨#[]⟩] (0, 0) _ rfl (setRow_heap _ _ _ _ _ _ b2) Tryz.underlying34 rfl stSize) rfl ⟨rfl, below_row H1.out.lo _ (by omega)⟩
set_option maxRecDepth 100000 in
set_option maxHeartbeats 4000000 in
theorem rest_write (tb ro : ByteArray) (w : World) : Calls Tryz.prog 148 #[.agg #[.string ⟨#[119, 114, 105, 116, 101]⟩, .string tb, .string ⟨#[]⟩, .slice none 0 0, .slice none 0 0, .string ⟨#[]⟩, .slice none 0 0, .slice none 0 0, .string ⟨#[]⟩, .int .i64 0, .int .i64 0, .string ⟨#[]⟩, .string ⟨#[]⟩, .slice none 0 0, .slice none 0 0, .slice none 0 0, .string ⟨#[]⟩, .int .i64 0, .int .i64 0, .string ⟨#[]⟩, .string ⟨#[]⟩, .slice none 0 0, .string ro]] w fun e w' => e = .returned (.agg #[.string ⟨#[]⟩, .string ⟨#[]⟩, .string ⟨#[]⟩, .slice none 0 0, .slice none 0 0, .string ⟨#[]⟩, .slice none 0 0, .slice none 0 0, .string ⟨#[]⟩, .int .i64 0, .int .i64 0, .string ⟨#[]⟩, .string ⟨#[]⟩, .slice none 0 0, .slice none 0 0, .slice none 0 0, .string ⟨#[]⟩, .int .i64 0, .int .i64 0, .string ⟨#[]⟩, .string ⟨#[]⟩, .slice none 0 0, .string ⟨#[]⟩]) ∧ Below w.heap.size w w' := by
  go_enter Tryz.func148, Tryz.ntmps148
  go_upto_region 22 with (fail)
  refine wp_gen (Bx2 w) (Bx2.start w) fun w1 h1 => ?_
  have H1 := Lib.hid h1
  clear h1
  have b1 := H1.out.a
  have b2 := H1.out.b
  go_wp2_with (first
    | (refine wpList_load_row rfl 34 (.tmp 1) rfl w.heap.size rfl 34 #[.string ⟨#[]⟩, .string ⟨#[]⟩, .string ⟨#[]⟩, .slice none 0 0, .slice none 0 0, .string ⟨#[]⟩, .slice none 0 0, .slice none 0 0, .string ⟨#[]⟩, .int .i64 0, .int .i64 0, .string ⟨#[]⟩, .string ⟨#[]⟩, .slice none 0 0, .slice none 0 0, .slice none 0 0, .string ⟨#[]⟩, .int .i64 0, .int .i64 0, .string ⟨#[]⟩, .string ⟨#[]⟩, .slice none 0 0, .string ⟨#[]⟩] (0, 0) _ b1 Tryz.underlying34 rfl stSize ?_)
    | (refine wpList_store_row rfl 34 (.tmp 2) (.tmp 48) rfl (w.heap.size + 1) #[.string ⟨#[]⟩, .string ⟨#[]⟩, .string ⟨#[]⟩, .slice none 0 0, .slice none 0 0, .string ⟨#[]⟩, .slice none 0 0, .slice none 0 0, .string ⟨#[]⟩, .int .i64 0, .int .i64 0, .string ⟨#[]⟩, .string ⟨#[]⟩, .slice none 0 0, .slice none 0 0, .slice none 0 0, .string ⟨#[]⟩, .int .i64 0, .int .i64 0, .string ⟨#[]⟩, .string ⟨#[]⟩, .slice none 0 0, .string ⟨#[]⟩] rfl rfl 34 _ b2 stSize rfl (rt_one _ _ _) ?_))
  refine bodyPost_ret (results_cell_row rfl _ _ (w.heap.size + 1) 34 #[.string ⟨#[]⟩, .string ⟨#[]⟩, .string ⟨#[]⟩, .slice none 0 0, .slice none 0 0, .string ⟨#[]⟩, .slice none 0 0, .slice none 0 0, .string ⟨#[]⟩, .int .i64 0, .int .i64 0, .string ⟨#[]⟩, .string ⟨#[]⟩, .slice none 0 0, .slice none 0 0, .slice none 0 0, .string ⟨#[]⟩, .int .i64 0, .int .i64 0, .string ⟨#[]⟩, .string ⟨#[]⟩, .slice none 0 0, .string ⟨#[]⟩] (0, 0) _ rfl (setRow_heap _ _ _ _ _ _ b2) Tryz.underlying34 rfl stSize) rfl ⟨rfl, below_row H1.out.lo _ (by omega)⟩
set_option maxRecDepth 100000 in
set_option maxHeartbeats 4000000 in
theorem rest_unread (tb ro : ByteArray) (w : World) : Calls Tryz.prog 148 #[.agg #[.string ⟨#[117, 110, 114, 101, 97, 100]⟩, .string tb, .string ⟨#[]⟩, .slice none 0 0, .slice none 0 0, .string ⟨#[]⟩, .slice none 0 0, .slice none 0 0, .string ⟨#[]⟩, .int .i64 0, .int .i64 0, .string ⟨#[]⟩, .string ⟨#[]⟩, .slice none 0 0, .slice none 0 0, .slice none 0 0, .string ⟨#[]⟩, .int .i64 0, .int .i64 0, .string ⟨#[]⟩, .string ⟨#[]⟩, .slice none 0 0, .string ro]] w fun e w' => e = .returned (.agg #[.string ⟨#[]⟩, .string ⟨#[]⟩, .string ⟨#[]⟩, .slice none 0 0, .slice none 0 0, .string ⟨#[]⟩, .slice none 0 0, .slice none 0 0, .string ⟨#[]⟩, .int .i64 0, .int .i64 0, .string ⟨#[]⟩, .string ⟨#[]⟩, .slice none 0 0, .slice none 0 0, .slice none 0 0, .string ⟨#[]⟩, .int .i64 0, .int .i64 0, .string ⟨#[]⟩, .string ⟨#[]⟩, .slice none 0 0, .string ⟨#[]⟩]) ∧ Below w.heap.size w w' := by
  go_enter Tryz.func148, Tryz.ntmps148
  go_upto_region 22 with (fail)
  refine wp_gen (Bx2 w) (Bx2.start w) fun w1 h1 => ?_
  have H1 := Lib.hid h1
  clear h1
  have b1 := H1.out.a
  have b2 := H1.out.b
  go_wp2_with (first
    | (refine wpList_load_row rfl 34 (.tmp 1) rfl w.heap.size rfl 34 #[.string ⟨#[]⟩, .string ⟨#[]⟩, .string ⟨#[]⟩, .slice none 0 0, .slice none 0 0, .string ⟨#[]⟩, .slice none 0 0, .slice none 0 0, .string ⟨#[]⟩, .int .i64 0, .int .i64 0, .string ⟨#[]⟩, .string ⟨#[]⟩, .slice none 0 0, .slice none 0 0, .slice none 0 0, .string ⟨#[]⟩, .int .i64 0, .int .i64 0, .string ⟨#[]⟩, .string ⟨#[]⟩, .slice none 0 0, .string ⟨#[]⟩] (0, 0) _ b1 Tryz.underlying34 rfl stSize ?_)
    | (refine wpList_store_row rfl 34 (.tmp 2) (.tmp 48) rfl (w.heap.size + 1) #[.string ⟨#[]⟩, .string ⟨#[]⟩, .string ⟨#[]⟩, .slice none 0 0, .slice none 0 0, .string ⟨#[]⟩, .slice none 0 0, .slice none 0 0, .string ⟨#[]⟩, .int .i64 0, .int .i64 0, .string ⟨#[]⟩, .string ⟨#[]⟩, .slice none 0 0, .slice none 0 0, .slice none 0 0, .string ⟨#[]⟩, .int .i64 0, .int .i64 0, .string ⟨#[]⟩, .string ⟨#[]⟩, .slice none 0 0, .string ⟨#[]⟩] rfl rfl 34 _ b2 stSize rfl (rt_one _ _ _) ?_))
  refine bodyPost_ret (results_cell_row rfl _ _ (w.heap.size + 1) 34 #[.string ⟨#[]⟩, .string ⟨#[]⟩, .string ⟨#[]⟩, .slice none 0 0, .slice none 0 0, .string ⟨#[]⟩, .slice none 0 0, .slice none 0 0, .string ⟨#[]⟩, .int .i64 0, .int .i64 0, .string ⟨#[]⟩, .string ⟨#[]⟩, .slice none 0 0, .slice none 0 0, .slice none 0 0, .string ⟨#[]⟩, .int .i64 0, .int .i64 0, .string ⟨#[]⟩, .string ⟨#[]⟩, .slice none 0 0, .string ⟨#[]⟩] (0, 0) _ rfl (setRow_heap _ _ _ _ _ _ b2) Tryz.underlying34 rfl stSize) rfl ⟨rfl, below_row H1.out.lo _ (by omega)⟩
set_option maxRecDepth 100000 in
set_option maxHeartbeats 4000000 in
theorem rest_unwrite (tb ro : ByteArray) (w : World) : Calls Tryz.prog 148 #[.agg #[.string ⟨#[117, 110, 119, 114, 105, 116, 101]⟩, .string tb, .string ⟨#[]⟩, .slice none 0 0, .slice none 0 0, .string ⟨#[]⟩, .slice none 0 0, .slice none 0 0, .string ⟨#[]⟩, .int .i64 0, .int .i64 0, .string ⟨#[]⟩, .string ⟨#[]⟩, .slice none 0 0, .slice none 0 0, .slice none 0 0, .string ⟨#[]⟩, .int .i64 0, .int .i64 0, .string ⟨#[]⟩, .string ⟨#[]⟩, .slice none 0 0, .string ro]] w fun e w' => e = .returned (.agg #[.string ⟨#[]⟩, .string ⟨#[]⟩, .string ⟨#[]⟩, .slice none 0 0, .slice none 0 0, .string ⟨#[]⟩, .slice none 0 0, .slice none 0 0, .string ⟨#[]⟩, .int .i64 0, .int .i64 0, .string ⟨#[]⟩, .string ⟨#[]⟩, .slice none 0 0, .slice none 0 0, .slice none 0 0, .string ⟨#[]⟩, .int .i64 0, .int .i64 0, .string ⟨#[]⟩, .string ⟨#[]⟩, .slice none 0 0, .string ⟨#[]⟩]) ∧ Below w.heap.size w w' := by
  go_enter Tryz.func148, Tryz.ntmps148
  go_upto_region 22 with (fail)
  refine wp_gen (Bx2 w) (Bx2.start w) fun w1 h1 => ?_
  have H1 := Lib.hid h1
  clear h1
  have b1 := H1.out.a
  have b2 := H1.out.b
  go_wp2_with (first
    | (refine wpList_load_row rfl 34 (.tmp 1) rfl w.heap.size rfl 34 #[.string ⟨#[]⟩, .string ⟨#[]⟩, .string ⟨#[]⟩, .slice none 0 0, .slice none 0 0, .string ⟨#[]⟩, .slice none 0 0, .slice none 0 0, .string ⟨#[]⟩, .int .i64 0, .int .i64 0, .string ⟨#[]⟩, .string ⟨#[]⟩, .slice none 0 0, .slice none 0 0, .slice none 0 0, .string ⟨#[]⟩, .int .i64 0, .int .i64 0, .string ⟨#[]⟩, .string ⟨#[]⟩, .slice none 0 0, .string ⟨#[]⟩] (0, 0) _ b1 Tryz.underlying34 rfl stSize ?_)
    | (refine wpList_store_row rfl 34 (.tmp 2) (.tmp 48) rfl (w.heap.size + 1) #[.string ⟨#[]⟩, .string ⟨#[]⟩, .string ⟨#[]⟩, .slice none 0 0, .slice none 0 0, .string ⟨#[]⟩, .slice none 0 0, .slice none 0 0, .string ⟨#[]⟩, .int .i64 0, .int .i64 0, .string ⟨#[]⟩, .string ⟨#[]⟩, .slice none 0 0, .slice none 0 0, .slice none 0 0, .string ⟨#[]⟩, .int .i64 0, .int .i64 0, .string ⟨#[]⟩, .string ⟨#[]⟩, .slice none 0 0, .string ⟨#[]⟩] rfl rfl 34 _ b2 stSize rfl (rt_one _ _ _) ?_))
  refine bodyPost_ret (results_cell_row rfl _ _ (w.heap.size + 1) 34 #[.string ⟨#[]⟩, .string ⟨#[]⟩, .string ⟨#[]⟩, .slice none 0 0, .slice none 0 0, .string ⟨#[]⟩, .slice none 0 0, .slice none 0 0, .string ⟨#[]⟩, .int .i64 0, .int .i64 0, .string ⟨#[]⟩, .string ⟨#[]⟩, .slice none 0 0, .slice none 0 0, .slice none 0 0, .string ⟨#[]⟩, .int .i64 0, .int .i64 0, .string ⟨#[]⟩, .string ⟨#[]⟩, .slice none 0 0, .string ⟨#[]⟩] (0, 0) _ rfl (setRow_heap _ _ _ _ _ _ b2) Tryz.underlying34 rfl stSize) rfl ⟨rfl, below_row H1.out.lo _ (by omega)⟩
set_option maxRecDepth 100000 in
set_option maxHeartbeats 4000000 in
theorem formed_read (tb ro : ByteArray) (w : World) (h1 : tb.size ≤ 1000) (h2 : ro.size ≤ 1000) (x y : Bool) (hx : nmB tb = x) (hy : nmB ro = y) : Calls Tryz.prog 102 #[.agg #[.string ⟨#[114, 101, 97, 100]⟩, .string tb, .string ⟨#[]⟩, .slice none 0 0, .slice none 0 0, .string ⟨#[]⟩, .slice none 0 0, .slice none 0 0, .string ⟨#[]⟩, .int .i64 0, .int .i64 0, .string ⟨#[]⟩, .string ⟨#[]⟩, .slice none 0 0, .slice none 0 0, .slice none 0 0, .string ⟨#[]⟩, .int .i64 0, .int .i64 0, .string ⟨#[]⟩, .string ⟨#[]⟩, .slice none 0 0, .string ro]] w fun e w' => e = .returned (.bool (x && y)) ∧ Below w.heap.size w w' := by
  have HX := Lib.hid hx
  have HY := Lib.hid hy
  clear hx hy
  have H0 : Hid (Below w.heap.size w (w.alloc (.cells #[.string ⟨#[114, 101, 97, 100]⟩, .string tb, .string ⟨#[]⟩, .slice none 0 0, .slice none 0 0, .string ⟨#[]⟩, .slice none 0 0, .slice none 0 0, .string ⟨#[]⟩, .int .i64 0, .int .i64 0, .string ⟨#[]⟩, .string ⟨#[]⟩, .slice none 0 0, .slice none 0 0, .slice none 0 0, .string ⟨#[]⟩, .int .i64 0, .int .i64 0, .string ⟨#[]⟩, .string ⟨#[]⟩, .slice none 0 0, .string ro] 34)) ∧ (w.alloc (.cells #[.string ⟨#[114, 101, 97, 100]⟩, .string tb, .string ⟨#[]⟩, .slice none 0 0, .slice none 0 0, .string ⟨#[]⟩, .slice none 0 0, .slice none 0 0, .string ⟨#[]⟩, .int .i64 0, .int .i64 0, .string ⟨#[]⟩, .string ⟨#[]⟩, .slice none 0 0, .slice none 0 0, .slice none 0 0, .string ⟨#[]⟩, .int .i64 0, .int .i64 0, .string ⟨#[]⟩, .string ⟨#[]⟩, .slice none 0 0, .string ro] 34)).heap[w.heap.size]? = some (.cells #[.string ⟨#[114, 101, 97, 100]⟩, .string tb, .string ⟨#[]⟩, .slice none 0 0, .slice none 0 0, .string ⟨#[]⟩, .slice none 0 0, .slice none 0 0, .string ⟨#[]⟩, .int .i64 0, .int .i64 0, .string ⟨#[]⟩, .string ⟨#[]⟩, .slice none 0 0, .slice none 0 0, .slice none 0 0, .string ⟨#[]⟩, .int .i64 0, .int .i64 0, .string ⟨#[]⟩, .string ⟨#[]⟩, .slice none 0 0, .string ro] 34 (0, 0))) := ⟨(Below.refl _ _).alloc (Nat.le_refl _) _, alloc_at rfl _⟩
  have hbx := H0.out.2
  have STEP : Hid (∀ W W' : World, (Below w.heap.size w W ∧ W.heap[w.heap.size]? = some (.cells #[.string ⟨#[114, 101, 97, 100]⟩, .string tb, .string ⟨#[]⟩, .slice none 0 0, .slice none 0 0, .string ⟨#[]⟩, .slice none 0 0, .slice none 0 0, .string ⟨#[]⟩, .int .i64 0, .int .i64 0, .string ⟨#[]⟩, .string ⟨#[]⟩, .slice none 0 0, .slice none 0 0, .slice none 0 0, .string ⟨#[]⟩, .int .i64 0, .int .i64 0, .string ⟨#[]⟩, .string ⟨#[]⟩, .slice none 0 0, .string ro] 34 (0, 0))) → Below W.heap.size W W' → (Below w.heap.size w W' ∧ W'.heap[w.heap.size]? = some (.cells #[.string ⟨#[114, 101, 97, 100]⟩, .string tb, .string ⟨#[]⟩, .slice none 0 0, .slice none 0 0, .string ⟨#[]⟩, .slice none 0 0, .slice none 0 0, .string ⟨#[]⟩, .int .i64 0, .int .i64 0, .string ⟨#[]⟩, .string ⟨#[]⟩, .slice none 0 0, .slice none 0 0, .slice none 0 0, .string ⟨#[]⟩, .int .i64 0, .int .i64 0, .string ⟨#[]⟩, .string ⟨#[]⟩, .slice none 0 0, .string ro] 34 (0, 0)))) := Lib.hid fun W W' h hb => ⟨h.1.trans (hb.mono h.1.size), (hb.block _ (lt_of_block h.2)).trans h.2⟩
  cases x with
  | false =>
    go_enter Tryz.func102, Tryz.ntmps102
    go_wp2_with (first
      | (go_at_call 137; (with_reducible refine (named_any tb _ (by omega)).mono ?_); rintro e w1 ⟨rfl, hb1⟩; rw [HX.out]; have H0 := Lib.hid (STEP.out _ _ H0.out hb1); have hbx := H0.out.2; clear hb1)
      | (go_at_call 146; (with_reducible refine (filled_read tb ro _ h2).mono ?_); rintro e w1 ⟨rfl, hb1⟩; rw [HY.out]; have H0 := Lib.hid (STEP.out _ _ H0.out hb1); have hbx := H0.out.2; clear hb1)
      | (go_at_call 148; (with_reducible refine (rest_read tb ro _).mono ?_); rintro e w1 ⟨rfl, hb1⟩; have H0 := Lib.hid (STEP.out _ _ H0.out hb1); have hbx := H0.out.2; clear hb1)
      | (go_at_call 147; (with_reducible refine (ssame_nil _).mono ?_); rintro e w1 ⟨rfl, hb1⟩; have H0 := Lib.hid (STEP.out _ _ H0.out hb1); have hbx := H0.out.2; clear hb1)
      | (refine wpList_load_row_on rfl 34 (.tmp 1) rfl w.heap.size rfl 34 #[.string ⟨#[114, 101, 97, 100]⟩, .string tb, .string ⟨#[]⟩, .slice none 0 0, .slice none 0 0, .string ⟨#[]⟩, .slice none 0 0, .slice none 0 0, .string ⟨#[]⟩, .int .i64 0, .int .i64 0, .string ⟨#[]⟩, .string ⟨#[]⟩, .slice none 0 0, .slice none 0 0, .slice none 0 0, .string ⟨#[]⟩, .int .i64 0, .int .i64 0, .string ⟨#[]⟩, .string ⟨#[]⟩, .slice none 0 0, .string ro] (0, 0) _ hbx Tryz.underlying34 rfl stSize ?_)
      | (refine wpList_buildTo_on rfl 34 _ rfl _ rfl #[.string ⟨#[]⟩, .string ⟨#[]⟩, .string ⟨#[]⟩, .slice none 0 0, .slice none 0 0, .string ⟨#[]⟩, .slice none 0 0, .slice none 0 0, .string ⟨#[]⟩, .int .i64 0, .int .i64 0, .string ⟨#[]⟩, .string ⟨#[]⟩, .slice none 0 0, .slice none 0 0, .slice none 0 0, .string ⟨#[]⟩, .int .i64 0, .int .i64 0, .string ⟨#[]⟩, .string ⟨#[]⟩, .slice none 0 0, .string ⟨#[]⟩] (by as_aux_lemma => kernel_rfl) ?_))
    go_ret
    exact ⟨rfl, H0.out.1⟩
  | true =>
    cases y with
    | false =>
      go_enter Tryz.func102, Tryz.ntmps102
      go_wp2_with (first
      | (go_at_call 137; (with_reducible refine (named_any tb _ (by omega)).mono ?_); rintro e w1 ⟨rfl, hb1⟩; rw [HX.out]; have H0 := Lib.hid (STEP.out _ _ H0.out hb1); have hbx := H0.out.2; clear hb1)
      | (go_at_call 146; (with_reducible refine (filled_read tb ro _ h2).mono ?_); rintro e w1 ⟨rfl, hb1⟩; rw [HY.out]; have H0 := Lib.hid (STEP.out _ _ H0.out hb1); have hbx := H0.out.2; clear hb1)
      | (go_at_call 148; (with_reducible refine (rest_read tb ro _).mono ?_); rintro e w1 ⟨rfl, hb1⟩; have H0 := Lib.hid (STEP.out _ _ H0.out hb1); have hbx := H0.out.2; clear hb1)
      | (go_at_call 147; (with_reducible refine (ssame_nil _).mono ?_); rintro e w1 ⟨rfl, hb1⟩; have H0 := Lib.hid (STEP.out _ _ H0.out hb1); have hbx := H0.out.2; clear hb1)
      | (refine wpList_load_row_on rfl 34 (.tmp 1) rfl w.heap.size rfl 34 #[.string ⟨#[114, 101, 97, 100]⟩, .string tb, .string ⟨#[]⟩, .slice none 0 0, .slice none 0 0, .string ⟨#[]⟩, .slice none 0 0, .slice none 0 0, .string ⟨#[]⟩, .int .i64 0, .int .i64 0, .string ⟨#[]⟩, .string ⟨#[]⟩, .slice none 0 0, .slice none 0 0, .slice none 0 0, .string ⟨#[]⟩, .int .i64 0, .int .i64 0, .string ⟨#[]⟩, .string ⟨#[]⟩, .slice none 0 0, .string ro] (0, 0) _ hbx Tryz.underlying34 rfl stSize ?_)
      | (refine wpList_buildTo_on rfl 34 _ rfl _ rfl #[.string ⟨#[]⟩, .string ⟨#[]⟩, .string ⟨#[]⟩, .slice none 0 0, .slice none 0 0, .string ⟨#[]⟩, .slice none 0 0, .slice none 0 0, .string ⟨#[]⟩, .int .i64 0, .int .i64 0, .string ⟨#[]⟩, .string ⟨#[]⟩, .slice none 0 0, .slice none 0 0, .slice none 0 0, .string ⟨#[]⟩, .int .i64 0, .int .i64 0, .string ⟨#[]⟩, .string ⟨#[]⟩, .slice none 0 0, .string ⟨#[]⟩] (by as_aux_lemma => kernel_rfl) ?_))
      go_ret
      exact ⟨rfl, H0.out.1⟩
    | true =>
      go_enter Tryz.func102, Tryz.ntmps102
      go_wp2_with (first
      | (go_at_call 137; (with_reducible refine (named_any tb _ (by omega)).mono ?_); rintro e w1 ⟨rfl, hb1⟩; rw [HX.out]; have H0 := Lib.hid (STEP.out _ _ H0.out hb1); have hbx := H0.out.2; clear hb1)
      | (go_at_call 146; (with_reducible refine (filled_read tb ro _ h2).mono ?_); rintro e w1 ⟨rfl, hb1⟩; rw [HY.out]; have H0 := Lib.hid (STEP.out _ _ H0.out hb1); have hbx := H0.out.2; clear hb1)
      | (go_at_call 148; (with_reducible refine (rest_read tb ro _).mono ?_); rintro e w1 ⟨rfl, hb1⟩; have H0 := Lib.hid (STEP.out _ _ H0.out hb1); have hbx := H0.out.2; clear hb1)
      | (go_at_call 147; (with_reducible refine (ssame_nil _).mono ?_); rintro e w1 ⟨rfl, hb1⟩; have H0 := Lib.hid (STEP.out _ _ H0.out hb1); have hbx := H0.out.2; clear hb1)
      | (refine wpList_load_row_on rfl 34 (.tmp 1) rfl w.heap.size rfl 34 #[.string ⟨#[114, 101, 97, 100]⟩, .string tb, .string ⟨#[]⟩, .slice none 0 0, .slice none 0 0, .string ⟨#[]⟩, .slice none 0 0, .slice none 0 0, .string ⟨#[]⟩, .int .i64 0, .int .i64 0, .string ⟨#[]⟩, .string ⟨#[]⟩, .slice none 0 0, .slice none 0 0, .slice none 0 0, .string ⟨#[]⟩, .int .i64 0, .int .i64 0, .string ⟨#[]⟩, .string ⟨#[]⟩, .slice none 0 0, .string ro] (0, 0) _ hbx Tryz.underlying34 rfl stSize ?_)
      | (refine wpList_buildTo_on rfl 34 _ rfl _ rfl #[.string ⟨#[]⟩, .string ⟨#[]⟩, .string ⟨#[]⟩, .slice none 0 0, .slice none 0 0, .string ⟨#[]⟩, .slice none 0 0, .slice none 0 0, .string ⟨#[]⟩, .int .i64 0, .int .i64 0, .string ⟨#[]⟩, .string ⟨#[]⟩, .slice none 0 0, .slice none 0 0, .slice none 0 0, .string ⟨#[]⟩, .int .i64 0, .int .i64 0, .string ⟨#[]⟩, .string ⟨#[]⟩, .slice none 0 0, .string ⟨#[]⟩] (by as_aux_lemma => kernel_rfl) ?_))
      go_ret
      exact ⟨rfl, H0.out.1⟩
set_option maxRecDepth 100000 in
set_option maxHeartbeats 4000000 in
theorem formed_write (tb ro : ByteArray) (w : World) (h1 : tb.size ≤ 1000) (h2 : ro.size ≤ 1000) (x y : Bool) (hx : nmB tb = x) (hy : nmB ro = y) : Calls Tryz.prog 102 #[.agg #[.string ⟨#[119, 114, 105, 116, 101]⟩, .string tb, .string ⟨#[]⟩, .slice none 0 0, .slice none 0 0, .string ⟨#[]⟩, .slice none 0 0, .slice none 0 0, .string ⟨#[]⟩, .int .i64 0, .int .i64 0, .string ⟨#[]⟩, .string ⟨#[]⟩, .slice none 0 0, .slice none 0 0, .slice none 0 0, .string ⟨#[]⟩, .int .i64 0, .int .i64 0, .string ⟨#[]⟩, .string ⟨#[]⟩, .slice none 0 0, .string ro]] w fun e w' => e = .returned (.bool (x && y)) ∧ Below w.heap.size w w' := by
  have HX := Lib.hid hx
  have HY := Lib.hid hy
  clear hx hy
  have H0 : Hid (Below w.heap.size w (w.alloc (.cells #[.string ⟨#[119, 114, 105, 116, 101]⟩, .string tb, .string ⟨#[]⟩, .slice none 0 0, .slice none 0 0, .string ⟨#[]⟩, .slice none 0 0, .slice none 0 0, .string ⟨#[]⟩, .int .i64 0, .int .i64 0, .string ⟨#[]⟩, .string ⟨#[]⟩, .slice none 0 0, .slice none 0 0, .slice none 0 0, .string ⟨#[]⟩, .int .i64 0, .int .i64 0, .string ⟨#[]⟩, .string ⟨#[]⟩, .slice none 0 0, .string ro] 34)) ∧ (w.alloc (.cells #[.string ⟨#[119, 114, 105, 116, 101]⟩, .string tb, .string ⟨#[]⟩, .slice none 0 0, .slice none 0 0, .string ⟨#[]⟩, .slice none 0 0, .slice none 0 0, .string ⟨#[]⟩, .int .i64 0, .int .i64 0, .string ⟨#[]⟩, .string ⟨#[]⟩, .slice none 0 0, .slice none 0 0, .slice none 0 0, .string ⟨#[]⟩, .int .i64 0, .int .i64 0, .string ⟨#[]⟩, .string ⟨#[]⟩, .slice none 0 0, .string ro] 34)).heap[w.heap.size]? = some (.cells #[.string ⟨#[119, 114, 105, 116, 101]⟩, .string tb, .string ⟨#[]⟩, .slice none 0 0, .slice none 0 0, .string ⟨#[]⟩, .slice none 0 0, .slice none 0 0, .string ⟨#[]⟩, .int .i64 0, .int .i64 0, .string ⟨#[]⟩, .string ⟨#[]⟩, .slice none 0 0, .slice none 0 0, .slice none 0 0, .string ⟨#[]⟩, .int .i64 0, .int .i64 0, .string ⟨#[]⟩, .string ⟨#[]⟩, .slice none 0 0, .string ro] 34 (0, 0))) := ⟨(Below.refl _ _).alloc (Nat.le_refl _) _, alloc_at rfl _⟩
  have hbx := H0.out.2
  have STEP : Hid (∀ W W' : World, (Below w.heap.size w W ∧ W.heap[w.heap.size]? = some (.cells #[.string ⟨#[119, 114, 105, 116, 101]⟩, .string tb, .string ⟨#[]⟩, .slice none 0 0, .slice none 0 0, .string ⟨#[]⟩, .slice none 0 0, .slice none 0 0, .string ⟨#[]⟩, .int .i64 0, .int .i64 0, .string ⟨#[]⟩, .string ⟨#[]⟩, .slice none 0 0, .slice none 0 0, .slice none 0 0, .string ⟨#[]⟩, .int .i64 0, .int .i64 0, .string ⟨#[]⟩, .string ⟨#[]⟩, .slice none 0 0, .string ro] 34 (0, 0))) → Below W.heap.size W W' → (Below w.heap.size w W' ∧ W'.heap[w.heap.size]? = some (.cells #[.string ⟨#[119, 114, 105, 116, 101]⟩, .string tb, .string ⟨#[]⟩, .slice none 0 0, .slice none 0 0, .string ⟨#[]⟩, .slice none 0 0, .slice none 0 0, .string ⟨#[]⟩, .int .i64 0, .int .i64 0, .string ⟨#[]⟩, .string ⟨#[]⟩, .slice none 0 0, .slice none 0 0, .slice none 0 0, .string ⟨#[]⟩, .int .i64 0, .int .i64 0, .string ⟨#[]⟩, .string ⟨#[]⟩, .slice none 0 0, .string ro] 34 (0, 0)))) := Lib.hid fun W W' h hb => ⟨h.1.trans (hb.mono h.1.size), (hb.block _ (lt_of_block h.2)).trans h.2⟩
  cases x with
  | false =>
    go_enter Tryz.func102, Tryz.ntmps102
    go_wp2_with (first
      | (go_at_call 137; (with_reducible refine (named_any tb _ (by omega)).mono ?_); rintro e w1 ⟨rfl, hb1⟩; rw [HX.out]; have H0 := Lib.hid (STEP.out _ _ H0.out hb1); have hbx := H0.out.2; clear hb1)
      | (go_at_call 146; (with_reducible refine (filled_write tb ro _ h2).mono ?_); rintro e w1 ⟨rfl, hb1⟩; rw [HY.out]; have H0 := Lib.hid (STEP.out _ _ H0.out hb1); have hbx := H0.out.2; clear hb1)
      | (go_at_call 148; (with_reducible refine (rest_write tb ro _).mono ?_); rintro e w1 ⟨rfl, hb1⟩; have H0 := Lib.hid (STEP.out _ _ H0.out hb1); have hbx := H0.out.2; clear hb1)
      | (go_at_call 147; (with_reducible refine (ssame_nil _).mono ?_); rintro e w1 ⟨rfl, hb1⟩; have H0 := Lib.hid (STEP.out _ _ H0.out hb1); have hbx := H0.out.2; clear hb1)
      | (refine wpList_load_row_on rfl 34 (.tmp 1) rfl w.heap.size rfl 34 #[.string ⟨#[119, 114, 105, 116, 101]⟩, .string tb, .string ⟨#[]⟩, .slice none 0 0, .slice none 0 0, .string ⟨#[]⟩, .slice none 0 0, .slice none 0 0, .string ⟨#[]⟩, .int .i64 0, .int .i64 0, .string ⟨#[]⟩, .string ⟨#[]⟩, .slice none 0 0, .slice none 0 0, .slice none 0 0, .string ⟨#[]⟩, .int .i64 0, .int .i64 0, .string ⟨#[]⟩, .string ⟨#[]⟩, .slice none 0 0, .string ro] (0, 0) _ hbx Tryz.underlying34 rfl stSize ?_)
      | (refine wpList_buildTo_on rfl 34 _ rfl _ rfl #[.string ⟨#[]⟩, .string ⟨#[]⟩, .string ⟨#[]⟩, .slice none 0 0, .slice none 0 0, .string ⟨#[]⟩, .slice none 0 0, .slice none 0 0, .string ⟨#[]⟩, .int .i64 0, .int .i64 0, .string ⟨#[]⟩, .string ⟨#[]⟩, .slice none 0 0, .slice none 0 0, .slice none 0 0, .string ⟨#[]⟩, .int .i64 0, .int .i64 0, .string ⟨#[]⟩, .string ⟨#[]⟩, .slice none 0 0, .string ⟨#[]⟩] (by as_aux_lemma => kernel_rfl) ?_))
    go_ret
    exact ⟨rfl, H0.out.1⟩
  | true =>
    cases y with
    | false =>
      go_enter Tryz.func102, Tryz.ntmps102
      go_wp2_with (first
      | (go_at_call 137; (with_reducible refine (named_any tb _ (by omega)).mono ?_); rintro e w1 ⟨rfl, hb1⟩; rw [HX.out]; have H0 := Lib.hid (STEP.out _ _ H0.out hb1); have hbx := H0.out.2; clear hb1)
      | (go_at_call 146; (with_reducible refine (filled_write tb ro _ h2).mono ?_); rintro e w1 ⟨rfl, hb1⟩; rw [HY.out]; have H0 := Lib.hid (STEP.out _ _ H0.out hb1); have hbx := H0.out.2; clear hb1)
      | (go_at_call 148; (with_reducible refine (rest_write tb ro _).mono ?_); rintro e w1 ⟨rfl, hb1⟩; have H0 := Lib.hid (STEP.out _ _ H0.out hb1); have hbx := H0.out.2; clear hb1)
      | (go_at_call 147; (with_reducible refine (ssame_nil _).mono ?_); rintro e w1 ⟨rfl, hb1⟩; have H0 := Lib.hid (STEP.out _ _ H0.out hb1); have hbx := H0.out.2; clear hb1)
      | (refine wpList_load_row_on rfl 34 (.tmp 1) rfl w.heap.size rfl 34 #[.string ⟨#[119, 114, 105, 116, 101]⟩, .string tb, .string ⟨#[]⟩, .slice none 0 0, .slice none 0 0, .string ⟨#[]⟩, .slice none 0 0, .slice none 0 0, .string ⟨#[]⟩, .int .i64 0, .int .i64 0, .string ⟨#[]⟩, .string ⟨#[]⟩, .slice none 0 0, .slice none 0 0, .slice none 0 0, .string ⟨#[]⟩, .int .i64 0, .int .i64 0, .string ⟨#[]⟩, .string ⟨#[]⟩, .slice none 0 0, .string ro] (0, 0) _ hbx Tryz.underlying34 rfl stSize ?_)
      | (refine wpList_buildTo_on rfl 34 _ rfl _ rfl #[.string ⟨#[]⟩, .string ⟨#[]⟩, .string ⟨#[]⟩, .slice none 0 0, .slice none 0 0, .string ⟨#[]⟩, .slice none 0 0, .slice none 0 0, .string ⟨#[]⟩, .int .i64 0, .int .i64 0, .string ⟨#[]⟩, .string ⟨#[]⟩, .slice none 0 0, .slice none 0 0, .slice none 0 0, .string ⟨#[]⟩, .int .i64 0, .int .i64 0, .string ⟨#[]⟩, .string ⟨#[]⟩, .slice none 0 0, .string ⟨#[]⟩] (by as_aux_lemma => kernel_rfl) ?_))
      go_ret
      exact ⟨rfl, H0.out.1⟩
    | true =>
      go_enter Tryz.func102, Tryz.ntmps102
      go_wp2_with (first
      | (go_at_call 137; (with_reducible refine (named_any tb _ (by omega)).mono ?_); rintro e w1 ⟨rfl, hb1⟩; rw [HX.out]; have H0 := Lib.hid (STEP.out _ _ H0.out hb1); have hbx := H0.out.2; clear hb1)
      | (go_at_call 146; (with_reducible refine (filled_write tb ro _ h2).mono ?_); rintro e w1 ⟨rfl, hb1⟩; rw [HY.out]; have H0 := Lib.hid (STEP.out _ _ H0.out hb1); have hbx := H0.out.2; clear hb1)
      | (go_at_call 148; (with_reducible refine (rest_write tb ro _).mono ?_); rintro e w1 ⟨rfl, hb1⟩; have H0 := Lib.hid (STEP.out _ _ H0.out hb1); have hbx := H0.out.2; clear hb1)
      | (go_at_call 147; (with_reducible refine (ssame_nil _).mono ?_); rintro e w1 ⟨rfl, hb1⟩; have H0 := Lib.hid (STEP.out _ _ H0.out hb1); have hbx := H0.out.2; clear hb1)
      | (refine wpList_load_row_on rfl 34 (.tmp 1) rfl w.heap.size rfl 34 #[.string ⟨#[119, 114, 105, 116, 101]⟩, .string tb, .string ⟨#[]⟩, .slice none 0 0, .slice none 0 0, .string ⟨#[]⟩, .slice none 0 0, .slice none 0 0, .string ⟨#[]⟩, .int .i64 0, .int .i64 0, .string ⟨#[]⟩, .string ⟨#[]⟩, .slice none 0 0, .slice none 0 0, .slice none 0 0, .string ⟨#[]⟩, .int .i64 0, .int .i64 0, .string ⟨#[]⟩, .string ⟨#[]⟩, .slice none 0 0, .string ro] (0, 0) _ hbx Tryz.underlying34 rfl stSize ?_)
      | (refine wpList_buildTo_on rfl 34 _ rfl _ rfl #[.string ⟨#[]⟩, .string ⟨#[]⟩, .string ⟨#[]⟩, .slice none 0 0, .slice none 0 0, .string ⟨#[]⟩, .slice none 0 0, .slice none 0 0, .string ⟨#[]⟩, .int .i64 0, .int .i64 0, .string ⟨#[]⟩, .string ⟨#[]⟩, .slice none 0 0, .slice none 0 0, .slice none 0 0, .string ⟨#[]⟩, .int .i64 0, .int .i64 0, .string ⟨#[]⟩, .string ⟨#[]⟩, .slice none 0 0, .string ⟨#[]⟩] (by as_aux_lemma => kernel_rfl) ?_))
      go_ret
      exact ⟨rfl, H0.out.1⟩
set_option maxRecDepth 100000 in
set_option maxHeartbeats 4000000 in
theorem formed_unread (tb ro : ByteArray) (w : World) (h1 : tb.size ≤ 1000) (h2 : ro.size ≤ 1000) (x y : Bool) (hx : nmB tb = x) (hy : nmB ro = y) : Calls Tryz.prog 102 #[.agg #[.string ⟨#[117, 110, 114, 101, 97, 100]⟩, .string tb, .string ⟨#[]⟩, .slice none 0 0, .slice none 0 0, .string ⟨#[]⟩, .slice none 0 0, .slice none 0 0, .string ⟨#[]⟩, .int .i64 0, .int .i64 0, .string ⟨#[]⟩, .string ⟨#[]⟩, .slice none 0 0, .slice none 0 0, .slice none 0 0, .string ⟨#[]⟩, .int .i64 0, .int .i64 0, .string ⟨#[]⟩, .string ⟨#[]⟩, .slice none 0 0, .string ro]] w fun e w' => e = .returned (.bool (x && y)) ∧ Below w.heap.size w w' := by
  have HX := Lib.hid hx
  have HY := Lib.hid hy
  clear hx hy
  have H0 : Hid (Below w.heap.size w (w.alloc (.cells #[.string ⟨#[117, 110, 114, 101, 97, 100]⟩, .string tb, .string ⟨#[]⟩, .slice none 0 0, .slice none 0 0, .string ⟨#[]⟩, .slice none 0 0, .slice none 0 0, .string ⟨#[]⟩, .int .i64 0, .int .i64 0, .string ⟨#[]⟩, .string ⟨#[]⟩, .slice none 0 0, .slice none 0 0, .slice none 0 0, .string ⟨#[]⟩, .int .i64 0, .int .i64 0, .string ⟨#[]⟩, .string ⟨#[]⟩, .slice none 0 0, .string ro] 34)) ∧ (w.alloc (.cells #[.string ⟨#[117, 110, 114, 101, 97, 100]⟩, .string tb, .string ⟨#[]⟩, .slice none 0 0, .slice none 0 0, .string ⟨#[]⟩, .slice none 0 0, .slice none 0 0, .string ⟨#[]⟩, .int .i64 0, .int .i64 0, .string ⟨#[]⟩, .string ⟨#[]⟩, .slice none 0 0, .slice none 0 0, .slice none 0 0, .string ⟨#[]⟩, .int .i64 0, .int .i64 0, .string ⟨#[]⟩, .string ⟨#[]⟩, .slice none 0 0, .string ro] 34)).heap[w.heap.size]? = some (.cells #[.string ⟨#[117, 110, 114, 101, 97, 100]⟩, .string tb, .string ⟨#[]⟩, .slice none 0 0, .slice none 0 0, .string ⟨#[]⟩, .slice none 0 0, .slice none 0 0, .string ⟨#[]⟩, .int .i64 0, .int .i64 0, .string ⟨#[]⟩, .string ⟨#[]⟩, .slice none 0 0, .slice none 0 0, .slice none 0 0, .string ⟨#[]⟩, .int .i64 0, .int .i64 0, .string ⟨#[]⟩, .string ⟨#[]⟩, .slice none 0 0, .string ro] 34 (0, 0))) := ⟨(Below.refl _ _).alloc (Nat.le_refl _) _, alloc_at rfl _⟩
  have hbx := H0.out.2
  have STEP : Hid (∀ W W' : World, (Below w.heap.size w W ∧ W.heap[w.heap.size]? = some (.cells #[.string ⟨#[117, 110, 114, 101, 97, 100]⟩, .string tb, .string ⟨#[]⟩, .slice none 0 0, .slice none 0 0, .string ⟨#[]⟩, .slice none 0 0, .slice none 0 0, .string ⟨#[]⟩, .int .i64 0, .int .i64 0, .string ⟨#[]⟩, .string ⟨#[]⟩, .slice none 0 0, .slice none 0 0, .slice none 0 0, .string ⟨#[]⟩, .int .i64 0, .int .i64 0, .string ⟨#[]⟩, .string ⟨#[]⟩, .slice none 0 0, .string ro] 34 (0, 0))) → Below W.heap.size W W' → (Below w.heap.size w W' ∧ W'.heap[w.heap.size]? = some (.cells #[.string ⟨#[117, 110, 114, 101, 97, 100]⟩, .string tb, .string ⟨#[]⟩, .slice none 0 0, .slice none 0 0, .string ⟨#[]⟩, .slice none 0 0, .slice none 0 0, .string ⟨#[]⟩, .int .i64 0, .int .i64 0, .string ⟨#[]⟩, .string ⟨#[]⟩, .slice none 0 0, .slice none 0 0, .slice none 0 0, .string ⟨#[]⟩, .int .i64 0, .int .i64 0, .string ⟨#[]⟩, .string ⟨#[]⟩, .slice none 0 0, .string ro] 34 (0, 0)))) := Lib.hid fun W W' h hb => ⟨h.1.trans (hb.mono h.1.size), (hb.block _ (lt_of_block h.2)).trans h.2⟩
  cases x with
  | false =>
    go_enter Tryz.func102, Tryz.ntmps102
    go_wp2_with (first
      | (go_at_call 137; (with_reducible refine (named_any tb _ (by omega)).mono ?_); rintro e w1 ⟨rfl, hb1⟩; rw [HX.out]; have H0 := Lib.hid (STEP.out _ _ H0.out hb1); have hbx := H0.out.2; clear hb1)
      | (go_at_call 146; (with_reducible refine (filled_unread tb ro _ h2).mono ?_); rintro e w1 ⟨rfl, hb1⟩; rw [HY.out]; have H0 := Lib.hid (STEP.out _ _ H0.out hb1); have hbx := H0.out.2; clear hb1)
      | (go_at_call 148; (with_reducible refine (rest_unread tb ro _).mono ?_); rintro e w1 ⟨rfl, hb1⟩; have H0 := Lib.hid (STEP.out _ _ H0.out hb1); have hbx := H0.out.2; clear hb1)
      | (go_at_call 147; (with_reducible refine (ssame_nil _).mono ?_); rintro e w1 ⟨rfl, hb1⟩; have H0 := Lib.hid (STEP.out _ _ H0.out hb1); have hbx := H0.out.2; clear hb1)
      | (refine wpList_load_row_on rfl 34 (.tmp 1) rfl w.heap.size rfl 34 #[.string ⟨#[117, 110, 114, 101, 97, 100]⟩, .string tb, .string ⟨#[]⟩, .slice none 0 0, .slice none 0 0, .string ⟨#[]⟩, .slice none 0 0, .slice none 0 0, .string ⟨#[]⟩, .int .i64 0, .int .i64 0, .string ⟨#[]⟩, .string ⟨#[]⟩, .slice none 0 0, .slice none 0 0, .slice none 0 0, .string ⟨#[]⟩, .int .i64 0, .int .i64 0, .string ⟨#[]⟩, .string ⟨#[]⟩, .slice none 0 0, .string ro] (0, 0) _ hbx Tryz.underlying34 rfl stSize ?_)
      | (refine wpList_buildTo_on rfl 34 _ rfl _ rfl #[.string ⟨#[]⟩, .string ⟨#[]⟩, .string ⟨#[]⟩, .slice none 0 0, .slice none 0 0, .string ⟨#[]⟩, .slice none 0 0, .slice none 0 0, .string ⟨#[]⟩, .int .i64 0, .int .i64 0, .string ⟨#[]⟩, .string ⟨#[]⟩, .slice none 0 0, .slice none 0 0, .slice none 0 0, .string ⟨#[]⟩, .int .i64 0, .int .i64 0, .string ⟨#[]⟩, .string ⟨#[]⟩, .slice none 0 0, .string ⟨#[]⟩] (by as_aux_lemma => kernel_rfl) ?_))
    go_ret
    exact ⟨rfl, H0.out.1⟩
  | true =>
    cases y with
    | false =>
      go_enter Tryz.func102, Tryz.ntmps102
      go_wp2_with (first
      | (go_at_call 137; (with_reducible refine (named_any tb _ (by omega)).mono ?_); rintro e w1 ⟨rfl, hb1⟩; rw [HX.out]; have H0 := Lib.hid (STEP.out _ _ H0.out hb1); have hbx := H0.out.2; clear hb1)
      | (go_at_call 146; (with_reducible refine (filled_unread tb ro _ h2).mono ?_); rintro e w1 ⟨rfl, hb1⟩; rw [HY.out]; have H0 := Lib.hid (STEP.out _ _ H0.out hb1); have hbx := H0.out.2; clear hb1)
      | (go_at_call 148; (with_reducible refine (rest_unread tb ro _).mono ?_); rintro e w1 ⟨rfl, hb1⟩; have H0 := Lib.hid (STEP.out _ _ H0.out hb1); have hbx := H0.out.2; clear hb1)
      | (go_at_call 147; (with_reducible refine (ssame_nil _).mono ?_); rintro e w1 ⟨rfl, hb1⟩; have H0 := Lib.hid (STEP.out _ _ H0.out hb1); have hbx := H0.out.2; clear hb1)
      | (refine wpList_load_row_on rfl 34 (.tmp 1) rfl w.heap.size rfl 34 #[.string ⟨#[117, 110, 114, 101, 97, 100]⟩, .string tb, .string ⟨#[]⟩, .slice none 0 0, .slice none 0 0, .string ⟨#[]⟩, .slice none 0 0, .slice none 0 0, .string ⟨#[]⟩, .int .i64 0, .int .i64 0, .string ⟨#[]⟩, .string ⟨#[]⟩, .slice none 0 0, .slice none 0 0, .slice none 0 0, .string ⟨#[]⟩, .int .i64 0, .int .i64 0, .string ⟨#[]⟩, .string ⟨#[]⟩, .slice none 0 0, .string ro] (0, 0) _ hbx Tryz.underlying34 rfl stSize ?_)
      | (refine wpList_buildTo_on rfl 34 _ rfl _ rfl #[.string ⟨#[]⟩, .string ⟨#[]⟩, .string ⟨#[]⟩, .slice none 0 0, .slice none 0 0, .string ⟨#[]⟩, .slice none 0 0, .slice none 0 0, .string ⟨#[]⟩, .int .i64 0, .int .i64 0, .string ⟨#[]⟩, .string ⟨#[]⟩, .slice none 0 0, .slice none 0 0, .slice none 0 0, .string ⟨#[]⟩, .int .i64 0, .int .i64 0, .string ⟨#[]⟩, .string ⟨#[]⟩, .slice none 0 0, .string ⟨#[]⟩] (by as_aux_lemma => kernel_rfl) ?_))
      go_ret
      exact ⟨rfl, H0.out.1⟩
    | true =>
      go_enter Tryz.func102, Tryz.ntmps102
      go_wp2_with (first
      | (go_at_call 137; (with_reducible refine (named_any tb _ (by omega)).mono ?_); rintro e w1 ⟨rfl, hb1⟩; rw [HX.out]; have H0 := Lib.hid (STEP.out _ _ H0.out hb1); have hbx := H0.out.2; clear hb1)
      | (go_at_call 146; (with_reducible refine (filled_unread tb ro _ h2).mono ?_); rintro e w1 ⟨rfl, hb1⟩; rw [HY.out]; have H0 := Lib.hid (STEP.out _ _ H0.out hb1); have hbx := H0.out.2; clear hb1)
      | (go_at_call 148; (with_reducible refine (rest_unread tb ro _).mono ?_); rintro e w1 ⟨rfl, hb1⟩; have H0 := Lib.hid (STEP.out _ _ H0.out hb1); have hbx := H0.out.2; clear hb1)
      | (go_at_call 147; (with_reducible refine (ssame_nil _).mono ?_); rintro e w1 ⟨rfl, hb1⟩; have H0 := Lib.hid (STEP.out _ _ H0.out hb1); have hbx := H0.out.2; clear hb1)
      | (refine wpList_load_row_on rfl 34 (.tmp 1) rfl w.heap.size rfl 34 #[.string ⟨#[117, 110, 114, 101, 97, 100]⟩, .string tb, .string ⟨#[]⟩, .slice none 0 0, .slice none 0 0, .string ⟨#[]⟩, .slice none 0 0, .slice none 0 0, .string ⟨#[]⟩, .int .i64 0, .int .i64 0, .string ⟨#[]⟩, .string ⟨#[]⟩, .slice none 0 0, .slice none 0 0, .slice none 0 0, .string ⟨#[]⟩, .int .i64 0, .int .i64 0, .string ⟨#[]⟩, .string ⟨#[]⟩, .slice none 0 0, .string ro] (0, 0) _ hbx Tryz.underlying34 rfl stSize ?_)
      | (refine wpList_buildTo_on rfl 34 _ rfl _ rfl #[.string ⟨#[]⟩, .string ⟨#[]⟩, .string ⟨#[]⟩, .slice none 0 0, .slice none 0 0, .string ⟨#[]⟩, .slice none 0 0, .slice none 0 0, .string ⟨#[]⟩, .int .i64 0, .int .i64 0, .string ⟨#[]⟩, .string ⟨#[]⟩, .slice none 0 0, .slice none 0 0, .slice none 0 0, .string ⟨#[]⟩, .int .i64 0, .int .i64 0, .string ⟨#[]⟩, .string ⟨#[]⟩, .slice none 0 0, .string ⟨#[]⟩] (by as_aux_lemma => kernel_rfl) ?_))
      go_ret
      exact ⟨rfl, H0.out.1⟩
set_option maxRecDepth 100000 in
set_option maxHeartbeats 4000000 in
theorem formed_unwrite (tb ro : ByteArray) (w : World) (h1 : tb.size ≤ 1000) (h2 : ro.size ≤ 1000) (x y : Bool) (hx : nmB tb = x) (hy : nmB ro = y) : Calls Tryz.prog 102 #[.agg #[.string ⟨#[117, 110, 119, 114, 105, 116, 101]⟩, .string tb, .string ⟨#[]⟩, .slice none 0 0, .slice none 0 0, .string ⟨#[]⟩, .slice none 0 0, .slice none 0 0, .string ⟨#[]⟩, .int .i64 0, .int .i64 0, .string ⟨#[]⟩, .string ⟨#[]⟩, .slice none 0 0, .slice none 0 0, .slice none 0 0, .string ⟨#[]⟩, .int .i64 0, .int .i64 0, .string ⟨#[]⟩, .string ⟨#[]⟩, .slice none 0 0, .string ro]] w fun e w' => e = .returned (.bool (x && y)) ∧ Below w.heap.size w w' := by
  have HX := Lib.hid hx
  have HY := Lib.hid hy
  clear hx hy
  have H0 : Hid (Below w.heap.size w (w.alloc (.cells #[.string ⟨#[117, 110, 119, 114, 105, 116, 101]⟩, .string tb, .string ⟨#[]⟩, .slice none 0 0, .slice none 0 0, .string ⟨#[]⟩, .slice none 0 0, .slice none 0 0, .string ⟨#[]⟩, .int .i64 0, .int .i64 0, .string ⟨#[]⟩, .string ⟨#[]⟩, .slice none 0 0, .slice none 0 0, .slice none 0 0, .string ⟨#[]⟩, .int .i64 0, .int .i64 0, .string ⟨#[]⟩, .string ⟨#[]⟩, .slice none 0 0, .string ro] 34)) ∧ (w.alloc (.cells #[.string ⟨#[117, 110, 119, 114, 105, 116, 101]⟩, .string tb, .string ⟨#[]⟩, .slice none 0 0, .slice none 0 0, .string ⟨#[]⟩, .slice none 0 0, .slice none 0 0, .string ⟨#[]⟩, .int .i64 0, .int .i64 0, .string ⟨#[]⟩, .string ⟨#[]⟩, .slice none 0 0, .slice none 0 0, .slice none 0 0, .string ⟨#[]⟩, .int .i64 0, .int .i64 0, .string ⟨#[]⟩, .string ⟨#[]⟩, .slice none 0 0, .string ro] 34)).heap[w.heap.size]? = some (.cells #[.string ⟨#[117, 110, 119, 114, 105, 116, 101]⟩, .string tb, .string ⟨#[]⟩, .slice none 0 0, .slice none 0 0, .string ⟨#[]⟩, .slice none 0 0, .slice none 0 0, .string ⟨#[]⟩, .int .i64 0, .int .i64 0, .string ⟨#[]⟩, .string ⟨#[]⟩, .slice none 0 0, .slice none 0 0, .slice none 0 0, .string ⟨#[]⟩, .int .i64 0, .int .i64 0, .string ⟨#[]⟩, .string ⟨#[]⟩, .slice none 0 0, .string ro] 34 (0, 0))) := ⟨(Below.refl _ _).alloc (Nat.le_refl _) _, alloc_at rfl _⟩
  have hbx := H0.out.2
  have STEP : Hid (∀ W W' : World, (Below w.heap.size w W ∧ W.heap[w.heap.size]? = some (.cells #[.string ⟨#[117, 110, 119, 114, 105, 116, 101]⟩, .string tb, .string ⟨#[]⟩, .slice none 0 0, .slice none 0 0, .string ⟨#[]⟩, .slice none 0 0, .slice none 0 0, .string ⟨#[]⟩, .int .i64 0, .int .i64 0, .string ⟨#[]⟩, .string ⟨#[]⟩, .slice none 0 0, .slice none 0 0, .slice none 0 0, .string ⟨#[]⟩, .int .i64 0, .int .i64 0, .string ⟨#[]⟩, .string ⟨#[]⟩, .slice none 0 0, .string ro] 34 (0, 0))) → Below W.heap.size W W' → (Below w.heap.size w W' ∧ W'.heap[w.heap.size]? = some (.cells #[.string ⟨#[117, 110, 119, 114, 105, 116, 101]⟩, .string tb, .string ⟨#[]⟩, .slice none 0 0, .slice none 0 0, .string ⟨#[]⟩, .slice none 0 0, .slice none 0 0, .string ⟨#[]⟩, .int .i64 0, .int .i64 0, .string ⟨#[]⟩, .string ⟨#[]⟩, .slice none 0 0, .slice none 0 0, .slice none 0 0, .string ⟨#[]⟩, .int .i64 0, .int .i64 0, .string ⟨#[]⟩, .string ⟨#[]⟩, .slice none 0 0, .string ro] 34 (0, 0)))) := Lib.hid fun W W' h hb => ⟨h.1.trans (hb.mono h.1.size), (hb.block _ (lt_of_block h.2)).trans h.2⟩
  cases x with
  | false =>
    go_enter Tryz.func102, Tryz.ntmps102
    go_wp2_with (first
      | (go_at_call 137; (with_reducible refine (named_any tb _ (by omega)).mono ?_); rintro e w1 ⟨rfl, hb1⟩; rw [HX.out]; have H0 := Lib.hid (STEP.out _ _ H0.out hb1); have hbx := H0.out.2; clear hb1)
      | (go_at_call 146; (with_reducible refine (filled_unwrite tb ro _ h2).mono ?_); rintro e w1 ⟨rfl, hb1⟩; rw [HY.out]; have H0 := Lib.hid (STEP.out _ _ H0.out hb1); have hbx := H0.out.2; clear hb1)
      | (go_at_call 148; (with_reducible refine (rest_unwrite tb ro _).mono ?_); rintro e w1 ⟨rfl, hb1⟩; have H0 := Lib.hid (STEP.out _ _ H0.out hb1); have hbx := H0.out.2; clear hb1)
      | (go_at_call 147; (with_reducible refine (ssame_nil _).mono ?_); rintro e w1 ⟨rfl, hb1⟩; have H0 := Lib.hid (STEP.out _ _ H0.out hb1); have hbx := H0.out.2; clear hb1)
      | (refine wpList_load_row_on rfl 34 (.tmp 1) rfl w.heap.size rfl 34 #[.string ⟨#[117, 110, 119, 114, 105, 116, 101]⟩, .string tb, .string ⟨#[]⟩, .slice none 0 0, .slice none 0 0, .string ⟨#[]⟩, .slice none 0 0, .slice none 0 0, .string ⟨#[]⟩, .int .i64 0, .int .i64 0, .string ⟨#[]⟩, .string ⟨#[]⟩, .slice none 0 0, .slice none 0 0, .slice none 0 0, .string ⟨#[]⟩, .int .i64 0, .int .i64 0, .string ⟨#[]⟩, .string ⟨#[]⟩, .slice none 0 0, .string ro] (0, 0) _ hbx Tryz.underlying34 rfl stSize ?_)
      | (refine wpList_buildTo_on rfl 34 _ rfl _ rfl #[.string ⟨#[]⟩, .string ⟨#[]⟩, .string ⟨#[]⟩, .slice none 0 0, .slice none 0 0, .string ⟨#[]⟩, .slice none 0 0, .slice none 0 0, .string ⟨#[]⟩, .int .i64 0, .int .i64 0, .string ⟨#[]⟩, .string ⟨#[]⟩, .slice none 0 0, .slice none 0 0, .slice none 0 0, .string ⟨#[]⟩, .int .i64 0, .int .i64 0, .string ⟨#[]⟩, .string ⟨#[]⟩, .slice none 0 0, .string ⟨#[]⟩] (by as_aux_lemma => kernel_rfl) ?_))
    go_ret
    exact ⟨rfl, H0.out.1⟩
  | true =>
    cases y with
    | false =>
      go_enter Tryz.func102, Tryz.ntmps102
      go_wp2_with (first
      | (go_at_call 137; (with_reducible refine (named_any tb _ (by omega)).mono ?_); rintro e w1 ⟨rfl, hb1⟩; rw [HX.out]; have H0 := Lib.hid (STEP.out _ _ H0.out hb1); have hbx := H0.out.2; clear hb1)
      | (go_at_call 146; (with_reducible refine (filled_unwrite tb ro _ h2).mono ?_); rintro e w1 ⟨rfl, hb1⟩; rw [HY.out]; have H0 := Lib.hid (STEP.out _ _ H0.out hb1); have hbx := H0.out.2; clear hb1)
      | (go_at_call 148; (with_reducible refine (rest_unwrite tb ro _).mono ?_); rintro e w1 ⟨rfl, hb1⟩; have H0 := Lib.hid (STEP.out _ _ H0.out hb1); have hbx := H0.out.2; clear hb1)
      | (go_at_call 147; (with_reducible refine (ssame_nil _).mono ?_); rintro e w1 ⟨rfl, hb1⟩; have H0 := Lib.hid (STEP.out _ _ H0.out hb1); have hbx := H0.out.2; clear hb1)
      | (refine wpList_load_row_on rfl 34 (.tmp 1) rfl w.heap.size rfl 34 #[.string ⟨#[117, 110, 119, 114, 105, 116, 101]⟩, .string tb, .string ⟨#[]⟩, .slice none 0 0, .slice none 0 0, .string ⟨#[]⟩, .slice none 0 0, .slice none 0 0, .string ⟨#[]⟩, .int .i64 0, .int .i64 0, .string ⟨#[]⟩, .string ⟨#[]⟩, .slice none 0 0, .slice none 0 0, .slice none 0 0, .string ⟨#[]⟩, .int .i64 0, .int .i64 0, .string ⟨#[]⟩, .string ⟨#[]⟩, .slice none 0 0, .string ro] (0, 0) _ hbx Tryz.underlying34 rfl stSize ?_)
      | (refine wpList_buildTo_on rfl 34 _ rfl _ rfl #[.string ⟨#[]⟩, .string ⟨#[]⟩, .string ⟨#[]⟩, .slice none 0 0, .slice none 0 0, .string ⟨#[]⟩, .slice none 0 0, .slice none 0 0, .string ⟨#[]⟩, .int .i64 0, .int .i64 0, .string ⟨#[]⟩, .string ⟨#[]⟩, .slice none 0 0, .slice none 0 0, .slice none 0 0, .string ⟨#[]⟩, .int .i64 0, .int .i64 0, .string ⟨#[]⟩, .string ⟨#[]⟩, .slice none 0 0, .string ⟨#[]⟩] (by as_aux_lemma => kernel_rfl) ?_))
      go_ret
      exact ⟨rfl, H0.out.1⟩
    | true =>
      go_enter Tryz.func102, Tryz.ntmps102
      go_wp2_with (first
      | (go_at_call 137; (with_reducible refine (named_any tb _ (by omega)).mono ?_); rintro e w1 ⟨rfl, hb1⟩; rw [HX.out]; have H0 := Lib.hid (STEP.out _ _ H0.out hb1); have hbx := H0.out.2; clear hb1)
      | (go_at_call 146; (with_reducible refine (filled_unwrite tb ro _ h2).mono ?_); rintro e w1 ⟨rfl, hb1⟩; rw [HY.out]; have H0 := Lib.hid (STEP.out _ _ H0.out hb1); have hbx := H0.out.2; clear hb1)
      | (go_at_call 148; (with_reducible refine (rest_unwrite tb ro _).mono ?_); rintro e w1 ⟨rfl, hb1⟩; have H0 := Lib.hid (STEP.out _ _ H0.out hb1); have hbx := H0.out.2; clear hb1)
      | (go_at_call 147; (with_reducible refine (ssame_nil _).mono ?_); rintro e w1 ⟨rfl, hb1⟩; have H0 := Lib.hid (STEP.out _ _ H0.out hb1); have hbx := H0.out.2; clear hb1)
      | (refine wpList_load_row_on rfl 34 (.tmp 1) rfl w.heap.size rfl 34 #[.string ⟨#[117, 110, 119, 114, 105, 116, 101]⟩, .string tb, .string ⟨#[]⟩, .slice none 0 0, .slice none 0 0, .string ⟨#[]⟩, .slice none 0 0, .slice none 0 0, .string ⟨#[]⟩, .int .i64 0, .int .i64 0, .string ⟨#[]⟩, .string ⟨#[]⟩, .slice none 0 0, .slice none 0 0, .slice none 0 0, .string ⟨#[]⟩, .int .i64 0, .int .i64 0, .string ⟨#[]⟩, .string ⟨#[]⟩, .slice none 0 0, .string ro] (0, 0) _ hbx Tryz.underlying34 rfl stSize ?_)
      | (refine wpList_buildTo_on rfl 34 _ rfl _ rfl #[.string ⟨#[]⟩, .string ⟨#[]⟩, .string ⟨#[]⟩, .slice none 0 0, .slice none 0 0, .string ⟨#[]⟩, .slice none 0 0, .slice none 0 0, .string ⟨#[]⟩, .int .i64 0, .int .i64 0, .string ⟨#[]⟩, .string ⟨#[]⟩, .slice none 0 0, .slice none 0 0, .slice none 0 0, .string ⟨#[]⟩, .int .i64 0, .int .i64 0, .string ⟨#[]⟩, .string ⟨#[]⟩, .slice none 0 0, .string ⟨#[]⟩] (by as_aux_lemma => kernel_rfl) ?_))
      go_ret
      exact ⟨rfl, H0.out.1⟩
end Go.Proofs.YtlilnbcklplmfaaGreatDoor

import Derived.Test.YtmhkmliebhbkdaaGreatX22

/- The document's value of an expression of one part, and of two; of any. -/
namespace Go.Proofs.YtmhkmliebhbkdaaGreat
open Go.RowKit Go.Lib

set_option maxRecDepth 100000 in
set_option maxHeartbeats 4000000 in
theorem reval_not (P : Nat → Prop) (n : Nat) (k i : Int) (vs s : ByteArray) (y : Ex) (u : Value) (A : Option Addr) (na ca : Nat) (cols : List Cl) (D : Option Addr) (nv cv : Nat) (row : List Vl) (w : World) (ht : Tr w P n (.mk ⟨#[110, 111, 116]⟩ ⟨k, i, vs⟩ s [y]) u) (hrec : ∀ (y9 : Ex) (u : Value) (M : Nat) (W : World), y9 ∈ [y] → Tr W P M y9 u → Below w.heap.size w W → Calls Tryz.prog 36 #[EVt y9 u, .slice A na ca, .slice D nv cv] W fun e w' => RetV e ∧ Below W.heap.size W w') : Calls Tryz.prog 36 #[.agg #[.string ⟨#[110, 111, 116]⟩, .int .i64 k, .int .i64 i, .string vs, .string s, u], .slice A na ca, .slice D nv cv] w fun e w' => RetV e ∧ Below w.heap.size w w' := by
  obtain ⟨a, q, u0, m, rfl, hal, hc, ht0⟩ := kids1 ht
  obtain ⟨yop, yx, ys, yl⟩ := y
  obtain ⟨yk, yi, yv⟩ := yx
  have HX := Lib.hid (And.intro hc ht0)
  have HREC := Lib.hid hrec
  clear ht hc ht0 hrec
  go_enter Tryz.func36, Tryz.ntmps36
  go_upto_region 13 with (fail)
  refine wp_gen (fun W => Below w.heap.size w W ∧ W.heap[w.heap.size]? = some (.cells #[.string ⟨#[110, 111, 116]⟩, .int .i64 k, .int .i64 i, .string vs, .string s, .slice (some a) 1 q] 29 (0, 0)) ∧ W.heap[w.heap.size + 1]? = some (.cells #[.int .i64 0, .int .i64 0, .string ⟨#[]⟩] 26 (0, 0))) ⟨((Below.refl _ _).alloc (Nat.le_refl _) _).alloc (by simp) _, (Below.heap_alloc _ _ _ (by simp)).trans (alloc_at rfl _), alloc_at (by simp) _⟩ fun w0 hw0 => ?_
  have H0 := Lib.hid hw0
  have g0 := Lib.cell_of_heap hw0.2.1 0
  have g1 := Lib.cell_of_heap hw0.2.1 1
  have g2 := Lib.cell_of_heap hw0.2.1 2
  have g3 := Lib.cell_of_heap hw0.2.1 3
  have g4 := Lib.cell_of_heap hw0.2.1 4
  have g5 := Lib.cell_of_heap hw0.2.1 5
  simp only [List.getElem?_toArray, List.getElem?_cons_zero, List.getElem?_cons_succ] at g0 g1 g2 g3 g4 g5
  have hz0 := lt_of_block hw0.2.1
  have hz0' := lt_of_block hw0.2.2
  clear hw0
  have hx0 := HX.out.1.keep (W' := w0) (H0.out.1.block _ hal)
  have k0 := (hx0).c0
  have k1 := (hx0).c1
  have k2 := (hx0).c2
  have k3 := (hx0).c3
  have k4 := (hx0).c4
  have k5 := (hx0).c5
  simp only [Ex.op, Ex.x, Ex.s, Ex.l] at k0 k1 k2 k3 k4 k5
  have hal0 : a.block < w0.heap.size := by have := H0.out.1.size; omega
  clear hx0
  have HRY : Hid (Calls Tryz.prog 36 #[.agg #[.string yop, .int .i64 yk, .int .i64 yi, .string yv, .string ys, u0], .slice A na ca, .slice D nv cv] w0 fun e w' => RetV e ∧ Below w0.heap.size w0 w') := Lib.hid (HREC.out (.mk yop ⟨yk, yi, yv⟩ ys yl) u0 m w0 List.mem_cons_self (HX.out.2.below H0.out.1) H0.out.1)
  go_upto_region 14 with (go_at_call 36; (with_reducible refine HRY.out.mono ?_); rintro e w1 ⟨⟨v, hv, rfl⟩, hb1⟩; have HB1 := Lib.hid (And.intro hb1 hv); clear hb1 hv)
  refine wp_gen (fun W => Below w.heap.size w W ∧ W.heap[w.heap.size]? = some (.cells #[.string ⟨#[110, 111, 116]⟩, .int .i64 k, .int .i64 i, .string vs, .string s, .slice (some a) 1 q] 29 (0, 0)) ∧ W.heap[w.heap.size + 1]? = some (.cells #[.int .i64 0, .int .i64 0, .string ⟨#[]⟩] 26 (0, 0)) ∧ W.heap[w1.heap.size]? = some (.cells #[.int .i64 v.k, .int .i64 v.i, .string v.s] 26 (0, 0))) (by
    have hs1 := HB1.out.1.size
    exact ⟨(H0.out.1.trans (HB1.out.1.mono H0.out.1.size)).alloc (by have := H0.out.1.size; omega) _, (Below.heap_alloc _ _ _ (by omega)).trans ((HB1.out.1.block _ hz0).trans H0.out.2.1), (Below.heap_alloc _ _ _ (by omega)).trans ((HB1.out.1.block _ hz0').trans H0.out.2.2), alloc_at rfl _⟩) fun w2 hw2 => ?_
  have H2 := Lib.hid hw2
  clear g0 g1 g2 g3 g4 g5 hz0 hz0' hal0 k0 k1 k2 k3 k4 k5 HRY
  have g0 := Lib.cell_of_heap hw2.2.1 0
  have g1 := Lib.cell_of_heap hw2.2.1 1
  have g2 := Lib.cell_of_heap hw2.2.1 2
  have g3 := Lib.cell_of_heap hw2.2.1 3
  have g4 := Lib.cell_of_heap hw2.2.1 4
  have g5 := Lib.cell_of_heap hw2.2.1 5
  simp only [List.getElem?_toArray, List.getElem?_cons_zero, List.getElem?_cons_succ] at g0 g1 g2 g3 g4 g5
  have hz0 := lt_of_block hw2.2.1
  have hz0' := lt_of_block hw2.2.2.1
  have hz1 := lt_of_block hw2.2.2.2
  have r0 := Lib.cell_of_heap hw2.2.2.2 0
  have r1 := Lib.cell_of_heap hw2.2.2.2 1
  have r2 := Lib.cell_of_heap hw2.2.2.2 2
  simp only [List.getElem?_toArray, List.getElem?_cons_zero, List.getElem?_cons_succ] at r0 r1 r2
  clear hw2
  have HN := Lib.hid (rvnot v w2)
  go_wp2_with (first
    | (go_at_call 72; (with_reducible refine HN.out.mono ?_); rintro e w3 ⟨rfl, hb3⟩; have HB3 := Lib.hid hb3; have hres3 := (hb3.block _ hz0').trans H2.out.2.2.1; clear hb3)
    | (refine wpList_store_row rfl 26 (.tmp 6) (.tmp 53) rfl (w.heap.size + 1) #[.int .i64 (notV v).k, .int .i64 (notV v).i, .string (notV v).s] rfl rfl 26 _ hres3 valSize rfl (val_one (notV v)) ?_))
  refine bodyPost_ret (results_cell_row rfl _ _ (w.heap.size + 1) 26 #[.int .i64 (notV v).k, .int .i64 (notV v).i, .string (notV v).s] (0, 0) _ rfl (setRow_heap _ _ _ _ _ _ hres3) Tryz.underlying26 rfl valSize) rfl ⟨⟨(notV v), ok_not v, rfl⟩, below_row (H2.out.1.trans (HB3.out.mono H2.out.1.size)) _ (by omega)⟩
set_option maxRecDepth 100000 in
set_option maxHeartbeats 4000000 in
theorem reval_null (P : Nat → Prop) (n : Nat) (k i : Int) (vs s : ByteArray) (y : Ex) (u : Value) (A : Option Addr) (na ca : Nat) (cols : List Cl) (D : Option Addr) (nv cv : Nat) (row : List Vl) (w : World) (ht : Tr w P n (.mk ⟨#[110, 117, 108, 108]⟩ ⟨k, i, vs⟩ s [y]) u) (hrec : ∀ (y9 : Ex) (u : Value) (M : Nat) (W : World), y9 ∈ [y] → Tr W P M y9 u → Below w.heap.size w W → Calls Tryz.prog 36 #[EVt y9 u, .slice A na ca, .slice D nv cv] W fun e w' => RetV e ∧ Below W.heap.size W w') : Calls Tryz.prog 36 #[.agg #[.string ⟨#[110, 117, 108, 108]⟩, .int .i64 k, .int .i64 i, .string vs, .string s, u], .slice A na ca, .slice D nv cv] w fun e w' => RetV e ∧ Below w.heap.size w w' := by
  obtain ⟨a, q, u0, m, rfl, hal, hc, ht0⟩ := kids1 ht
  obtain ⟨yop, yx, ys, yl⟩ := y
  obtain ⟨yk, yi, yv⟩ := yx
  have HX := Lib.hid (And.intro hc ht0)
  have HREC := Lib.hid hrec
  clear ht hc ht0 hrec
  go_enter Tryz.func36, Tryz.ntmps36
  go_upto_region 13 with (fail)
  refine wp_gen (fun W => Below w.heap.size w W ∧ W.heap[w.heap.size]? = some (.cells #[.string ⟨#[110, 117, 108, 108]⟩, .int .i64 k, .int .i64 i, .string vs, .string s, .slice (some a) 1 q] 29 (0, 0)) ∧ W.heap[w.heap.size + 1]? = some (.cells #[.int .i64 0, .int .i64 0, .string ⟨#[]⟩] 26 (0, 0))) ⟨((Below.refl _ _).alloc (Nat.le_refl _) _).alloc (by simp) _, (Below.heap_alloc _ _ _ (by simp)).trans (alloc_at rfl _), alloc_at (by simp) _⟩ fun w0 hw0 => ?_
  have H0 := Lib.hid hw0
  have g0 := Lib.cell_of_heap hw0.2.1 0
  have g1 := Lib.cell_of_heap hw0.2.1 1
  have g2 := Lib.cell_of_heap hw0.2.1 2
  have g3 := Lib.cell_of_heap hw0.2.1 3
  have g4 := Lib.cell_of_heap hw0.2.1 4
  have g5 := Lib.cell_of_heap hw0.2.1 5
  simp only [List.getElem?_toArray, List.getElem?_cons_zero, List.getElem?_cons_succ] at g0 g1 g2 g3 g4 g5
  have hz0 := lt_of_block hw0.2.1
  have hz0' := lt_of_block hw0.2.2
  clear hw0
  have hx0 := HX.out.1.keep (W' := w0) (H0.out.1.block _ hal)
  have k0 := (hx0).c0
  have k1 := (hx0).c1
  have k2 := (hx0).c2
  have k3 := (hx0).c3
  have k4 := (hx0).c4
  have k5 := (hx0).c5
  simp only [Ex.op, Ex.x, Ex.s, Ex.l] at k0 k1 k2 k3 k4 k5
  have hal0 : a.block < w0.heap.size := by have := H0.out.1.size; omega
  clear hx0
  have HRY : Hid (Calls Tryz.prog 36 #[.agg #[.string yop, .int .i64 yk, .int .i64 yi, .string yv, .string ys, u0], .slice A na ca, .slice D nv cv] w0 fun e w' => RetV e ∧ Below w0.heap.size w0 w') := Lib.hid (HREC.out (.mk yop ⟨yk, yi, yv⟩ ys yl) u0 m w0 List.mem_cons_self (HX.out.2.below H0.out.1) H0.out.1)
  go_upto_region 14 with (go_at_call 36; (with_reducible refine HRY.out.mono ?_); rintro e w1 ⟨⟨v, hv, rfl⟩, hb1⟩; have HB1 := Lib.hid (And.intro hb1 hv); clear hb1 hv)
  refine wp_gen (fun W => Below w.heap.size w W ∧ W.heap[w.heap.size]? = some (.cells #[.string ⟨#[110, 117, 108, 108]⟩, .int .i64 k, .int .i64 i, .string vs, .string s, .slice (some a) 1 q] 29 (0, 0)) ∧ W.heap[w.heap.size + 1]? = some (.cells #[.int .i64 0, .int .i64 0, .string ⟨#[]⟩] 26 (0, 0)) ∧ W.heap[w1.heap.size]? = some (.cells #[.int .i64 v.k, .int .i64 v.i, .string v.s] 26 (0, 0))) (by
    have hs1 := HB1.out.1.size
    exact ⟨(H0.out.1.trans (HB1.out.1.mono H0.out.1.size)).alloc (by have := H0.out.1.size; omega) _, (Below.heap_alloc _ _ _ (by omega)).trans ((HB1.out.1.block _ hz0).trans H0.out.2.1), (Below.heap_alloc _ _ _ (by omega)).trans ((HB1.out.1.block _ hz0').trans H0.out.2.2), alloc_at rfl _⟩) fun w2 hw2 => ?_
  have H2 := Lib.hid hw2
  clear g0 g1 g2 g3 g4 g5 hz0 hz0' hal0 k0 k1 k2 k3 k4 k5 HRY
  have g0 := Lib.cell_of_heap hw2.2.1 0
  have g1 := Lib.cell_of_heap hw2.2.1 1
  have g2 := Lib.cell_of_heap hw2.2.1 2
  have g3 := Lib.cell_of_heap hw2.2.1 3
  have g4 := Lib.cell_of_heap hw2.2.1 4
  have g5 := Lib.cell_of_heap hw2.2.1 5
  simp only [List.getElem?_toArray, List.getElem?_cons_zero, List.getElem?_cons_succ] at g0 g1 g2 g3 g4 g5
  have hz0 := lt_of_block hw2.2.1
  have hz0' := lt_of_block hw2.2.2.1
  have hz1 := lt_of_block hw2.2.2.2
  have r0 := Lib.cell_of_heap hw2.2.2.2 0
  have r1 := Lib.cell_of_heap hw2.2.2.2 1
  have r2 := Lib.cell_of_heap hw2.2.2.2 2
  simp only [List.getElem?_toArray, List.getElem?_cons_zero, List.getElem?_cons_succ] at r0 r1 r2
  clear hw2
  have HN := Lib.hid (rmay_any v.k v.i v.s w2 (by have := HB1.out.2.2; unfold maxLen; omega))
  generalize mayB v.k v.i v.s = mb at HN
  have HT := Lib.hid (fun b W => rtruth_any b W)
  obtain ⟨zk, hzk⟩ : ∃ b, (v.k == 0) = b := ⟨_, rfl⟩
  have OKB : ∀ b, okV ⟨3, b2i b, ⟨#[]⟩⟩ := fun b => ok_b2i b
  have ZS : ∀ b : Bool, (#[.int .i64 3, .int .i64 (b2i b), .string ⟨#[]⟩] : Array Value) = #[.int .i64 (⟨3, b2i b, ⟨#[]⟩⟩ : Vl).k, .int .i64 (⟨3, b2i b, ⟨#[]⟩⟩ : Vl).i, .string (⟨3, b2i b, ⟨#[]⟩⟩ : Vl).s] := fun _ => rfl
  cases mb
  · go_wp2_with (first
      | (go_at_call 73; (with_reducible refine HN.out.mono ?_); rintro e w3 ⟨rfl, hb3⟩; have HB3 := Lib.hid hb3; have hc3 := (bcell hb3).1; have hres3 := (hb3.block _ hz0').trans H2.out.2.2.1; have hy3 := hb3.size; have hz3 : w1.heap.size < w3.heap.size := (by omega); clear hb3)
      | (go_at_call 71; (with_reducible refine (HT.out true _).mono ?_); rintro e w4 ⟨rfl, hb4⟩; have HB4 := Lib.hid (HB3.out.trans (hb4.mono HB3.out.size)); have hres4 := (hb4.block _ (lt_of_block hres3)).trans hres3; clear hb4)
      | (refine wpList_store_row rfl 26 (.tmp 6) (.tmp 65) rfl (w.heap.size + 1) #[.int .i64 3, .int .i64 (b2i true), .string ⟨#[]⟩] rfl rfl 26 _ hres4 valSize rfl (val_one ⟨3, b2i true, ⟨#[]⟩⟩) ?_))
    refine bodyPost_ret (results_cell_row rfl _ _ (w.heap.size + 1) 26 #[.int .i64 3, .int .i64 (b2i true), .string ⟨#[]⟩] (0, 0) _ rfl (setRow_heap _ _ _ _ _ _ hres4) Tryz.underlying26 rfl valSize) rfl ⟨⟨⟨3, b2i true, ⟨#[]⟩⟩, OKB true, rfl⟩, below_row (H2.out.1.trans (HB4.out.mono H2.out.1.size)) _ (by omega)⟩
  · cases zk
    all_goals skip
    · go_wp2_with (first
        | (go_at_call 73; (with_reducible refine HN.out.mono ?_); rintro e w3 ⟨rfl, hb3⟩; have HB3 := Lib.hid hb3; have hc3 := (bcell hb3).1; have hres3 := (hb3.block _ hz0').trans H2.out.2.2.1; have hy3 := hb3.size; have hz3 : w1.heap.size < w3.heap.size := (by omega); clear hb3)
        | (go_at_call 71; (with_reducible refine (HT.out false _).mono ?_); rintro e w4 ⟨rfl, hb4⟩; have HB4 := Lib.hid (HB3.out.trans (hb4.mono HB3.out.size)); have hres4 := (hb4.block _ (lt_of_block hres3)).trans hres3; clear hb4)
        | (refine wpList_store_row rfl 26 (.tmp 6) (.tmp 65) rfl (w.heap.size + 1) #[.int .i64 3, .int .i64 (b2i false), .string ⟨#[]⟩] rfl rfl 26 _ hres4 valSize rfl (val_one ⟨3, b2i false, ⟨#[]⟩⟩) ?_))
      refine bodyPost_ret (results_cell_row rfl _ _ (w.heap.size + 1) 26 #[.int .i64 3, .int .i64 (b2i false), .string ⟨#[]⟩] (0, 0) _ rfl (setRow_heap _ _ _ _ _ _ hres4) Tryz.underlying26 rfl valSize) rfl ⟨⟨⟨3, b2i false, ⟨#[]⟩⟩, OKB false, rfl⟩, below_row (H2.out.1.trans (HB4.out.mono H2.out.1.size)) _ (by omega)⟩
    · go_wp2_with (first
        | (go_at_call 73; (with_reducible refine HN.out.mono ?_); rintro e w3 ⟨rfl, hb3⟩; have HB3 := Lib.hid hb3; have hc3 := (bcell hb3).1; have hres3 := (hb3.block _ hz0').trans H2.out.2.2.1; have hy3 := hb3.size; have hz3 : w1.heap.size < w3.heap.size := (by omega); clear hb3)
        | (go_at_call 71; (with_reducible refine (HT.out true _).mono ?_); rintro e w4 ⟨rfl, hb4⟩; have HB4 := Lib.hid (HB3.out.trans (hb4.mono HB3.out.size)); have hres4 := (hb4.block _ (lt_of_block hres3)).trans hres3; clear hb4)
        | (refine wpList_store_row rfl 26 (.tmp 6) (.tmp 65) rfl (w.heap.size + 1) #[.int .i64 3, .int .i64 (b2i true), .string ⟨#[]⟩] rfl rfl 26 _ hres4 valSize rfl (val_one ⟨3, b2i true, ⟨#[]⟩⟩) ?_))
      refine bodyPost_ret (results_cell_row rfl _ _ (w.heap.size + 1) 26 #[.int .i64 3, .int .i64 (b2i true), .string ⟨#[]⟩] (0, 0) _ rfl (setRow_heap _ _ _ _ _ _ hres4) Tryz.underlying26 rfl valSize) rfl ⟨⟨⟨3, b2i true, ⟨#[]⟩⟩, OKB true, rfl⟩, below_row (H2.out.1.trans (HB4.out.mono H2.out.1.size)) _ (by omega)⟩
end Go.Proofs.YtmhkmliebhbkdaaGreat

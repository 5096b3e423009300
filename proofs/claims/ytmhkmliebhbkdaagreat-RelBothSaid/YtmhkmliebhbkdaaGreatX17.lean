import Derived.Test.YtmhkmliebhbkdaaGreatX16

/- Rows of rows: how they lie; slices.Clone of a row of values. -/
namespace Go.Proofs.YtmhkmliebhbkdaaGreat
open Go.RowKit Go.Lib

theorem add_off (a : Addr) (n : Nat) : (a.add n).off = a.off + n := by
  unfold Addr.add
  split
  · rename_i h; rw [h]; rfl
  · rfl
theorem add_succ (a : Addr) (n k : Nat) : a.add (n + (k + 1)) = ⟨(a.add n).block, (a.add n).off + (k + 1), none⟩ := by
  rw [addE _ _ (by omega), add_block, add_off]
  rw [Nat.add_assoc]
/-- The cells of a row of values that lies somewhere. -/
theorem vals_cells {W : World} {B : Nat} {a : Addr} {m : Nat} {row : List Vl} (h : Vals W B (some a) m row) : ∀ j u, (cellsOf row)[j]? = some u → W.cell? (a.add j) = some u := by
  intro j u hu
  have hj : j < row.length * 3 := by
    have := (List.getElem?_eq_some_iff.1 hu).1
    rwa [cells_len] at this
  have hq : j / 3 < row.length := by omega
  obtain ⟨c0, c1, c2⟩ := cells_at row (j / 3) hq
  obtain ⟨a', e, hv, _⟩ := h.2 (j / 3) hq
  injection e with e
  subst e
  rcases (show j = j / 3 * 3 ∨ j = j / 3 * 3 + 1 ∨ j = j / 3 * 3 + 2 by omega) with e | e | e
  · rw [e] at hu ⊢
    rw [c0] at hu
    injection hu with hu
    subst hu
    exact hv.k
  · rw [e] at hu ⊢
    rw [c1] at hu
    injection hu with hu
    subst hu
    rw [add_succ a (j / 3 * 3) 0]
    exact hv.i
  · rw [e] at hu ⊢
    rw [c2] at hu
    injection hu with hu
    subst hu
    rw [add_succ a (j / 3 * 3) 1]
    exact hv.s
/-- A slice of values: nil, or with a block. -/
def nilOk (D : Option Addr) (m c : Nat) : Prop := D = none → m = 0 ∧ c = 0
theorem nn_vals (a : Addr) (n cap : Nat) (w : World) : Sem.run Tryz.prog (binOp .eql 47 (.slice (some a) n cap) (.slice none 0 0)) w = .ok (.bool false) w := by
  obtain ⟨b, o, f⟩ := a
  first | (simp [binOp, go_sem]; done) | kernel_rfl | rfl
theorem nil_vals (w : World) : Sem.run Tryz.prog (binOp .eql 47 (.slice none 0 0) (.slice none 0 0)) w = .ok (.bool true) w := by
  first | (simp [binOp, go_sem]; done) | kernel_rfl | rfl
theorem below_own6 {w W W' : World} {v : Value} (hb : Below w.heap.size w W) (hge : ∀ q, v.ownBlock = some q → w.heap.size ≤ q) (hg : W.grownBy W' v.ownBlock) : Below w.heap.size w W' :=
  ⟨hg.os.trans hb.os, hg.tape.trans hb.tape, hg.output.trans hb.output, Nat.le_trans hb.size hg.size, fun q hq => (hg.block q (by have := hb.size; omega) (fun e => by have := hge q e.symm; omega)).trans (hb.block q hq)⟩
set_option maxRecDepth 100000 in
set_option maxHeartbeats 4000000 in
theorem vclone_any (D : Option Addr) (m c : Nat) (row : List Vl) (w : World) (hn : nilOk D m c) (hm : m ≤ 1000) (hv : Vals w w.heap.size D m row) :
    Calls Tryz.prog 64 #[.slice D m c] w fun e w' => ∃ D' c', e = .returned (.slice D' m c') ∧ nilOk D' m c' ∧ Vals w' w'.heap.size D' m row ∧ (∀ a, D' = some a → w.heap.size ≤ a.block) ∧ Below w.heap.size w w' := by
  cases D with
  | none =>
    obtain ⟨rfl, rfl⟩ := hn rfl
    go_enter Tryz.func64, Tryz.ntmps64
    go_wp2_with (fail)
    rw [nil_vals]
    go_wp2_with (fail)
    go_ret
    exact ⟨none, 0, rfl, fun _ => ⟨rfl, rfl⟩, hv, (fun a e => by cases e), Below.refl _ _⟩
  | some a =>
    have HV := Lib.hid hv
    have hl := hv.1
    obtain ⟨i0, hi, hz0, hz1, hz2⟩ := info_parts infoVal
    have HOw : Hid ((w.alloc (.cells #[] 26)).ownsRow w.heap.size 26 3 (.slice (some ⟨w.heap.size, 0, none⟩) 0 0) 0 []) := ⟨rfl, .inr ⟨w.heap.size, 0, #[], rfl, Nat.le_refl _, alloc_at rfl _, by omega, by unfold maxLen; omega, rfl, rfl⟩⟩
    clear hv hn
    go_enter Tryz.func64, Tryz.ntmps64
    go_wp2_with (fail)
    rw [nn_vals]
    go_wp2_with (at_builtin; refine wpList_append_own _ rfl _ _ 47 rfl w.heap.size 26 i0 _ 3 32 Tryz.underlying47 hi hz0 hz1 hz2 rfl (by decide) (.slice (some ⟨w.heap.size, 0, none⟩) 0 0) 0 [] rfl HOw.out a m c (cellsOf row) rfl (by rw [cells_len, hl]) ?c1 ?c2 ?c3 ?c4 ?c5 ?_)
    case c1 =>
      intro j u hu
      have hc := vals_cells HV.out j u hu
      exact (((Below.refl w.heap.size w).alloc (Nat.le_refl _) _).cell (World.block_lt_of_cell? w _ hc)).trans hc
    case c2 => exact cells_one row
    case c3 => unfold maxLen; omega
    case c4 => omega
    case c5 => simp
    intro v' w2 hown hgrow hnil
    try rw [Nat.zero_add, List.nil_append] at hown
    have HB2 : Hid (Below w.heap.size w w2) := below_own6 ((Below.refl _ _).alloc (Nat.le_refl _) _) (own_geN HOw.out) hgrow
    obtain ⟨D', c', rfl⟩ := own_form hown
    have HO := Lib.hid hown
    clear hown hgrow hnil
    go_wp2_with (fail)
    go_ret
    refine ⟨D', c', rfl, ?_, ?_, fun a' e => ?_, HB2.out⟩
    · intro e
      subst e
      rcases HO.out.2 with ⟨e, h0⟩ | ⟨g, cap, cur, e, _⟩
      · injection e with _ _ e3
        exact ⟨h0, e3⟩
      · cases e
    · obtain ⟨A, cap, e, h1, _⟩ := Vals.of_own HO.out
      injection e with e1 _ _
      subst e1
      exact h1
    · subst e
      rcases HO.out.2 with ⟨e, h0⟩ | ⟨g, cap, cur, e, hB, _⟩
      · cases e
      · injection e with e1 _ _
        injection e1 with e1
        subst e1
        exact hB
end Go.Proofs.YtmhkmliebhbkdaaGreat

/- rel.copied: rows in memory of their own. -/
namespace Go.Proofs.YtmhkmliebhbkdaaGreat
open Go.RowKit Go.Lib

/-- Rows lie from A on: each a slice of values, of whose blocks none is of X. -/
def RowsAt (W : World) (X : Nat → Prop) (A : Option Addr) (n : Nat) (rows : List (List Vl)) : Prop :=
  rows.length = n ∧ n ≤ 1000 ∧ ∀ j (h : j < rows.length), ∃ a D m c, A = some a ∧ W.cell? (a.add j) = some (.slice D m c) ∧ nilOk D m c ∧ m ≤ 1000 ∧ Vals W W.heap.size D m rows[j] ∧ ∀ a', D = some a' → m = 0 ∨ ¬ X a'.block
theorem RowsAt.below {W W' : World} {X : Nat → Prop} {A : Option Addr} {n : Nat} {rows : List (List Vl)} (h : RowsAt W X A n rows) (hb : Below W.heap.size W W') : RowsAt W' X A n rows :=
  ⟨h.1, h.2.1, fun j hj => by
    obtain ⟨a, D, m, c, e, hc, h1, h2, h3, h4⟩ := h.2.2 j hj
    exact ⟨a, D, m, c, e, (hb.cell (World.block_lt_of_cell? W _ hc)).trans hc, h1, h2, h3.below hb, h4⟩⟩
theorem RowsAt.any {W : World} {X Y : Nat → Prop} {A : Option Addr} {n : Nat} {rows : List (List Vl)} (h : RowsAt W X A n rows) (hy : ∀ b, b < W.heap.size → Y b → X b) : RowsAt W Y A n rows :=
  ⟨h.1, h.2.1, fun j hj => by
    obtain ⟨a, D, m, c, e, hc, h1, h2, h3, h4⟩ := h.2.2 j hj
    refine ⟨a, D, m, c, e, hc, h1, h2, h3, fun a' e' => ?_⟩
    rcases h4 a' e' with h0 | h0
    · exact .inl h0
    · rcases Nat.eq_zero_or_pos m with hm | hm
      · exact .inl hm
      · refine .inr fun hq => h0 (hy _ ?_ hq)
        obtain ⟨a2, e2, _, hlt⟩ := h3.2 0 (by have := h3.1; omega)
        rw [e'] at e2
        injection e2 with e2
        subst e2
        exact hlt⟩
/-- Below the heap's end. -/
theorem Vals.in_ {W : World} {D : Option Addr} {m : Nat} {row : List Vl} (h : Vals W W.heap.size D m row) {a : Addr} (e : D = some a) : m = 0 ∨ a.block < W.heap.size := by
  rcases Nat.eq_zero_or_pos m with h0 | h0
  · exact .inl h0
  · obtain ⟨a', e', _, hlt⟩ := h.2 0 (by rw [h.1]; exact h0)
    rw [e] at e'
    injection e' with e'
    subst e'
    exact .inr hlt
theorem infoVs : (Tryz.prog.info? 47).map (fun i => (i.zero, i.size, i.bytes)) = some (some (.slice none 0 0), 1, 24) := by kernel_rfl
theorem nn_rows (a : Addr) (n cap : Nat) (w : World) : Sem.run Tryz.prog (binOp .eql 32 (.slice (some a) n cap) (.slice none 0 0)) w = .ok (.bool false) w := by
  obtain ⟨b, o, f⟩ := a
  first | (simp [binOp, go_sem]; done) | kernel_rfl | rfl
theorem nil_rows (w : World) : Sem.run Tryz.prog (binOp .eql 32 (.slice none 0 0) (.slice none 0 0)) w = .ok (.bool true) w := by
  first | (simp [binOp, go_sem]; done) | kernel_rfl | rfl
theorem slice_form {v : Value} {n : Nat} {W : World} {B : Nat} {t : TypeId} {sz : Nat} {xs : List Value} (h : W.ownsRow B t sz v n xs) : ∃ A c, v = .slice A n c ∧ nilOk A n c ∧ ∀ a, A = some a → ∃ g cur, a = ⟨g, 0, none⟩ ∧ B ≤ g ∧ W.heap[g]? = some (.cells cur t (0, 0)) := by
  rcases h.2 with ⟨rfl, rfl⟩ | ⟨g, cap, cur, rfl, hB, hg, _⟩
  · exact ⟨none, 0, rfl, fun _ => ⟨rfl, rfl⟩, fun a e => by cases e⟩
  · exact ⟨_, _, rfl, (fun e => by cases e), fun a e => by injection e with e; exact ⟨g, cur, e.symm, hB, hg⟩⟩
set_option maxRecDepth 100000 in
set_option maxHeartbeats 4000000 in
theorem rclone_any (X : Nat → Prop) (A : Option Addr) (n c : Nat) (rows : List (List Vl)) (w : World) (hn : nilOk A n c) (hr : RowsAt w X A n rows) :
    Calls Tryz.prog 63 #[.slice A n c] w fun e w' => ∃ A' c', e = .returned (.slice A' n c') ∧ nilOk A' n c' ∧ (∀ a, A' = some a → ∃ g cur, a = ⟨g, 0, none⟩ ∧ w.heap.size ≤ g ∧ w'.heap[g]? = some (.cells cur 47 (0, 0))) ∧ RowsAt w' (fun b => w.heap.size ≤ b) A' n rows ∧ Below w.heap.size w w' := by
  cases A with
  | none =>
    obtain ⟨rfl, rfl⟩ := hn rfl
    go_enter Tryz.func63, Tryz.ntmps63
    go_wp2_with (fail)
    rw [nil_rows]
    go_wp2_with (fail)
    go_ret
    exact ⟨none, 0, rfl, (fun _ => ⟨rfl, rfl⟩), (fun a e => by cases e), ⟨hr.1, hr.2.1, fun j hj => absurd hj (by have := hr.1; omega)⟩, Below.refl _ _⟩
  | some a =>
    have HR := Lib.hid hr
    have hl := hr.1
    have hn1 := hr.2.1
    have hall : ∃ ss : List Value, ss.length = n ∧ ∀ j (hj : j < n), w.cell? (a.add j) = ss[j]? ∧ ∃ D m c, ss[j]? = some (.slice D m c) ∧ nilOk D m c ∧ m ≤ 1000 ∧ Vals w w.heap.size D m (rows[j]'(by omega)) := by
      have each : ∀ j, j < n → ∃ v, w.cell? (a.add j) = some v := fun j hj => by
        obtain ⟨a', D, m, c, e, hc, _⟩ := hr.2.2 j (by omega)
        injection e with e
        subst e
        exact ⟨_, hc⟩
      refine ⟨(List.range n).map fun i => if h : i < n then Classical.choose (each i h) else .bool false, by simp, fun j hj => ?_⟩
      have e1 : ((List.range n).map fun i => if h : i < n then Classical.choose (each i h) else .bool false)[j]? = some (Classical.choose (each j hj)) := by
        rw [List.getElem?_map, List.getElem?_range hj]
        simp [hj]
      have h1 := Classical.choose_spec (each j hj)
      refine ⟨h1.trans e1.symm, ?_⟩
      obtain ⟨a', D, m, c, e, hc, g1, g2, g3, _⟩ := hr.2.2 j (by omega)
      injection e with e
      subst e
      exact ⟨D, m, c, e1.trans (h1.symm.trans hc), g1, g2, g3⟩
    obtain ⟨ss, hss, hat⟩ := hall
    obtain ⟨i0, hi, hz0, hz1, hz2⟩ := info_parts infoVs
    have HOw : Hid ((w.alloc (.cells #[] 47)).ownsRow w.heap.size 47 1 (.slice (some ⟨w.heap.size, 0, none⟩) 0 0) 0 []) := ⟨rfl, .inr ⟨w.heap.size, 0, #[], rfl, Nat.le_refl _, alloc_at rfl _, by omega, by unfold maxLen; omega, rfl, rfl⟩⟩
    have HAT := Lib.hid hat
    clear hr hn hat
    go_enter Tryz.func63, Tryz.ntmps63
    go_wp2_with (fail)
    rw [nn_rows]
    go_wp2_with (at_builtin; refine wpList_append_own _ rfl _ _ 32 rfl w.heap.size 47 i0 _ 1 24 Tryz.underlying32 hi hz0 hz1 hz2 rfl (by decide) (.slice (some ⟨w.heap.size, 0, none⟩) 0 0) 0 [] rfl HOw.out a n c ss rfl (by rw [hss, Nat.mul_one]) ?c1 ?c2 ?c3 ?c4 ?c5 ?_)
    case c1 =>
      intro j u hu
      have hj : j < n := by rw [← hss]; exact (List.getElem?_eq_some_iff.1 hu).1
      have hc := (HAT.out j hj).1.trans hu
      exact (((Below.refl w.heap.size w).alloc (Nat.le_refl _) _).cell (World.block_lt_of_cell? w _ hc)).trans hc
    case c2 =>
      intro u hu
      obtain ⟨j, hj, rfl⟩ := List.getElem_of_mem hu
      obtain ⟨D, m, c, e, _⟩ := (HAT.out j (by omega)).2
      rw [List.getElem?_eq_getElem hj] at e
      injection e with e
      rw [e]
      rfl
    case c3 => unfold maxLen; omega
    case c4 => omega
    case c5 => simp
    intro v' w2 hown hgrow hnil
    try rw [Nat.zero_add, List.nil_append] at hown
    have HB2 : Hid (Below w.heap.size w w2) := below_own6 ((Below.refl _ _).alloc (Nat.le_refl _) _) (own_geN HOw.out) hgrow
    have HO := Lib.hid hown
    obtain ⟨A', c', rfl, hn', hg'⟩ := slice_form hown
    have HN := Lib.hid (And.intro hn' hg')
    clear hown hgrow hnil hn' hg'
    go_wp2_with (fail)
    go_ret
    refine ⟨A', c', rfl, HN.out.1, HN.out.2, ⟨hl, hn1, fun j hj => ?_⟩, HB2.out⟩
    have hjn : j < n := by omega
    obtain ⟨D, m, c2, e, g1, g2, g3⟩ := (HAT.out j hjn).2
    rcases HO.out.2 with ⟨e0, h0⟩ | ⟨g, cap, cur, e0, hB, hg, hcc, hmm, hsz, htk⟩
    · omega
    · injection e0 with e1 _ e3
      subst e1 e3
      refine ⟨⟨g, 0, none⟩, D, m, c2, rfl, ?_, g1, g2, g3.below HB2.out, fun a' ea => (g3.in_ ea).imp id fun h => by show ¬ w.heap.size ≤ a'.block; omega⟩
      rw [show (⟨g, 0, none⟩ : Addr).add j = ⟨g, j, none⟩ by unfold Addr.add; split <;> simp_all]
      rw [HO.out.cellAt j (by omega)]
      exact e
end Go.Proofs.YtmhkmliebhbkdaaGreat

/- rel.copied: its loop. -/
namespace Go.Proofs.YtmhkmliebhbkdaaGreat
open Go.RowKit Go.Lib

/-- One row's slice is replaced by another one of the same values. -/
theorem RowsAt.put {W : World} {g n m c j : Nat} {rows : List (List Vl)} {D : Option Addr} {cur : Array Value} (h : RowsAt W (fun b => b = g) (some ⟨g, 0, none⟩) n rows) (hg : W.heap[g]? = some (.cells cur 47 (0, 0))) (hj : j < rows.length) (h1 : nilOk D m c) (h2 : m ≤ 1000) (h3 : Vals W W.heap.size D m rows[j]) (h4 : ∀ a', D = some a' → m = 0 ∨ a'.block ≠ g) :
    RowsAt (W.setCell ⟨g, j, none⟩ (.slice D m c)) (fun b => b = g) (some ⟨g, 0, none⟩) n rows := by
  have hz := any_set6 hg j (.slice D m c)
  have sz : (W.setCell ⟨g, j, none⟩ (.slice D m c)).heap.size = W.heap.size := by simp [World.setCell]
  have keep : ∀ (D' : Option Addr) (m' : Nat) (row : List Vl), Vals W W.heap.size D' m' row → (∀ a', D' = some a' → m' = 0 ∨ a'.block ≠ g) → Vals (W.setCell ⟨g, j, none⟩ (.slice D m c)) (W.setCell ⟨g, j, none⟩ (.slice D m c)).heap.size D' m' row := fun D' m' row hv hx =>
    hv.same (by rw [sz]; exact Nat.le_refl _) fun a e => (hx a e).imp id fun k => Below.heap_setCell _ _ _ _ k
  have hadd : ∀ q, (⟨g, 0, none⟩ : Addr).add q = ⟨g, q, none⟩ := fun q => by unfold Addr.add; split <;> simp_all
  refine ⟨h.1, h.2.1, fun q hq => ?_⟩
  by_cases hjq : j = q
  · subst hjq
    obtain ⟨a, D', m', c', e, hc, _⟩ := h.2.2 j hq
    injection e with e
    subst e
    rw [hadd] at hc
    have hlt : j < cur.size := by
      have := (Lib.cell_of_heap hg j).symm.trans hc
      exact (Array.getElem?_eq_some_iff.1 this).1
    refine ⟨⟨g, 0, none⟩, D, m, c, rfl, ?_, h1, h2, keep D m _ h3 h4, fun a' e => (h4 a' e).imp id fun k => k⟩
    rw [hadd, Lib.cell_of_heap hz j, Array.getElem?_setIfInBounds_self_of_lt hlt]
  · obtain ⟨a, D', m', c', e, hc, g1, g2, g3, g4⟩ := h.2.2 q hq
    injection e with e
    subst e
    rw [hadd] at hc
    refine ⟨⟨g, 0, none⟩, D', m', c', rfl, ?_, g1, g2, keep D' m' _ g3 (fun a' e => (g4 a' e).imp id fun k => k), g4⟩
    rw [hadd, Lib.cell_of_heap hz q, Array.getElem?_setIfInBounds_ne hjq]
    exact (Lib.cell_of_heap hg q).symm.trans hc
set_option maxRecDepth 100000 in
set_option maxHeartbeats 4000000 in
theorem copied_any (X : Nat → Prop) (A : Option Addr) (n c : Nat) (rows : List (List Vl)) (w : World) (hn : nilOk A n c) (hr : RowsAt w X A n rows) :
    Calls Tryz.prog 31 #[.slice A n c] w fun e w' => ∃ A' c', e = .returned (.slice A' n c') ∧ nilOk A' n c' ∧ RowsAt w' (fun _ => False) A' n rows ∧ Below w.heap.size w w' := by
  have HC := Lib.hid (rclone_any X A n c rows w hn hr)
  have HL := Lib.hid hr.1
  have hn1 := hr.2.1
  clear hn hr
  go_enter Tryz.func31, Tryz.ntmps31
  go_wp2_with (go_at_call 63; (with_reducible refine HC.out.mono ?_); rintro e w1 ⟨A', c', rfl, hn', hg', hr', hb1⟩; have H1 := Lib.hid (And.intro hn' (And.intro hg' (And.intro hr' hb1))); clear hn' hg' hr' hb1 HC)
  cases A' with
  | none =>
    have h0 : n = 0 := (H1.out.1 rfl).1
    subst h0
    obtain rfl : c' = 0 := (H1.out.1 rfl).2
    refine wp_loop_once ?_
    go_wp2_with (fail)
    go_ret
    exact ⟨none, 0, rfl, H1.out.1, H1.out.2.2.1.any (fun _ _ h => h.elim), H1.out.2.2.2⟩
  | some a =>
    obtain ⟨g, cur0, rfl, hgw, hg0⟩ := H1.out.2.1 a rfl
    go_loopw [9] (fun iv wr => ∃ j : Nat, iv = .int .i64 j ∧ j ≤ n ∧ Hid (Below w.heap.size w wr ∧ RowsAt wr (fun b => b = g) (some ⟨g, 0, none⟩) n rows ∧ ∃ cur, wr.heap[g]? = some (.cells cur 47 (0, 0)))) (fun iv _ => n - (intOf iv).toNat)
    case atStart => exact ⟨0, rfl, by omega, Lib.hid ⟨H1.out.2.2.2, H1.out.2.2.1.any (fun b _ h => by rw [h]; exact hgw), cur0, hg0⟩⟩
    case round =>
      obtain ⟨j, rfl, hj, HS⟩ := hrel
      obtain ⟨cur, hg⟩ := HS.out.2.2
      have HG := Lib.hid hg
      have hgl := lt_of_block hg
      clear hg
      by_cases hlt : j < n
      · have hjl : j < rows.length := by rw [HL.out]; exact hlt
        obtain ⟨a, D, m, cd, e, hc, g1, g2, g3, g4⟩ := HS.out.2.1.2.2 j hjl
        injection e with e
        subst e
        rw [show (⟨g, 0, none⟩ : Addr).add j = ⟨g, j, none⟩ by unfold Addr.add; split <;> simp_all] at hc
        have HV := Lib.hid (vclone_any D m cd rows[j] wr g1 g2 g3)
        have hm := g2
        clear g1 g2 g3 g4
        go_wp2_with (go_at_call 64; (with_reducible refine HV.out.mono ?_); rintro e w2 ⟨D', c2, rfl, q1, q2, q3, hb2⟩; have H2 := Lib.hid (And.intro q1 (And.intro q2 (And.intro q3 hb2))); have hg2 := (hb2.block _ hgl).trans HG.out; have bf := Lib.frozen_of_heap hg2; have bc := (hb2.cell (p := ⟨g, j, none⟩) hgl).trans hc; have bl := lt_of_block hg2; have HG2 := Lib.hid hg2; clear q1 q2 q3 hb2 hg2 HV hc)
        go_roundw
        case rel => exact ⟨j + 1, by go_num, by omega, Lib.hid ⟨(HS.out.1.trans (H2.out.2.2.2.mono HS.out.1.size)).setCell (by show w.heap.size ≤ g; omega) _, (HS.out.2.1.below H2.out.2.2.2).put HG2.out hjl H2.out.1 hm H2.out.2.1 (fun a' e => .inr (by have := H2.out.2.2.1 a' e; omega)), _, any_set6 HG2.out j _⟩⟩
        case measure => simp [intOf]; omega
      · go_wp2_with (fail)
        go_ret
        exact ⟨some ⟨g, 0, none⟩, c', rfl, (fun e => by cases e), HS.out.2.1.any (fun _ _ h => h.elim), HS.out.1⟩
end Go.Proofs.YtmhkmliebhbkdaaGreat

/- rel.Where. -/
namespace Go.Proofs.YtmhkmliebhbkdaaGreat
open Go.RowKit Go.Lib

def trueB (x : Vl) : Bool := decide (x.k = 3 ∧ x.i = 1 ∧ x.s.toList = [])
/-- The rows over which a condition is TRUE, and the error. -/
def whereR (cols : List Cl) (rows : List (List Vl)) (t : Ex) : List (List Vl) × Int :=
  if t.op.toList = [] then (rows, 0) else if (typT cols t).2 = 0 then (if (typT cols t).1 = 3 ∨ (typT cols t).1 = 0 then (rows.filter (fun r => trueB (evalT cols r t)), 0) else ([], 5)) else ([], (typT cols t).2)
/-- Some rows of the call's own, of slices that lay there. -/
def OwnRs (w1 : World) (W : World) (v : Value) (rows : List (List Vl)) : Prop :=
  ∃ ss : List Value, W.ownsRow w1.heap.size 47 1 v rows.length ss ∧ ∀ q (h : q < rows.length), ∃ D m c, ss[q]? = some (.slice D m c) ∧ nilOk D m c ∧ m ≤ 1000 ∧ Vals w1 w1.heap.size D m rows[q]
theorem OwnRs.rows {w1 W : World} {v : Value} {rows : List (List Vl)} (h : OwnRs w1 W v rows) (hb : Below w1.heap.size w1 W) (hn : rows.length ≤ 1000) : ∃ A c, v = .slice A rows.length c ∧ nilOk A rows.length c ∧ RowsAt W (fun _ => False) A rows.length rows := by
  obtain ⟨ss, ho, hat⟩ := h
  have hl : ss.length = rows.length := by have := ho.1; omega
  rcases ho.2 with ⟨rfl, h0⟩ | ⟨g, cap, cur, rfl, hB, hg, hc, hm, hs, ht⟩
  · rw [h0]
    refine ⟨none, 0, rfl, (fun _ => ⟨rfl, rfl⟩), ⟨h0, by omega, fun j hj => absurd hj (by omega)⟩⟩
  · refine ⟨_, cap, rfl, (fun e => by cases e), ⟨rfl, hn, fun j hj => ?_⟩⟩
    obtain ⟨D, m, c, e, g1, g2, g3⟩ := hat j hj
    refine ⟨⟨g, 0, none⟩, D, m, c, rfl, ?_, g1, g2, (g3.keep hb).more hb.size, fun a' _ => .inr (fun h => h)⟩
    rw [show (⟨g, 0, none⟩ : Addr).add j = ⟨g, j, none⟩ by unfold Addr.add; split <;> simp_all]
    rw [ho.cellAt j (by omega)]
    exact e
theorem OwnRs.snoc {w1 W' : World} {v' : Value} {ss : List Value} {rows : List (List Vl)} {D : Option Addr} {m c : Nat} {r : List Vl} (ho : W'.ownsRow w1.heap.size 47 1 v' (rows.length + 1) (ss ++ [.slice D m c])) (hl : ss.length = rows.length)
    (hat : ∀ q (h : q < rows.length), ∃ D m c, ss[q]? = some (.slice D m c) ∧ nilOk D m c ∧ m ≤ 1000 ∧ Vals w1 w1.heap.size D m rows[q]) (g1 : nilOk D m c) (g2 : m ≤ 1000) (g3 : Vals w1 w1.heap.size D m r) : OwnRs w1 W' v' (rows ++ [r]) := by
  refine ⟨ss ++ [.slice D m c], by rw [List.length_append]; exact ho, fun q hq => ?_⟩
  by_cases h : q < rows.length
  · obtain ⟨D', m', c', e, k1, k2, k3⟩ := hat q h
    refine ⟨D', m', c', ?_, k1, k2, ?_⟩
    · rw [List.getElem?_append_left (by omega)]
      exact e
    · rw [List.getElem_append_left h]
      exact k3
  · have hq' : q = rows.length := by rw [List.length_append] at hq; simp at hq; omega
    subst hq'
    refine ⟨D, m, c, ?_, g1, g2, ?_⟩
    · rw [List.getElem?_append_right (by omega), hl]
      simp
    · rw [List.getElem_append_right (by omega)]
      simpa using g3
theorem filter_next {f : List Vl → Bool} {rows : List (List Vl)} {j : Nat} (h : j < rows.length) : (rows.take (j + 1)).filter f = (rows.take j).filter f ++ (if f rows[j] = true then [rows[j]] else []) := by
  rw [List.take_succ_eq_append_getElem h, List.filter_append]
  congr 1
  cases hf : f rows[j] with
  | true => simp [hf]
  | false => simp [hf]
theorem OwnRs.below {w1 W W' : World} {v : Value} {rows : List (List Vl)} (h : OwnRs w1 W v rows) (hb : Below W.heap.size W W') : OwnRs w1 W' v rows := by
  obtain ⟨ss, ho, hat⟩ := h
  exact ⟨ss, ho.kept (row := none) (grow_below hb none) (by cases h : v.ownBlock with | none => exact .inl rfl | some _ => exact .inr (by simp)), hat⟩
set_option maxRecDepth 100000 in
set_option maxHeartbeats 4000000 in
theorem where_any (nm : ByteArray) (A : Option Addr) (n c : Nat) (key : Int) (U : Option Addr) (m cu : Nat) (R : Option Addr) (p cr : Nat) (op : ByteArray) (k i : Int) (vs s : ByteArray) (B : Option Addr) (q d : Nat) (Ar : Option Addr) (nr ca : Nat) (cols : List Cl) (rows : List (List Vl)) (X : Nat → Prop) (oe : ByteArray) (ke ie : Int) (ve se : ByteArray) (Be : Option Addr) (pe qe : Nat) (le : List Ex) (P : Nat → Prop) (N : Nat) (w : World) (hc : ColS w A n cols) (hn : nilOk Ar nr ca) (hr : RowsAt w X Ar nr rows) (ht : Tr w P N (.mk oe ⟨ke, ie, ve⟩ se le) (.slice Be pe qe)) :
    Calls Tryz.prog 14 #[.agg #[.string nm, .slice A n c, .int .i64 key, .slice U m cu, .slice R p cr, .string op, .int .i64 k, .int .i64 i, .string vs, .string s, .slice B q d, .slice Ar nr ca], .agg #[.string oe, .int .i64 ke, .int .i64 ie, .string ve, .string se, .slice Be pe qe]] w fun e w' => ∃ A' n' c', e = .returned (.tuple #[.slice A' n' c', .int .i64 (whereR cols rows (.mk oe ⟨ke, ie, ve⟩ se le)).2]) ∧ nilOk A' n' c' ∧ RowsAt w' (fun _ => False) A' n' (whereR cols rows (.mk oe ⟨ke, ie, ve⟩ se le)).1 ∧ Below w.heap.size w w' := by
  have HC := Lib.hid hc
  have HT := Lib.hid ht
  have HR := Lib.hid hr
  have HL := Lib.hid hr.1
  have hn1 := hr.2.1
  have HCP : Hid (∀ W, Below w.heap.size w W → Calls Tryz.prog 31 #[.slice Ar nr ca] W fun e w' => ∃ A' c', e = .returned (.slice A' nr c') ∧ nilOk A' nr c' ∧ RowsAt w' (fun _ => False) A' nr rows ∧ Below W.heap.size W w') := Lib.hid fun W hW => copied_any X Ar nr ca rows W hn (hr.below hW)
  have HTY : Hid (∀ W, Below w.heap.size w W → Calls Tryz.prog 32 #[.agg #[.string oe, .int .i64 ke, .int .i64 ie, .string ve, .string se, .slice Be pe qe], .slice A n c] W fun e w' => e = .returned (.tuple #[.int .i64 (typT cols (.mk oe ⟨ke, ie, ve⟩ se le)).1, .int .i64 (typT cols (.mk oe ⟨ke, ie, ve⟩ se le)).2]) ∧ Below W.heap.size W w') := Lib.hid fun W hW => etype_any A n c cols P N (.mk oe ⟨ke, ie, ve⟩ se le) (.slice Be pe qe) W (ht.below hW) (hc.below hW)
  have HN := Lib.hid hn
  obtain ⟨RR, HRR⟩ : ∃ R, Hid (whereR cols rows (.mk oe ⟨ke, ie, ve⟩ se le) = R) := ⟨_, Lib.hid rfl⟩
  rw [HRR.out]
  clear hc ht hr hn
  go_enter Tryz.func14, Tryz.ntmps14
  go_upto_region 1 with (fail)
  refine wp_gen (fun W => Below w.heap.size w W ∧ W.heap[w.heap.size]? = some (.cells #[.string nm, .slice A n c, .int .i64 key, .slice U m cu, .slice R p cr, .string op, .int .i64 k, .int .i64 i, .string vs, .string s, .slice B q d, .slice Ar nr ca] 34 (0, 0)) ∧ W.heap[w.heap.size + 1]? = some (.cells #[.string oe, .int .i64 ke, .int .i64 ie, .string ve, .string se, .slice Be pe qe] 29 (0, 0))) ⟨((Below.refl _ _).alloc (Nat.le_refl _) _).alloc (by simp) _, (Below.heap_alloc _ _ _ (by simp)).trans (alloc_at rfl _), alloc_at (by simp) _⟩ fun w1 hw1 => ?_
  have H1 := Lib.hid hw1
  have x1 := Lib.cell_of_heap hw1.2.1 1
  have x11 := Lib.cell_of_heap hw1.2.1 11
  simp only [List.getElem?_toArray, List.getElem?_cons_zero, List.getElem?_cons_succ] at x1 x11
  have h0 := Lib.cell_of_heap hw1.2.2 0
  have h1 := Lib.cell_of_heap hw1.2.2 1
  have h2 := Lib.cell_of_heap hw1.2.2 2
  have h3 := Lib.cell_of_heap hw1.2.2 3
  have h4 := Lib.cell_of_heap hw1.2.2 4
  have h5 := Lib.cell_of_heap hw1.2.2 5
  simp only [List.getElem?_toArray, List.getElem?_cons_zero, List.getElem?_cons_succ] at h0 h1 h2 h3 h4 h5
  have hl1 := lt_of_block hw1.2.2
  have hl0 := lt_of_block hw1.2.1
  clear hw1
  by_cases hoe : oe.toList = []
  · obtain rfl : RR = (rows, 0) := by rw [← HRR.out]; unfold whereR; rw [if_pos (show (Ex.op (.mk oe ⟨ke, ie, ve⟩ se le)).toList = [] from hoe)]
    go_wp2_with (go_at_call 31; (with_reducible refine (HCP.out _ H1.out.1).mono ?_); rintro e w9 ⟨A9, c9, rfl, k1, k2, hb9⟩; have H9 := Lib.hid (And.intro k1 (And.intro k2 (H1.out.1.trans (hb9.mono H1.out.1.size)))); clear k1 k2 hb9)
    go_ret2
    exact ⟨A9, nr, c9, rfl, H9.out.1, H9.out.2.1, H9.out.2.2⟩
  · have e2 : oe.toList.isEmpty = false := by
      cases h : oe.toList with
      | nil => exact absurd h hoe
      | cons _ _ => rfl
    obtain ⟨R, HTR⟩ : ∃ R, Hid (typT cols (.mk oe ⟨ke, ie, ve⟩ se le) = R) := ⟨_, Lib.hid rfl⟩
    rw [HTR.out] at HTY
    obtain ⟨r1, r2⟩ := R
    dsimp only at HTY
    by_cases h2 : r2 = 0
    · subst h2
      by_cases h3 : r1 = 3 ∨ r1 = 0
      · have hR : RR = (rows.filter (fun r => trueB (evalT cols r (.mk oe ⟨ke, ie, ve⟩ se le))), 0) := by rw [← HRR.out]; unfold whereR; rw [if_neg (show ¬ (Ex.op (.mk oe ⟨ke, ie, ve⟩ se le)).toList = [] from hoe), HTR.out, if_pos rfl, if_pos h3]
        obtain ⟨RR1, RR2⟩ := RR
        injection hR with hR1 hR2
        subst hR1 hR2
        have q3 : ((r1 != 3) && (r1 != 0)) = false := by
          rcases h3 with h | h <;> simp [h]
        rcases h3 with h3 | h3
        all_goals subst h3
        all_goals go_upto_region 8 with (go_at_call 32; (with_reducible refine (HTY.out _ H1.out.1).mono ?_); rintro e w2 ⟨rfl, hb2⟩; have H2 := Lib.hid (And.intro (H1.out.1.trans (hb2.mono H1.out.1.size)) (And.intro ((hb2.block _ hl0).trans H1.out.2.1) ((hb2.block _ hl1).trans H1.out.2.2))); have hy2 := hb2.size; clear hb2)
        all_goals
          refine wp_gen (fun W => Below w.heap.size w W ∧ W.heap[w.heap.size]? = some (.cells #[.string nm, .slice A n c, .int .i64 key, .slice U m cu, .slice R p cr, .string op, .int .i64 k, .int .i64 i, .string vs, .string s, .slice B q d, .slice Ar nr ca] 34 (0, 0)) ∧ W.heap[w.heap.size + 1]? = some (.cells #[.string oe, .int .i64 ke, .int .i64 ie, .string ve, .string se, .slice Be pe qe] 29 (0, 0))) H2.out fun w3 hw3 => ?_
          have H3 := Lib.hid hw3
          have x1 := Lib.cell_of_heap hw3.2.1 1
          have x11 := Lib.cell_of_heap hw3.2.1 11
          simp only [List.getElem?_toArray, List.getElem?_cons_zero, List.getElem?_cons_succ] at x1 x11
          have hl3 := lt_of_block hw3.2.1
          have hm3 := lt_of_block hw3.2.2
          clear hw3 H2 H1 hl0 hl1 h0 h1 h2 h3 h4 h5 q3 e2
          go_wp2_with (fail)
          have HRW := Lib.hid (HR.out.below H3.out.1)
          obtain ⟨i0, hi, hz0, hz1, hz2⟩ := info_parts infoVs
          go_loopw [8, 41] (fun lv iv wr => ∃ j : Nat, iv = .int .i64 j ∧ j ≤ nr ∧ Hid (Below w3.heap.size w3 wr ∧ OwnRs w3 wr lv ((rows.take j).filter (fun r => trueB (evalT cols r (.mk oe ⟨ke, ie, ve⟩ se le)))))) (fun _ iv _ => nr - (intOf iv).toNat)
          case atStart => exact ⟨0, rfl, by omega, Lib.hid ⟨Below.refl _ _, [], World.ownsRow_nil _ _ _ _, fun q hq => absurd hq (by simp)⟩⟩
          case round =>
            obtain ⟨j, rfl, hj, HS⟩ := hrel
            have hs3 := HS.out.1.size
            have hb2 := (HS.out.1.block _ hl3).trans H3.out.2.1
            have hb3 := (HS.out.1.block _ hm3).trans H3.out.2.2
            clear x1 x11
            have x1 := Lib.cell_of_heap hb2 1
            have x11 := Lib.cell_of_heap hb2 11
            simp only [List.getElem?_toArray, List.getElem?_cons_zero, List.getElem?_cons_succ] at x1 x11
            have h0 := Lib.cell_of_heap hb3 0
            have h1 := Lib.cell_of_heap hb3 1
            have h2 := Lib.cell_of_heap hb3 2
            have h3 := Lib.cell_of_heap hb3 3
            have h4 := Lib.cell_of_heap hb3 4
            have h5 := Lib.cell_of_heap hb3 5
            simp only [List.getElem?_toArray, List.getElem?_cons_zero, List.getElem?_cons_succ] at h0 h1 h2 h3 h4 h5
            have hl2 := lt_of_block hb2
            have hm2 := lt_of_block hb3
            clear hb2 hb3
            by_cases hlt : j < nr
            · have hjl : j < rows.length := by rw [HL.out]; exact hlt
              obtain ⟨a, D, m, cd, e, hcell, g1, g2, g3, _⟩ := HRW.out.2.2 j hjl
              subst e
              have hcl := (HS.out.1.cell (World.block_lt_of_cell? w3 _ hcell)).trans hcell
              have hcb := World.block_lt_of_cell? wr _ hcl
              obtain ⟨r0, HR0⟩ : ∃ r, Hid (rows[j] = r) := ⟨_, Lib.hid rfl⟩
              rw [HR0.out] at g3
              have HG := Lib.hid (And.intro g1 (And.intro g2 g3))
              have HBW : Hid (Below w.heap.size w wr) := H3.out.1.trans (HS.out.1.mono H3.out.1.size)
              have HEV := Lib.hid (evalT_any A n c cols D m cd r0 (by unfold maxLen; omega) P N (.mk oe ⟨ke, ie, ve⟩ se le) (.slice Be pe qe) wr (HT.out.below HBW.out) (HC.out.below HBW.out) ((g3.keep HS.out.1).more hs3))
              unfold EVt at HEV
              simp only [Ex.op, Ex.x, Ex.s] at HEV
              obtain ⟨xx, HXX⟩ : ∃ z, Hid (evalT cols r0 (.mk oe ⟨ke, ie, ve⟩ se le) = z) := ⟨_, Lib.hid rfl⟩
              rw [HXX.out] at HEV
              clear hcell g1 g3
              by_cases hk : xx.k = 3
              · by_cases hi1 : xx.i = 1
                · by_cases hs1 : xx.s.toList = []
                  · obtain ⟨ss, ho, hat⟩ := HS.out.2
                    have hssl : ss.length = ((rows.take j).filter (fun r => trueB (evalT cols r (.mk oe ⟨ke, ie, ve⟩ se le)))).length := by have := ho.1; omega
                    have hlen : ((rows.take j).filter (fun r => trueB (evalT cols r (.mk oe ⟨ke, ie, ve⟩ se le)))).length ≤ 1000 := by
                      have h1 := List.length_filter_le (fun r => trueB (evalT cols r (.mk oe ⟨ke, ie, ve⟩ se le))) (rows.take j)
                      rw [List.length_take] at h1
                      omega
                    obtain ⟨FL, HFL⟩ : ∃ z, Hid ((rows.take j).filter (fun r => trueB (evalT cols r (.mk oe ⟨ke, ie, ve⟩ se le))) = z) := ⟨_, Lib.hid rfl⟩
                    rw [HFL.out] at ho hat hssl hlen
                    have HO := Lib.hid ho
                    have HAT := Lib.hid hat
                    clear ho hat
                    go_wp2_with (first
                      | (go_at_call 33; (with_reducible refine HEV.out.mono ?_); rintro e w7 ⟨rfl, hb7⟩; have H7 := Lib.hid (And.intro (HS.out.1.trans (hb7.mono HS.out.1.size)) (HS.out.2.below hb7)); have HB7 := Lib.hid hb7; clear hb7)
                      | (at_builtin; refine wpList_append_own _ rfl _ _ 32 rfl w3.heap.size 47 i0 _ 1 24 Tryz.underlying32 hi hz0 hz1 hz2 rfl (by decide) u8 FL.length ss rfl (World.ownsRow.alloc (HO.out.kept (row := none) (grow_below HB7.out none) (by cases h : u8.ownBlock with | none => exact .inl rfl | some _ => exact .inr (by simp))) _) ⟨w7.heap.size, 0, none⟩ 1 1 [.slice D m cd] rfl rfl ?c1 ?c2 ?c3 ?c4 ?c5 ?_))
                    case c1 => exact newSl_cells (alloc_at rfl _)
                    case c2 => intro u hu; simp at hu; subst hu; rfl
                    case c3 => unfold maxLen; omega
                    case c4 => omega
                    case c5 => have := H7.out.1.size; simp; omega
                    intro v' w8 hown' hgrow _
                    have HBN : Hid (Below w3.heap.size w3 w8) := below_own6 (H7.out.1.alloc H7.out.1.size _) (own_geN HO.out) hgrow
                    have HON := Lib.hid hown'
                    clear hown' hgrow
                    go_wp2_with (fail)
                    go_roundw
                    case rel => exact ⟨j + 1, by go_num, by omega, Lib.hid ⟨HBN.out, by rw [filter_next hjl, HR0.out, if_pos (by show trueB (evalT cols r0 (.mk oe ⟨ke, ie, ve⟩ se le)) = true; rw [HXX.out]; unfold trueB; simp [*]), HFL.out]; exact OwnRs.snoc HON.out hssl HAT.out HG.out.1 HG.out.2.1 HG.out.2.2⟩⟩
                    case measure => simp [intOf]; omega
                  · go_wp2_with (go_at_call 33; (with_reducible refine HEV.out.mono ?_); rintro e w7 ⟨rfl, hb7⟩; have H7 := Lib.hid (And.intro (HS.out.1.trans (hb7.mono HS.out.1.size)) (HS.out.2.below hb7)); have HB7 := Lib.hid hb7; clear hb7)
                    go_roundw
                    case rel => exact ⟨j + 1, by go_num, by omega, Lib.hid ⟨H7.out.1, by rw [filter_next hjl, HR0.out, if_neg (by show ¬ trueB (evalT cols r0 (.mk oe ⟨ke, ie, ve⟩ se le)) = true; rw [HXX.out]; unfold trueB; simp [*]), List.append_nil]; exact H7.out.2⟩⟩
                    case measure => simp [intOf]; omega
                · go_wp2_with (go_at_call 33; (with_reducible refine HEV.out.mono ?_); rintro e w7 ⟨rfl, hb7⟩; have H7 := Lib.hid (And.intro (HS.out.1.trans (hb7.mono HS.out.1.size)) (HS.out.2.below hb7)); have HB7 := Lib.hid hb7; clear hb7)
                  go_roundw
                  case rel => exact ⟨j + 1, by go_num, by omega, Lib.hid ⟨H7.out.1, by rw [filter_next hjl, HR0.out, if_neg (by show ¬ trueB (evalT cols r0 (.mk oe ⟨ke, ie, ve⟩ se le)) = true; rw [HXX.out]; unfold trueB; simp [*]), List.append_nil]; exact H7.out.2⟩⟩
                  case measure => simp [intOf]; omega
              · go_wp2_with (go_at_call 33; (with_reducible refine HEV.out.mono ?_); rintro e w7 ⟨rfl, hb7⟩; have H7 := Lib.hid (And.intro (HS.out.1.trans (hb7.mono HS.out.1.size)) (HS.out.2.below hb7)); have HB7 := Lib.hid hb7; clear hb7)
                go_roundw
                case rel => exact ⟨j + 1, by go_num, by omega, Lib.hid ⟨H7.out.1, by rw [filter_next hjl, HR0.out, if_neg (by show ¬ trueB (evalT cols r0 (.mk oe ⟨ke, ie, ve⟩ se le)) = true; rw [HXX.out]; unfold trueB; simp [*]), List.append_nil]; exact H7.out.2⟩⟩
                case measure => simp [intOf]; omega
            · obtain rfl : j = nr := by omega
              have hrt : rows.take j = rows := List.take_of_length_le (by have := HL.out; omega)
              have h2 := HS.out.2
              rw [hrt] at h2
              obtain ⟨A8, c8, rfl, k1, k2⟩ := h2.rows HS.out.1 (by have h1 := List.length_filter_le (fun r => trueB (evalT cols r (.mk oe ⟨ke, ie, ve⟩ se le))) rows; have := HL.out; omega)
              have HCP2 := Lib.hid (copied_any (fun _ => False) A8 _ c8 (rows.filter (fun r => trueB (evalT cols r (.mk oe ⟨ke, ie, ve⟩ se le)))) wr k1 k2)
              have HBW : Hid (Below w.heap.size w wr) := H3.out.1.trans (HS.out.1.mono H3.out.1.size)
              obtain ⟨LN, HLN⟩ : ∃ z, Hid ((rows.filter (fun r => trueB (evalT cols r (.mk oe ⟨ke, ie, ve⟩ se le)))).length = z) := ⟨_, Lib.hid rfl⟩
              rw [HLN.out] at HCP2 ⊢
              clear k1 k2 h2
              go_wp2_with (go_at_call 31; (with_reducible refine HCP2.out.mono ?_); rintro e w9 ⟨A9, c9, rfl, k1, k2, hb9⟩; have H9 := Lib.hid (And.intro k1 (And.intro k2 (HBW.out.trans (hb9.mono HBW.out.size)))); clear k1 k2 hb9)
              go_ret2
              exact ⟨A9, LN, c9, rfl, H9.out.1, H9.out.2.1, H9.out.2.2⟩
      · obtain rfl : RR = ([], 5) := by rw [← HRR.out]; unfold whereR; rw [if_neg (show ¬ (Ex.op (.mk oe ⟨ke, ie, ve⟩ se le)).toList = [] from hoe), HTR.out, if_pos rfl, if_neg h3]
        have q1 : (r1 != 3) = true := by simp; omega
        have q2 : (r1 != 0) = true := by simp; omega
        clear h3
        go_wp2_with (go_at_call 32; (with_reducible refine (HTY.out _ H1.out.1).mono ?_); rintro e w2 ⟨rfl, hb2⟩; have H2 := Lib.hid (And.intro (H1.out.1.trans (hb2.mono H1.out.1.size)) (And.intro ((hb2.block _ hl0).trans H1.out.2.1) ((hb2.block _ hl1).trans H1.out.2.2))); have hy2 := hb2.size; clear hb2)
        go_ret2
        exact ⟨none, 0, 0, rfl, (fun _ => ⟨rfl, rfl⟩), ⟨rfl, by omega, fun j hj => absurd hj (by simp)⟩, H2.out.1⟩
    · obtain rfl : RR = ([], r2) := by rw [← HRR.out]; unfold whereR; rw [if_neg (show ¬ (Ex.op (.mk oe ⟨ke, ie, ve⟩ se le)).toList = [] from hoe), HTR.out, if_neg h2]
      have q1 : (r2 == 0) = false := by simp [h2]
      have q2 : (r2 != 0) = true := by simp [h2]
      go_wp2_with (go_at_call 32; (with_reducible refine (HTY.out _ H1.out.1).mono ?_); rintro e w2 ⟨rfl, hb2⟩; have H2 := Lib.hid (And.intro (H1.out.1.trans (hb2.mono H1.out.1.size)) (And.intro ((hb2.block _ hl0).trans H1.out.2.1) ((hb2.block _ hl1).trans H1.out.2.2))); have hy2 := hb2.size; clear hb2)
      go_ret2
      exact ⟨none, 0, 0, rfl, (fun _ => ⟨rfl, rfl⟩), ⟨rfl, by omega, fun j hj => absurd hj (by simp)⟩, H2.out.1⟩
end Go.Proofs.YtmhkmliebhbkdaaGreat

import Derived.Test.YtmhkmliebhbkdaaGreatX20

/- The document's form of an expression; how many parts it has. -/
namespace Go.Proofs.YtmhkmliebhbkdaaGreat
open Go.RowKit Go.Lib

def RetP (e : Ending) (p : Prop) : Prop := ∃ z, e = .returned (.bool z) ∧ (z = true → p)
/-- What the document asks of an expression's parts, as far as is wanted here. -/
def frm : Nat → Ex → Prop
  | 0, _ => False
  | d + 1, t => t.op.toList = [108, 105, 116] ∨ t.op.toList = [99, 111, 108] ∨ ((t.op.toList = [110, 111, 116] ∨ t.op.toList = [110, 117, 108, 108]) ∧ t.l.length = 1 ∧ ∀ y ∈ t.l, frm d y) ∨ ((¬ t.op.toList = [108, 105, 116] ∧ ¬ t.op.toList = [99, 111, 108] ∧ ¬ t.op.toList = [110, 111, 116] ∧ ¬ t.op.toList = [110, 117, 108, 108]) ∧ t.l.length = 2 ∧ ∀ y ∈ t.l, frm d y)
theorem kids1 {w : World} {P : Nat → Prop} {n : Nat} {op : ByteArray} {x : Vl} {s : ByteArray} {y : Ex} {u : Value} (h : Tr w P n (.mk op x s [y]) u) : ∃ (a : Addr) (q : Nat) (u0 : Value) (m : Nat), u = .slice (some a) 1 q ∧ a.block < w.heap.size ∧ ExC w a y u0 ∧ Tr w P m y u0 := by
  obtain ⟨a, q, u0, m, e, _, hc, ht⟩ := h.kid 0 (by show 0 < 1; omega)
  rw [show a.add (0 * 6) = a by simp [Addr.add]] at hc
  exact ⟨a, q, u0, m, e, hc.lt, hc, ht⟩
theorem kids2 {w : World} {P : Nat → Prop} {n : Nat} {op : ByteArray} {x : Vl} {s : ByteArray} {y z : Ex} {u : Value} (h : Tr w P n (.mk op x s [y, z]) u) : ∃ (a : Addr) (q : Nat) (u0 u1 : Value) (m m' : Nat), u = .slice (some a) 2 q ∧ a.block < w.heap.size ∧ ExC w a y u0 ∧ ExC w ⟨a.block, a.off + 6, none⟩ z u1 ∧ Tr w P m y u0 ∧ Tr w P m' z u1 := by
  obtain ⟨a, q, u0, m, e, _, hc, ht⟩ := h.kid 0 (by show 0 < 2; omega)
  obtain ⟨a', q', u1, m', e', _, hc', ht'⟩ := h.kid 1 (by show 1 < 2; omega)
  rw [e] at e'
  injection e' with e1 e2 e3
  injection e1 with e1
  subst e1
  rw [show a.add (0 * 6) = a by simp [Addr.add]] at hc
  rw [show a.add (1 * 6) = ⟨a.block, a.off + 6, none⟩ from addE a 6 (by omega)] at hc'
  exact ⟨a, q, u0, u1, m, m', e, hc.lt, hc, hc', ht, ht'⟩
theorem eq_zero7 (k i : Int) (vs : ByteArray) : ∃ z, ∀ w, Sem.run Tryz.prog (binOp .eql 26 (.agg #[.int .i64 k, .int .i64 i, .string vs]) (.agg #[.int .i64 0, .int .i64 0, .string ⟨#[]⟩])) w = .ok (.bool z) w := ⟨sameV ⟨k, i, vs⟩ ⟨0, 0, ⟨#[]⟩⟩, fun w => by
  show (binOp .eql 26 (.agg #[.int .i64 k, .int .i64 i, .string vs]) (.agg #[.int .i64 0, .int .i64 0, .string ⟨#[]⟩])).run Tryz.prog w = _
  have h := run_equal_vl ⟨k, i, vs⟩ ⟨0, 0, ⟨#[]⟩⟩ w
  unfold vlV at h
  simp only [binOp, Sem.run_bind, h, Result.andThen_ok, Sem.run_pure]⟩
set_option maxRecDepth 100000 in
set_option maxHeartbeats 4000000 in
theorem form_lit (d : Nat) (hd : d ≤ 100) (k i : Int) (vs s : ByteArray) (l : List Ex) (B : Option Addr) (p q : Nat) (w : World) (hvs : vs.size ≤ maxLen) : Calls Tryz.prog 117 #[.agg #[.string ⟨#[108, 105, 116]⟩, .int .i64 k, .int .i64 i, .string vs, .string s, .slice B p q], .int .i64 (d + 1 : Nat)] w fun e w' => RetP e (frm (d + 1) (.mk ⟨#[108, 105, 116]⟩ ⟨k, i, vs⟩ s l)) ∧ Below w.heap.size w w' := by
  obtain ⟨zb, hzb⟩ := eq_zero7 k i vs
  have HM := Lib.hid (fun W => rmay_any k i vs W hvs)
  have hdd : ((d : Int) + 1 == 0) = false := by simp; omega
  have HF : Hid (frm (d + 1) (.mk ⟨#[108, 105, 116]⟩ ⟨k, i, vs⟩ s l)) := Lib.hid (.inl (by show (⟨#[108, 105, 116]⟩ : ByteArray).toList = _; rw [toList_data]))
  generalize mayB k i vs = mb at HM
  cases mb
  all_goals
    go_enter Tryz.func117, Tryz.ntmps117
    go_wp2_with (go_at_call 73; (with_reducible refine (HM.out _).mono ?_); rintro e w1 ⟨rfl, hb1⟩; have HB1 : Hid (Below w.heap.size w w1) := ((Below.refl _ _).alloc (Nat.le_refl _) _).trans (hb1.mono (by simp)); have hc1 := (bcell hb1).1; have hy1 := hb1.size; (try simp at hy1); have hz1 : w.heap.size < w1.heap.size := (by omega); clear hb1)
    all_goals go_ret
    all_goals exact ⟨⟨_, rfl, fun _ => HF.out⟩, HB1.out⟩
set_option maxRecDepth 100000 in
set_option maxHeartbeats 4000000 in
theorem form_col (d : Nat) (hd : d ≤ 100) (k i : Int) (vs s : ByteArray) (l : List Ex) (B : Option Addr) (p q : Nat) (w : World) (hs : s.size ≤ 100000) : Calls Tryz.prog 117 #[.agg #[.string ⟨#[99, 111, 108]⟩, .int .i64 k, .int .i64 i, .string vs, .string s, .slice B p q], .int .i64 (d + 1 : Nat)] w fun e w' => RetP e (frm (d + 1) (.mk ⟨#[99, 111, 108]⟩ ⟨k, i, vs⟩ s l)) ∧ Below w.heap.size w w' := by
  obtain ⟨zb, hzb⟩ := eq_zero7 k i vs
  have HN := Lib.hid (fun W => rname_any s W hs)
  have HR := Lib.hid (fun W => rres_any s W)
  have hdd : ((d : Int) + 1 == 0) = false := by simp; omega
  have HF : Hid (frm (d + 1) (.mk ⟨#[99, 111, 108]⟩ ⟨k, i, vs⟩ s l)) := Lib.hid (.inr (.inl (by show (⟨#[99, 111, 108]⟩ : ByteArray).toList = _; rw [toList_data])))
  generalize kmay letB parB 16 s.data.toList = nb at HN
  cases zb with
  | false =>
    go_enter Tryz.func117, Tryz.ntmps117
    go_wp2_with (fail)
    all_goals go_ret
    all_goals exact ⟨⟨_, rfl, fun _ => HF.out⟩, (Below.refl _ _).alloc (Nat.le_refl _) _⟩
  | true =>
    cases nb with
    | false =>
      go_enter Tryz.func117, Tryz.ntmps117
      go_wp2_with (go_at_call 84; (with_reducible refine (HN.out _).mono ?_); rintro e w1 ⟨rfl, hb1⟩; have HB1 : Hid (Below w.heap.size w w1) := ((Below.refl _ _).alloc (Nat.le_refl _) _).trans (hb1.mono (by simp)); clear hb1)
      all_goals go_ret
      all_goals exact ⟨⟨_, rfl, fun _ => HF.out⟩, HB1.out⟩
    | true =>
      go_enter Tryz.func117, Tryz.ntmps117
      go_upto_region 7 with (fail)
      refine wp_gen (fun W => Below w.heap.size w W ∧ W.heap[w.heap.size]? = some (.cells #[.string ⟨#[99, 111, 108]⟩, .int .i64 k, .int .i64 i, .string vs, .string s, .slice B p q] 29 (0, 0))) ⟨(Below.refl _ _).alloc (Nat.le_refl _) _, alloc_at rfl _⟩ fun w0 hw0 => ?_
      have H0 := Lib.hid hw0
      have g0 := Lib.cell_of_heap hw0.2 0
      have g1 := Lib.cell_of_heap hw0.2 1
      have g2 := Lib.cell_of_heap hw0.2 2
      have g3 := Lib.cell_of_heap hw0.2 3
      have g4 := Lib.cell_of_heap hw0.2 4
      have g5 := Lib.cell_of_heap hw0.2 5
      simp only [List.getElem?_toArray, List.getElem?_cons_zero, List.getElem?_cons_succ] at g0 g1 g2 g3 g4 g5
      have hz0 := lt_of_block hw0.2
      clear hw0
      go_wp2_with (first
        | (go_at_call 84; (with_reducible refine (HN.out _).mono ?_); rintro e w1 ⟨rfl, hb1⟩; have HB1 := Lib.hid (H0.out.1.trans (hb1.mono H0.out.1.size)); have hc1 := (bcell hb1).1; have hy1 := hb1.size; have hz1 : w.heap.size < w1.heap.size := (by omega); clear hb1)
        | (go_at_call 85; (with_reducible refine (HR.out _).mono ?_); rintro e w2 ⟨⟨z, rfl⟩, hb2⟩; have HB2 := Lib.hid (HB1.out.trans (hb2.mono HB1.out.size)); have hc2 := (bcell hb2).1; have hy2 := hb2.size; have hz2 : w.heap.size < w2.heap.size := (by omega); clear hb2; cases z))
      all_goals go_wp2_with (fail)
      all_goals go_ret
      all_goals exact ⟨⟨_, rfl, fun _ => HF.out⟩, HB2.out⟩
end Go.Proofs.YtmhkmliebhbkdaaGreat

/- The document's form of an expression: whatever it is. -/
namespace Go.Proofs.YtmhkmliebhbkdaaGreat
open Go.RowKit Go.Lib

set_option maxRecDepth 100000 in
set_option maxHeartbeats 4000000 in
theorem form_not0 (d : Nat) (hd : d ≤ 100) (k i : Int) (vs s : ByteArray) (l : List Ex) (B : Option Addr) (p q : Nat) (w : World) (hp : ((p : Int) == 1) = false) : Calls Tryz.prog 117 #[.agg #[.string ⟨#[110, 111, 116]⟩, .int .i64 k, .int .i64 i, .string vs, .string s, .slice B p q], .int .i64 (d + 1 : Nat)] w fun e w' => RetP e (frm (d + 1) (.mk ⟨#[110, 111, 116]⟩ ⟨k, i, vs⟩ s l)) ∧ Below w.heap.size w w' := by
  obtain ⟨zb, hzb⟩ := eq_zero7 k i vs
  have hdd : ((d : Int) + 1 == 0) = false := by simp; omega
  cases zb
  all_goals
    go_enter Tryz.func117, Tryz.ntmps117
    go_wp2_with (fail)
    all_goals go_ret
    all_goals exact ⟨⟨_, rfl, fun h => by first | (cases h; done) | (simp at h; done)⟩, (Below.refl _ _).alloc (Nat.le_refl _) _⟩
set_option maxRecDepth 100000 in
set_option maxHeartbeats 4000000 in
theorem form_not1 (P : Nat → Prop) (n d : Nat) (hd : d ≤ 100) (k i : Int) (vs s : ByteArray) (y : Ex) (u : Value) (w : World) (ht : Tr w P n (.mk ⟨#[110, 111, 116]⟩ ⟨k, i, vs⟩ s [y]) u) (hrec : ∀ (y9 : Ex) (u : Value) (M : Nat) (W : World), y9 ∈ [y] → Tr W P M y9 u → Below w.heap.size w W → Calls Tryz.prog 117 #[EVt y9 u, .int .i64 (d : Nat)] W fun e w' => RetP e (frm d y9) ∧ Below W.heap.size W w') : Calls Tryz.prog 117 #[.agg #[.string ⟨#[110, 111, 116]⟩, .int .i64 k, .int .i64 i, .string vs, .string s, u], .int .i64 (d + 1 : Nat)] w fun e w' => RetP e (frm (d + 1) (.mk ⟨#[110, 111, 116]⟩ ⟨k, i, vs⟩ s [y])) ∧ Below w.heap.size w w' := by
  obtain ⟨zb, hzb⟩ := eq_zero7 k i vs
  have hdd : ((d : Int) + 1 == 0) = false := by simp; omega
  have hdm : IntKind.i64.wrap ((d : Int) + 1 - 1) = (d : Int) := by rw [IntKind.wrap_i64]; omega
  have HF : Hid (frm d y → frm (d + 1) (.mk ⟨#[110, 111, 116]⟩ ⟨k, i, vs⟩ s [y])) := Lib.hid fun h => .inr (.inr (.inl ⟨.inl (by show (⟨#[110, 111, 116]⟩ : ByteArray).toList = _; rw [toList_data]), rfl, fun y' hy => (List.mem_singleton.1 hy) ▸ h⟩))
  obtain ⟨a, q, u0, m, rfl, hal, hc, ht0⟩ := kids1 ht
  obtain ⟨yop, yx, ys, yl⟩ := y
  obtain ⟨yk, yi, yv⟩ := yx
  have HX := Lib.hid (And.intro hc ht0)
  have HREC := Lib.hid hrec
  clear ht hc ht0 hrec
  cases zb with
  | false =>
    go_enter Tryz.func117, Tryz.ntmps117
    go_wp2_with (fail)
    all_goals go_ret
    all_goals exact ⟨⟨_, rfl, fun h => by first | (cases h; done) | (simp at h; done)⟩, (Below.refl _ _).alloc (Nat.le_refl _) _⟩
  | true =>
    rcases Bool.eq_false_or_eq_true (s.toList == []) with hse | hse
    rotate_left
    · 
      go_enter Tryz.func117, Tryz.ntmps117
      go_wp2_with (fail)
      all_goals go_ret
      all_goals exact ⟨⟨_, rfl, fun h => by first | (cases h; done) | (simp at h; done)⟩, (Below.refl _ _).alloc (Nat.le_refl _) _⟩
    · have hse2 : s.toList = [] := by simpa using hse
      go_enter Tryz.func117, Tryz.ntmps117
      go_upto_region 9 with (fail)
      refine wp_gen (fun W => Below w.heap.size w W ∧ W.heap[w.heap.size]? = some (.cells #[.string ⟨#[110, 111, 116]⟩, .int .i64 k, .int .i64 i, .string vs, .string s, .slice (some a) 1 q] 29 (0, 0))) ⟨(Below.refl _ _).alloc (Nat.le_refl _) _, alloc_at rfl _⟩ fun w0 hw0 => ?_
      have H0 := Lib.hid hw0
      have g0 := Lib.cell_of_heap hw0.2 0
      have g1 := Lib.cell_of_heap hw0.2 1
      have g2 := Lib.cell_of_heap hw0.2 2
      have g3 := Lib.cell_of_heap hw0.2 3
      have g4 := Lib.cell_of_heap hw0.2 4
      have g5 := Lib.cell_of_heap hw0.2 5
      simp only [List.getElem?_toArray, List.getElem?_cons_zero, List.getElem?_cons_succ] at g0 g1 g2 g3 g4 g5
      have hz0 := lt_of_block hw0.2
      clear hw0
      have hx0 := HX.out.1.keep (W' := w0) (H0.out.1.block _ hal)
      have k0 := (hx0).c0
      have k1 := (hx0).c1
      have k2 := (hx0).c2
      have k3 := (hx0).c3
      have k4 := (hx0).c4
      have k5 := (hx0).c5
      simp only [Ex.op, Ex.x, Ex.s, Ex.l] at k0 k1 k2 k3 k4 k5
      have hal0 : a.block < w0.heap.size := by have := H0.out.1.size; omega
      clear hx0
      have HRY : Hid (Calls Tryz.prog 117 #[.agg #[.string yop, .int .i64 yk, .int .i64 yi, .string yv, .string ys, u0], .int .i64 (d : Nat)] w0 fun e w' => RetP e (frm d (.mk yop ⟨yk, yi, yv⟩ ys yl)) ∧ Below w0.heap.size w0 w') := Lib.hid (HREC.out _ u0 m w0 List.mem_cons_self (HX.out.2.below H0.out.1) H0.out.1)
      go_wp2_with (go_at_call 117; (with_reducible refine HRY.out.mono ?_); rintro e w1 ⟨⟨z, rfl, hz⟩, hb1⟩; have HB1 := Lib.hid (And.intro (H0.out.1.trans (hb1.mono H0.out.1.size)) hz); clear hb1 hz)
      all_goals go_ret
      all_goals exact ⟨⟨_, rfl, fun h => HF.out (HB1.out.2 h)⟩, HB1.out.1⟩
set_option maxRecDepth 100000 in
set_option maxHeartbeats 4000000 in
theorem form_null0 (d : Nat) (hd : d ≤ 100) (k i : Int) (vs s : ByteArray) (l : List Ex) (B : Option Addr) (p q : Nat) (w : World) (hp : ((p : Int) == 1) = false) : Calls Tryz.prog 117 #[.agg #[.string ⟨#[110, 117, 108, 108]⟩, .int .i64 k, .int .i64 i, .string vs, .string s, .slice B p q], .int .i64 (d + 1 : Nat)] w fun e w' => RetP e (frm (d + 1) (.mk ⟨#[110, 117, 108, 108]⟩ ⟨k, i, vs⟩ s l)) ∧ Below w.heap.size w w' := by
  obtain ⟨zb, hzb⟩ := eq_zero7 k i vs
  have hdd : ((d : Int) + 1 == 0) = false := by simp; omega
  cases zb
  all_goals
    go_enter Tryz.func117, Tryz.ntmps117
    go_wp2_with (fail)
    all_goals go_ret
    all_goals exact ⟨⟨_, rfl, fun h => by first | (cases h; done) | (simp at h; done)⟩, (Below.refl _ _).alloc (Nat.le_refl _) _⟩
set_option maxRecDepth 100000 in
set_option maxHeartbeats 4000000 in
theorem form_null1 (P : Nat → Prop) (n d : Nat) (hd : d ≤ 100) (k i : Int) (vs s : ByteArray) (y : Ex) (u : Value) (w : World) (ht : Tr w P n (.mk ⟨#[110, 117, 108, 108]⟩ ⟨k, i, vs⟩ s [y]) u) (hrec : ∀ (y9 : Ex) (u : Value) (M : Nat) (W : World), y9 ∈ [y] → Tr W P M y9 u → Below w.heap.size w W → Calls Tryz.prog 117 #[EVt y9 u, .int .i64 (d : Nat)] W fun e w' => RetP e (frm d y9) ∧ Below W.heap.size W w') : Calls Tryz.prog 117 #[.agg #[.string ⟨#[110, 117, 108, 108]⟩, .int .i64 k, .int .i64 i, .string vs, .string s, u], .int .i64 (d + 1 : Nat)] w fun e w' => RetP e (frm (d + 1) (.mk ⟨#[110, 117, 108, 108]⟩ ⟨k, i, vs⟩ s [y])) ∧ Below w.heap.size w w' := by
  obtain ⟨zb, hzb⟩ := eq_zero7 k i vs
  have hdd : ((d : Int) + 1 == 0) = false := by simp; omega
  have hdm : IntKind.i64.wrap ((d : Int) + 1 - 1) = (d : Int) := by rw [IntKind.wrap_i64]; omega
  have HF : Hid (frm d y → frm (d + 1) (.mk ⟨#[110, 117, 108, 108]⟩ ⟨k, i, vs⟩ s [y])) := Lib.hid fun h => .inr (.inr (.inl ⟨.inr (by show (⟨#[110, 117, 108, 108]⟩ : ByteArray).toList = _; rw [toList_data]), rfl, fun y' hy => (List.mem_singleton.1 hy) ▸ h⟩))
  obtain ⟨a, q, u0, m, rfl, hal, hc, ht0⟩ := kids1 ht
  obtain ⟨yop, yx, ys, yl⟩ := y
  obtain ⟨yk, yi, yv⟩ := yx
  have HX := Lib.hid (And.intro hc ht0)
  have HREC := Lib.hid hrec
  clear ht hc ht0 hrec
  cases zb with
  | false =>
    go_enter Tryz.func117, Tryz.ntmps117
    go_wp2_with (fail)
    all_goals go_ret
    all_goals exact ⟨⟨_, rfl, fun h => by first | (cases h; done) | (simp at h; done)⟩, (Below.refl _ _).alloc (Nat.le_refl _) _⟩
  | true =>
    rcases Bool.eq_false_or_eq_true (s.toList == []) with hse | hse
    rotate_left
    · 
      go_enter Tryz.func117, Tryz.ntmps117
      go_wp2_with (fail)
      all_goals go_ret
      all_goals exact ⟨⟨_, rfl, fun h => by first | (cases h; done) | (simp at h; done)⟩, (Below.refl _ _).alloc (Nat.le_refl _) _⟩
    · have hse2 : s.toList = [] := by simpa using hse
      go_enter Tryz.func117, Tryz.ntmps117
      go_upto_region 9 with (fail)
      refine wp_gen (fun W => Below w.heap.size w W ∧ W.heap[w.heap.size]? = some (.cells #[.string ⟨#[110, 117, 108, 108]⟩, .int .i64 k, .int .i64 i, .string vs, .string s, .slice (some a) 1 q] 29 (0, 0))) ⟨(Below.refl _ _).alloc (Nat.le_refl _) _, alloc_at rfl _⟩ fun w0 hw0 => ?_
      have H0 := Lib.hid hw0
      have g0 := Lib.cell_of_heap hw0.2 0
      have g1 := Lib.cell_of_heap hw0.2 1
      have g2 := Lib.cell_of_heap hw0.2 2
      have g3 := Lib.cell_of_heap hw0.2 3
      have g4 := Lib.cell_of_heap hw0.2 4
      have g5 := Lib.cell_of_heap hw0.2 5
      simp only [List.getElem?_toArray, List.getElem?_cons_zero, List.getElem?_cons_succ] at g0 g1 g2 g3 g4 g5
      have hz0 := lt_of_block hw0.2
      clear hw0
      have hx0 := HX.out.1.keep (W' := w0) (H0.out.1.block _ hal)
      have k0 := (hx0).c0
      have k1 := (hx0).c1
      have k2 := (hx0).c2
      have k3 := (hx0).c3
      have k4 := (hx0).c4
      have k5 := (hx0).c5
      simp only [Ex.op, Ex.x, Ex.s, Ex.l] at k0 k1 k2 k3 k4 k5
      have hal0 : a.block < w0.heap.size := by have := H0.out.1.size; omega
      clear hx0
      have HRY : Hid (Calls Tryz.prog 117 #[.agg #[.string yop, .int .i64 yk, .int .i64 yi, .string yv, .string ys, u0], .int .i64 (d : Nat)] w0 fun e w' => RetP e (frm d (.mk yop ⟨yk, yi, yv⟩ ys yl)) ∧ Below w0.heap.size w0 w') := Lib.hid (HREC.out _ u0 m w0 List.mem_cons_self (HX.out.2.below H0.out.1) H0.out.1)
      go_wp2_with (go_at_call 117; (with_reducible refine HRY.out.mono ?_); rintro e w1 ⟨⟨z, rfl, hz⟩, hb1⟩; have HB1 := Lib.hid (And.intro (H0.out.1.trans (hb1.mono H0.out.1.size)) hz); clear hb1 hz)
      all_goals go_ret
      all_goals exact ⟨⟨_, rfl, fun h => HF.out (HB1.out.2 h)⟩, HB1.out.1⟩
set_option maxRecDepth 100000 in
set_option maxHeartbeats 4000000 in
theorem form_two0 (d : Nat) (hd : d ≤ 100) (op : ByteArray) (k i : Int) (vs s : ByteArray) (l : List Ex) (B : Option Addr) (p q : Nat) (w : World) (hn1 : (op.toList == [108, 105, 116]) = false) (hn2 : (op.toList == [99, 111, 108]) = false) (hn3 : (op.toList == [110, 111, 116]) = false) (hn4 : (op.toList == [110, 117, 108, 108]) = false) (hp : ((p : Int) == 2) = false) : Calls Tryz.prog 117 #[.agg #[.string op, .int .i64 k, .int .i64 i, .string vs, .string s, .slice B p q], .int .i64 (d + 1 : Nat)] w fun e w' => RetP e (frm (d + 1) (.mk op ⟨k, i, vs⟩ s l)) ∧ Below w.heap.size w w' := by
  obtain ⟨zb, hzb⟩ := eq_zero7 k i vs
  have hdd : ((d : Int) + 1 == 0) = false := by simp; omega
  have HT := Lib.hid (fun W => rtwo_any op W)
  have hm1 : ¬ op.toList = [108, 105, 116] := by simpa using hn1
  have hm2 : ¬ op.toList = [99, 111, 108] := by simpa using hn2
  have hm3 : ¬ op.toList = [110, 111, 116] := by simpa using hn3
  have hm4 : ¬ op.toList = [110, 117, 108, 108] := by simpa using hn4
  cases zb
  all_goals
    go_enter Tryz.func117, Tryz.ntmps117
    go_wp2_with (go_at_call 150; (with_reducible refine (HT.out _).mono ?_); rintro e w1 ⟨⟨z, rfl⟩, hb1⟩; have HB1 : Hid (Below w.heap.size w w1) := ((Below.refl _ _).alloc (Nat.le_refl _) _).trans (hb1.mono (by simp)); have hc1 := (bcell hb1).1; have hy1 := hb1.size; (try simp at hy1); have hz1 : w.heap.size < w1.heap.size := (by omega); have hc1b := hb1.block w.heap.size (by simp); clear hb1; cases z)
    all_goals go_wp2_with (fail)
    all_goals go_ret
    all_goals exact ⟨⟨_, rfl, fun h => by first | (cases h; done) | (simp at h; done)⟩, HB1.out⟩
set_option maxRecDepth 100000 in
set_option maxHeartbeats 4000000 in
theorem form_two1 (P : Nat → Prop) (n d : Nat) (hd : d ≤ 100) (op : ByteArray) (k i : Int) (vs s : ByteArray) (y x : Ex) (u : Value) (w : World) (hn1 : (op.toList == [108, 105, 116]) = false) (hn2 : (op.toList == [99, 111, 108]) = false) (hn3 : (op.toList == [110, 111, 116]) = false) (hn4 : (op.toList == [110, 117, 108, 108]) = false) (ht : Tr w P n (.mk op ⟨k, i, vs⟩ s [y, x]) u) (hrec : ∀ (y9 : Ex) (u : Value) (M : Nat) (W : World), y9 ∈ [y, x] → Tr W P M y9 u → Below w.heap.size w W → Calls Tryz.prog 117 #[EVt y9 u, .int .i64 (d : Nat)] W fun e w' => RetP e (frm d y9) ∧ Below W.heap.size W w') : Calls Tryz.prog 117 #[.agg #[.string op, .int .i64 k, .int .i64 i, .string vs, .string s, u], .int .i64 (d + 1 : Nat)] w fun e w' => RetP e (frm (d + 1) (.mk op ⟨k, i, vs⟩ s [y, x])) ∧ Below w.heap.size w w' := by
  obtain ⟨zb, hzb⟩ := eq_zero7 k i vs
  have hdd : ((d : Int) + 1 == 0) = false := by simp; omega
  have hdm : IntKind.i64.wrap ((d : Int) + 1 - 1) = (d : Int) := by rw [IntKind.wrap_i64]; omega
  have HT := Lib.hid (fun W => rtwo_any op W)
  have hm1 : ¬ op.toList = [108, 105, 116] := by simpa using hn1
  have hm2 : ¬ op.toList = [99, 111, 108] := by simpa using hn2
  have hm3 : ¬ op.toList = [110, 111, 116] := by simpa using hn3
  have hm4 : ¬ op.toList = [110, 117, 108, 108] := by simpa using hn4
  have HF : Hid (frm d y → frm d x → frm (d + 1) (.mk op ⟨k, i, vs⟩ s [y, x])) := Lib.hid fun h g => .inr (.inr (.inr ⟨⟨hm1, hm2, hm3, hm4⟩, rfl, fun y' hy => by
    rcases List.mem_cons.1 hy with e | e
    · exact e ▸ h
    · exact (List.mem_singleton.1 e) ▸ g⟩))
  obtain ⟨a, q, u0, u1, m, m', rfl, hal, hc, hcx, ht0, ht1⟩ := kids2 ht
  obtain ⟨yop, yx, ys, yl⟩ := y
  obtain ⟨yk, yi, yv⟩ := yx
  obtain ⟨xop, xx, xs, xl⟩ := x
  obtain ⟨xk, xi, xv⟩ := xx
  have HX := Lib.hid (And.intro (And.intro hc hcx) (And.intro ht0 ht1))
  have HREC := Lib.hid hrec
  clear ht hc hcx ht0 ht1 hrec
  cases zb with
  | false =>
    go_enter Tryz.func117, Tryz.ntmps117
    go_wp2_with (go_at_call 150; (with_reducible refine (HT.out _).mono ?_); rintro e w1 ⟨⟨z, rfl⟩, hb1⟩; have HB1 : Hid (Below w.heap.size w w1) := ((Below.refl _ _).alloc (Nat.le_refl _) _).trans (hb1.mono (by simp)); have hc1 := (bcell hb1).1; have hy1 := hb1.size; (try simp at hy1); have hz1 : w.heap.size < w1.heap.size := (by omega); have hc1b := hb1.block w.heap.size (by simp); clear hb1; cases z)
    all_goals go_wp2_with (fail)
    all_goals go_ret
    all_goals exact ⟨⟨_, rfl, fun h => by first | (cases h; done) | (simp at h; done)⟩, HB1.out⟩
  | true =>
    rcases Bool.eq_false_or_eq_true (s.toList == []) with hse | hse
    rotate_left
    · 
      go_enter Tryz.func117, Tryz.ntmps117
      go_wp2_with (go_at_call 150; (with_reducible refine (HT.out _).mono ?_); rintro e w1 ⟨⟨z, rfl⟩, hb1⟩; have HB1 : Hid (Below w.heap.size w w1) := ((Below.refl _ _).alloc (Nat.le_refl _) _).trans (hb1.mono (by simp)); have hc1 := (bcell hb1).1; have hy1 := hb1.size; (try simp at hy1); have hz1 : w.heap.size < w1.heap.size := (by omega); have hc1b := hb1.block w.heap.size (by simp); clear hb1; cases z)
      all_goals go_wp2_with (fail)
      all_goals go_ret
      all_goals exact ⟨⟨_, rfl, fun h => by first | (cases h; done) | (simp at h; done)⟩, HB1.out⟩
    · have hse2 : s.toList = [] := by simpa using hse
      go_enter Tryz.func117, Tryz.ntmps117
      go_upto_region 11 with (go_at_call 150; (with_reducible refine (HT.out _).mono ?_); rintro e w1 ⟨⟨z, rfl⟩, hb1⟩; have HB1 : Hid (Below w.heap.size w w1) := ((Below.refl _ _).alloc (Nat.le_refl _) _).trans (hb1.mono (by simp)); have hc1 := (bcell hb1).1; have hy1 := hb1.size; (try simp at hy1); have hz1 : w.heap.size < w1.heap.size := (by omega); have hc1b := hb1.block w.heap.size (by simp); clear hb1; cases z)
      · go_wp2_with (fail)
        go_ret
        exact ⟨⟨_, rfl, fun h => by first | (cases h; done) | (simp at h; done)⟩, HB1.out⟩
      refine wp_gen (fun W => Below w.heap.size w W ∧ W.heap[w.heap.size]? = some (.cells #[.string op, .int .i64 k, .int .i64 i, .string vs, .string s, .slice (some a) 2 q] 29 (0, 0))) ⟨HB1.out, (hc1b).trans (alloc_at rfl _)⟩ fun w0 hw0 => ?_
      have H0 := Lib.hid hw0
      clear hc1 hz1 hc1b
      have g0 := Lib.cell_of_heap hw0.2 0
      have g1 := Lib.cell_of_heap hw0.2 1
      have g2 := Lib.cell_of_heap hw0.2 2
      have g3 := Lib.cell_of_heap hw0.2 3
      have g4 := Lib.cell_of_heap hw0.2 4
      have g5 := Lib.cell_of_heap hw0.2 5
      simp only [List.getElem?_toArray, List.getElem?_cons_zero, List.getElem?_cons_succ] at g0 g1 g2 g3 g4 g5
      have hz0 := lt_of_block hw0.2
      clear hw0
      have hx0 := HX.out.1.1.keep (W' := w0) (H0.out.1.block _ hal)
      have hx1 := HX.out.1.2.keep (W' := w0) (H0.out.1.block _ hal)
      have k0 := (hx0).c0
      have k1 := (hx0).c1
      have k2 := (hx0).c2
      have k3 := (hx0).c3
      have k4 := (hx0).c4
      have k5 := (hx0).c5
      simp only [Ex.op, Ex.x, Ex.s, Ex.l] at k0 k1 k2 k3 k4 k5
      have m0 := (hx1).c0
      have m1 := (hx1).c1
      have m2 := (hx1).c2
      have m3 := (hx1).c3
      have m4 := (hx1).c4
      have m5 := (hx1).c5
      simp only [Ex.op, Ex.x, Ex.s, Ex.l] at m0 m1 m2 m3 m4 m5
      have hal0 : a.block < w0.heap.size := by have := H0.out.1.size; omega
      clear hx0 hx1
      have HRY : Hid (∀ W, Below w0.heap.size w0 W → Calls Tryz.prog 117 #[.agg #[.string yop, .int .i64 yk, .int .i64 yi, .string yv, .string ys, u0], .int .i64 (d : Nat)] W fun e w' => RetP e (frm d (.mk yop ⟨yk, yi, yv⟩ ys yl)) ∧ Below W.heap.size W w') := Lib.hid fun W hW => HREC.out _ u0 m W List.mem_cons_self ((HX.out.2.1.below H0.out.1).below hW) (H0.out.1.trans (hW.mono H0.out.1.size))
      have HRX : Hid (∀ W, Below w0.heap.size w0 W → Calls Tryz.prog 117 #[.agg #[.string xop, .int .i64 xk, .int .i64 xi, .string xv, .string xs, u1], .int .i64 (d : Nat)] W fun e w' => RetP e (frm d (.mk xop ⟨xk, xi, xv⟩ xs xl)) ∧ Below W.heap.size W w') := Lib.hid fun W hW => HREC.out _ u1 m' W (List.mem_cons_of_mem _ List.mem_cons_self) ((HX.out.2.2.below H0.out.1).below hW) (H0.out.1.trans (hW.mono H0.out.1.size))
      go_wp2_with (go_at_call 117; (with_reducible refine (HRY.out _ (Below.refl _ _)).mono ?_); rintro e w2 ⟨⟨z, rfl, hz⟩, hb2⟩; have HB2 := Lib.hid (And.intro hb2 hz); have hc2 := (bcell hb2).1; have hy2 := hb2.size; have hz2 : w.heap.size < w2.heap.size := (by omega); have hal2 : a.block < w2.heap.size := (by omega); clear hb2 hz; cases z)
      · go_wp2_with (fail)
        go_ret
        exact ⟨⟨_, rfl, fun h => by first | (cases h; done) | (simp at h; done)⟩, H0.out.1.trans (HB2.out.1.mono H0.out.1.size)⟩
      · go_wp2_with (go_at_call 117; (with_reducible refine (HRX.out _ HB2.out.1).mono ?_); rintro e w3 ⟨⟨z, rfl, hz⟩, hb3⟩; have HB3 := Lib.hid (And.intro hb3 hz); clear hb3 hz)
        go_ret
        exact ⟨⟨_, rfl, fun h => HF.out (HB2.out.2 (by first | exact rfl | trivial)) (HB3.out.2 h)⟩, H0.out.1.trans ((HB2.out.1.trans (HB3.out.1.mono HB2.out.1.size)).mono H0.out.1.size)⟩
theorem okT_kid {op : ByteArray} {x : Vl} {s : ByteArray} {l : List Ex} (h : okT (.mk op x s l)) : ∀ y ∈ l, okT y := fun y hy m => (h (m + 1)).2.2 y hy
theorem neB {s : ByteArray} {l : List UInt8} (h : ¬ s.toList = l) : (s.toList == l) = false := by simpa using h
theorem nat_ne {p c : Nat} (h : ¬ p = c) : ((p : Int) == (c : Int)) = false := by simp; omega
set_option maxRecDepth 100000 in
/-- Which expressions have the document's form is told; of one that has, the parts are as they must be. -/
theorem form_any (P : Nat → Prop) : ∀ (d : Nat) (hd : d ≤ 100) (t : Ex) (u : Value) (n : Nat) (w : World), Tr w P n t u → okT t → Calls Tryz.prog 117 #[EVt t u, .int .i64 (d : Nat)] w fun e w' => RetP e (frm d t) ∧ Below w.heap.size w w'
  | 0, _, t, u, n, w, ht, _ => by
    unfold EVt
    generalize frm 0 t = pp
    obtain ⟨B, q, rfl, _⟩ := ht.form
    clear ht
    go_enter Tryz.func117, Tryz.ntmps117
    go_wp2_with (fail)
    go_ret
    exact ⟨⟨_, rfl, fun h => by first | (cases h; done) | (simp at h; done)⟩, (Below.refl _ _).alloc (Nat.le_refl _) _⟩
  | d + 1, hd, t, u, n, w, ht, hk => by
    obtain ⟨B, q, e, _⟩ := ht.form
    subst e
    cases t with
    | mk op x s l =>
    obtain ⟨k, i, vs⟩ := x
    unfold EVt
    simp only [Ex.op, Ex.x, Ex.s, Ex.l] at ht ⊢
    have hvs : vs.size ≤ 100000 := (hk 1).2.1
    have hs : s.size ≤ 100000 := ht.1
    have hrec : ∀ (y9 : Ex) (u : Value) (M : Nat) (W : World), y9 ∈ l → Tr W P M y9 u → Below w.heap.size w W → Calls Tryz.prog 117 #[EVt y9 u, .int .i64 (d : Nat)] W fun e w' => RetP e (frm d y9) ∧ Below W.heap.size W w' :=
      fun y u M W hy hT _ => form_any P d (by omega) y u M W hT (okT_kid hk y hy)
    by_cases h1 : op.toList = [108, 105, 116]
    · obtain rfl := bytes_of h1
      exact form_lit d (by omega) k i vs s l B l.length q w (by unfold maxLen; omega)
    by_cases h2 : op.toList = [99, 111, 108]
    · obtain rfl := bytes_of h2
      exact form_col d (by omega) k i vs s l B l.length q w hs
    by_cases h3 : op.toList = [110, 111, 116]
    · obtain rfl := bytes_of h3
      by_cases hl : l.length = 1
      · obtain ⟨y, rfl⟩ := len_one hl
        exact form_not1 P n d (by omega) k i vs s y _ w ht hrec
      · exact form_not0 d (by omega) k i vs s l B l.length q w (nat_ne hl)
    by_cases h4 : op.toList = [110, 117, 108, 108]
    · obtain rfl := bytes_of h4
      by_cases hl : l.length = 1
      · obtain ⟨y, rfl⟩ := len_one hl
        exact form_null1 P n d (by omega) k i vs s y _ w ht hrec
      · exact form_null0 d (by omega) k i vs s l B l.length q w (nat_ne hl)
    by_cases hl : l.length = 2
    · obtain ⟨y, z, rfl⟩ := len_two hl
      exact form_two1 P n d (by omega) op k i vs s y z _ w (neB h1) (neB h2) (neB h3) (neB h4) ht hrec
    · exact form_two0 d (by omega) op k i vs s l B l.length q w (neB h1) (neB h2) (neB h3) (neB h4) (nat_ne hl)
end Go.Proofs.YtmhkmliebhbkdaaGreat

/- The document's count of an expression's parts; whether it may be; its type. -/
namespace Go.Proofs.YtmhkmliebhbkdaaGreat
open Go.RowKit Go.Lib

theorem Tr.kidn {w : World} {P : Nat → Prop} {n : Nat} {t : Ex} {u : Value} (h : Tr w P (n + 1) t u) (j : Nat) (hj : j < t.l.length) : ∃ (a : Addr) (cap : Nat) (u' : Value), u = .slice (some a) t.l.length cap ∧ ExC w (a.add (j * 6)) t.l[j] u' ∧ Tr w P n t.l[j] u' := by
  obtain ⟨A, cap, e, _, hk⟩ := h.2
  obtain ⟨a, u', ea, hp, hc, hs, hr⟩ := hk j hj
  subst ea
  exact ⟨a, cap, u', e, hc, hs, hr⟩
set_option maxRecDepth 100000 in
set_option maxHeartbeats 4000000 in
theorem nodes_step (P : Nat → Prop) (n : Nat) (op : ByteArray) (k i : Int) (vs s : ByteArray) (l : List Ex) (B : Option Addr) (p q : Nat) (w : World) (hl : l.length = p) (hp : p ≤ maxLen) (hk : ∀ j (h : j < l.length), ∃ (a : Addr) (u' : Value), B = some a ∧ ExC w (a.add (j * 6)) l[j] u' ∧ Tr w P n l[j] u')
    (hrec : ∀ (y : Ex) (u : Value) (W : World), Tr W P n y u → Calls Tryz.prog 118 #[EVt y u] W fun e w' => RetI e ∧ Below W.heap.size W w') :
    Calls Tryz.prog 118 #[.agg #[.string op, .int .i64 k, .int .i64 i, .string vs, .string s, .slice B p q]] w fun e w' => RetI e ∧ Below w.heap.size w w' := by
  unfold maxLen at hp
  have HK := Lib.hid hk
  have HR := Lib.hid hrec
  have HL := Lib.hid hl
  clear hk hrec hl
  go_enter Tryz.func118, Tryz.ntmps118
  go_upto_region 1 with (fail)
  refine wp_gen (fun W => Below w.heap.size w W ∧ W.heap[w.heap.size]? = some (.cells #[.string op, .int .i64 k, .int .i64 i, .string vs, .string s, .slice B p q] 29 (0, 0))) ⟨(Below.refl _ _).alloc (Nat.le_refl _) _, alloc_at rfl _⟩ fun w0 hw0 => ?_
  have H0 := Lib.hid hw0
  clear hw0
  go_wp2_with (fail)
  go_loopw [3, 4] (fun nv iv wr => ∃ (m : Int) (j : Nat), nv = .int .i64 m ∧ iv = .int .i64 j ∧ j ≤ p ∧ Hid (Below w.heap.size w wr ∧ wr.heap[w.heap.size]? = some (.cells #[.string op, .int .i64 k, .int .i64 i, .string vs, .string s, .slice B p q] 29 (0, 0)))) (fun _ iv _ => p - (intOf iv).toNat)
  case atStart => exact ⟨1, 0, rfl, rfl, by omega, H0⟩
  case round =>
    obtain ⟨m, j, rfl, rfl, hj, HS⟩ := hrel
    have hbx := HS.out.2
    have g0 := Lib.cell_of_heap hbx 0
    have g1 := Lib.cell_of_heap hbx 1
    have g2 := Lib.cell_of_heap hbx 2
    have g3 := Lib.cell_of_heap hbx 3
    have g4 := Lib.cell_of_heap hbx 4
    have g5 := Lib.cell_of_heap hbx 5
    simp only [List.getElem?_toArray, List.getElem?_cons_zero, List.getElem?_cons_succ] at g0 g1 g2 g3 g4 g5
    have hz0 := lt_of_block hbx
    clear hbx
    by_cases hlt : j < p
    · obtain ⟨a, u', rfl, hc, ht⟩ := HK.out j (by rw [HL.out]; exact hlt)
      have hc' := hc.keep (W' := wr) (HS.out.1.block _ hc.lt)
      have hal := hc'.lt
      have HY := Lib.hid (HR.out _ u' wr (ht.below HS.out.1))
      clear hc ht
      obtain ⟨⟨yop, ⟨yk, yi, yv⟩, ys, yl⟩, hy⟩ : ∃ y, y = l[j]'(by rw [HL.out]; exact hlt) := ⟨_, rfl⟩
      rw [← hy] at HY hc'
      clear hy
      unfold EVt at HY
      simp only [Ex.op, Ex.x, Ex.s, Ex.l] at HY
      have k0 := (hc').c0
      have k1 := (hc').c1
      have k2 := (hc').c2
      have k3 := (hc').c3
      have k4 := (hc').c4
      have k5 := (hc').c5
      simp only [Ex.op, Ex.x, Ex.s, Ex.l] at k0 k1 k2 k3 k4 k5
      clear hc'
      go_wp2_with (go_at_call 118; (with_reducible refine HY.out.mono ?_); rintro e w1 ⟨⟨z, rfl⟩, hb1⟩; have HB1 := Lib.hid (And.intro (HS.out.1.trans (hb1.mono HS.out.1.size)) ((hb1.block _ hz0).trans HS.out.2)); clear hb1)
      go_roundw
      case rel => exact ⟨_, j + 1, rfl, by go_num, by omega, HB1⟩
      case measure => simp [intOf]; omega
    · go_wp2_with (fail)
      go_ret
      exact ⟨⟨_, rfl⟩, HS.out.1⟩
theorem nodes_any0 (P : Nat → Prop) (t : Ex) (u : Value) (w : World) (ht : Tr w P 0 t u) : Calls Tryz.prog 118 #[EVt t u] w fun e w' => RetI e ∧ Below w.heap.size w w' := by
  obtain ⟨B, q, e, hm⟩ := ht.form
  subst e
  have h0 : t.l = [] := ht.2.1
  cases t with
  | mk op x s l =>
  obtain ⟨k, i, vs⟩ := x
  obtain rfl : l = [] := h0
  unfold EVt
  simp only [Ex.op, Ex.x, Ex.s, Ex.l, List.length_nil]
  clear ht
  go_enter Tryz.func118, Tryz.ntmps118
  go_wp2_with (fail)
  refine wp_loop_once ?_
  go_wp2_with (fail)
  go_ret
  exact ⟨⟨_, rfl⟩, (Below.refl _ _).alloc (Nat.le_refl _) _⟩
theorem nodes_any (P : Nat → Prop) : ∀ (n : Nat) (t : Ex) (u : Value) (w : World), Tr w P n t u → Calls Tryz.prog 118 #[EVt t u] w fun e w' => RetI e ∧ Below w.heap.size w w'
  | 0, t, u, w, ht => by
    obtain ⟨B, q, e, hm⟩ := ht.form
    subst e
    have h0 : t.l = [] := ht.2.1
    cases t with
    | mk op x s l =>
    obtain ⟨k, i, vs⟩ := x
    exact nodes_step P 0 op k i vs s l B l.length q w rfl hm (fun j hj => absurd hj (by rw [show l = [] from h0]; simp)) (fun y u W h => nodes_any0 P y u W h)
  | n + 1, t, u, w, ht => by
    obtain ⟨B, q, e, hm⟩ := ht.form
    subst e
    cases t with
    | mk op x s l =>
    obtain ⟨k, i, vs⟩ := x
    refine nodes_step P n op k i vs s l B l.length q w rfl hm (fun j hj => ?_) (fun y u W h => nodes_any P n y u W h)
    obtain ⟨a, cap, u', e, hc, h⟩ := ht.kidn j hj
    injection e with e1 e2 e3
    exact ⟨a, u', e1, hc, h⟩
set_option maxRecDepth 100000 in
set_option maxHeartbeats 4000000 in
theorem rmay4_any (P : Nat → Prop) (t : Ex) (u : Value) (n : Nat) (w : World) (ht : Tr w P n t u) (hk : okT t) : Calls Tryz.prog 69 #[EVt t u] w fun e w' => RetP e (frm 12 t) ∧ Below w.heap.size w w' := by
  have HF : Hid (∀ W, Below w.heap.size w W → Calls Tryz.prog 117 #[EVt t u, .int .i64 12] W fun e w' => RetP e (frm 12 t) ∧ Below W.heap.size W w') := Lib.hid fun W hW => form_any P 12 (by omega) t u n W (ht.below hW) hk
  have HN : Hid (∀ W, Below w.heap.size w W → Calls Tryz.prog 118 #[EVt t u] W fun e w' => RetI e ∧ Below W.heap.size W w') := Lib.hid fun W hW => nodes_any P n t u W (ht.below hW)
  obtain ⟨B, q, e, _⟩ := ht.form
  subst e
  generalize frm 12 t = pp at HF ⊢
  clear ht
  cases t with
  | mk op x s l =>
  obtain ⟨k, i, vs⟩ := x
  unfold EVt at HF HN ⊢
  simp only [Ex.op, Ex.x, Ex.s, Ex.l] at HF HN ⊢
  generalize l.length = p at HF HN ⊢
  go_enter Tryz.func69, Tryz.ntmps69
  go_upto_region 1 with (fail)
  refine wp_gen (fun W => Below w.heap.size w W ∧ W.heap[w.heap.size]? = some (.cells #[.string op, .int .i64 k, .int .i64 i, .string vs, .string s, .slice B p q] 29 (0, 0))) ⟨(Below.refl _ _).alloc (Nat.le_refl _) _, alloc_at rfl _⟩ fun w0 hw0 => ?_
  have H0 := Lib.hid hw0
  have g0 := Lib.cell_of_heap hw0.2 0
  have g1 := Lib.cell_of_heap hw0.2 1
  have g2 := Lib.cell_of_heap hw0.2 2
  have g3 := Lib.cell_of_heap hw0.2 3
  have g4 := Lib.cell_of_heap hw0.2 4
  have g5 := Lib.cell_of_heap hw0.2 5
  simp only [List.getElem?_toArray, List.getElem?_cons_zero, List.getElem?_cons_succ] at g0 g1 g2 g3 g4 g5
  have hz0 := lt_of_block hw0.2
  clear hw0
  go_wp2_with (go_at_call 117; (with_reducible refine (HF.out _ H0.out.1).mono ?_); rintro e w1 ⟨⟨z, rfl, hz⟩, hb1⟩; have HB1 := Lib.hid (And.intro (H0.out.1.trans (hb1.mono H0.out.1.size)) hz); have hc1 := (bcell hb1).1; have hy1 := hb1.size; have hz1 : w.heap.size < w1.heap.size := (by omega); clear hb1 hz; cases z)
  · go_wp2_with (fail)
    go_ret
    exact ⟨⟨_, rfl, fun h => by first | (cases h; done) | (simp at h; done)⟩, HB1.out.1⟩
  · go_wp2_with (go_at_call 118; (with_reducible refine (HN.out _ HB1.out.1).mono ?_); rintro e w2 ⟨⟨z, rfl⟩, hb2⟩; have HB2 := Lib.hid (HB1.out.1.trans (hb2.mono HB1.out.1.size)); clear hb2)
    all_goals go_ret
    all_goals exact ⟨⟨_, rfl, fun _ => HB1.out.2 (by first | exact rfl | trivial)⟩, HB2.out⟩
end Go.Proofs.YtmhkmliebhbkdaaGreat

/- The document's type of an expression. -/
namespace Go.Proofs.YtmhkmliebhbkdaaGreat
open Go.RowKit Go.Lib

def RetII (e : Ending) : Prop := ∃ a b : Int, e = .returned (.tuple #[.int .i64 a, .int .i64 b])
set_option maxRecDepth 100000 in
set_option maxHeartbeats 4000000 in
theorem rtype_lit (k i : Int) (vs s : ByteArray) (B : Option Addr) (p q : Nat) (A : Option Addr) (na ca : Nat) (cols : List Cl) (w : World) : Calls Tryz.prog 70 #[.agg #[.string ⟨#[108, 105, 116]⟩, .int .i64 k, .int .i64 i, .string vs, .string s, .slice B p q], .slice A na ca] w fun e w' => RetII e ∧ Below w.heap.size w w' := by
  go_enter Tryz.func70, Tryz.ntmps70
  go_wp2_with (fail)
  go_ret2
  exact ⟨⟨_, _, rfl⟩, (Below.refl _ _).alloc (Nat.le_refl _) _⟩
set_option maxRecDepth 100000 in
set_option maxHeartbeats 4000000 in
theorem rtype_col (k i : Int) (vs s : ByteArray) (B : Option Addr) (p q : Nat) (A : Option Addr) (na ca : Nat) (cols : List Cl) (w : World) (hc : ColS w A na cols) : Calls Tryz.prog 70 #[.agg #[.string ⟨#[99, 111, 108]⟩, .int .i64 k, .int .i64 i, .string vs, .string s, .slice B p q], .slice A na ca] w fun e w' => RetII e ∧ Below w.heap.size w w' := by
  have HC := Lib.hid hc
  have HL := Lib.hid hc.1
  have hn : na ≤ maxLen := hc.2.1
  unfold maxLen at hn
  clear hc
  go_enter Tryz.func70, Tryz.ntmps70
  go_upto_region 1 with (fail)
  refine wp_gen (fun W => Below w.heap.size w W ∧ W.heap[w.heap.size]? = some (.cells #[.string ⟨#[99, 111, 108]⟩, .int .i64 k, .int .i64 i, .string vs, .string s, .slice B p q] 29 (0, 0))) ⟨(Below.refl _ _).alloc (Nat.le_refl _) _, alloc_at rfl _⟩ fun w0 hw0 => ?_
  have H0 := Lib.hid hw0
  have g0 := Lib.cell_of_heap hw0.2 0
  have g1 := Lib.cell_of_heap hw0.2 1
  have g2 := Lib.cell_of_heap hw0.2 2
  have g3 := Lib.cell_of_heap hw0.2 3
  have g4 := Lib.cell_of_heap hw0.2 4
  have g5 := Lib.cell_of_heap hw0.2 5
  simp only [List.getElem?_toArray, List.getElem?_cons_zero, List.getElem?_cons_succ] at g0 g1 g2 g3 g4 g5
  have hz0 := lt_of_block hw0.2
  clear hw0
  go_wp2_with (fail)
  go_loopw [6] (fun iv wr => ∃ j : Nat, iv = .int .i64 j ∧ j ≤ na ∧ Hid (Below w.heap.size w wr ∧ wr.heap[w.heap.size]? = some (.cells #[.string ⟨#[99, 111, 108]⟩, .int .i64 k, .int .i64 i, .string vs, .string s, .slice B p q] 29 (0, 0)))) (fun iv _ => na - (intOf iv).toNat)
  case atStart => exact ⟨0, rfl, by omega, H0⟩
  case round =>
    obtain ⟨j, rfl, hj, HS⟩ := hrel
    have hbx := HS.out.2
    clear g0 g1 g2 g3 g4 g5 hz0
    have g0 := Lib.cell_of_heap hbx 0
    have g1 := Lib.cell_of_heap hbx 1
    have g2 := Lib.cell_of_heap hbx 2
    have g3 := Lib.cell_of_heap hbx 3
    have g4 := Lib.cell_of_heap hbx 4
    have g5 := Lib.cell_of_heap hbx 5
    simp only [List.getElem?_toArray, List.getElem?_cons_zero, List.getElem?_cons_succ] at g0 g1 g2 g3 g4 g5
    have hz0 := lt_of_block hbx
    clear hbx
    by_cases hlt : j < na
    · obtain ⟨a, rfl, hE⟩ := (HC.out.below HS.out.1).2.2 j (by rw [HL.out]; exact hlt)
      have hal := hE.lt
      have e0 := hE.c0
      have e1 := hE.c1
      clear hE
      generalize (cols[j]'(by rw [HL.out]; exact hlt)).n = x at e0
      generalize (cols[j]'(by rw [HL.out]; exact hlt)).t = ty at e1
      by_cases hq : x.toList = s.toList
      · have hq2 : (x.toList == s.toList) = true := by simp [hq]
        go_upto_region 7 with (fail)
        refine detL_begin [.val (.slice (some a) na ca), .val (.int .i64 j), .val (.pointer (some (a.add (j * 3)))), .val (.pointer (some (a.add (j * 3)))), .val (.string x), .val (.pointer (some ⟨w.heap.size, 4, none⟩)), .val (.string s), .val (.bool true)] 8 (by kernel_rfl) ?_
        refine detL_val (by kernel_rfl) (yields_of rfl fun w5 hb5 => ?_) ?_
        · have hc5 := bcellD hb5
          skip
          clear hb5
          go_simp
          exact Det1_same
        simp only [Act.put, List.setIfInBounds_toArray, List.set_cons_zero, List.set_cons_succ]
        refine detL_val (by kernel_rfl) (yields_of rfl fun w5 hb5 => ?_) ?_
        · have hc5 := bcellD hb5
          skip
          clear hb5
          go_simp
          exact Det1_same
        simp only [Act.put, List.setIfInBounds_toArray, List.set_cons_zero, List.set_cons_succ]
        refine detL_val (by kernel_rfl) (yields_of rfl fun w5 hb5 => ?_) ?_
        · have hc5 := bcellD hb5
          skip
          clear hb5
          go_simp
          exact Det1_same
        simp only [Act.put, List.setIfInBounds_toArray, List.set_cons_zero, List.set_cons_succ]
        refine detL_val (by kernel_rfl) (yields_of rfl fun w5 hb5 => ?_) ?_
        · have hc5 := bcellD hb5
          skip
          clear hb5
          go_simp
          exact Det1_same
        simp only [Act.put, List.setIfInBounds_toArray, List.set_cons_zero, List.set_cons_succ]
        refine detL_val (by kernel_rfl) (yields_of rfl fun w5 hb5 => ?_) ?_
        · have hc5 := bcellD hb5
          have m0 := (hb5.cell (p := a.add (j * 3)) hal).trans e0
          clear hb5
          go_simp
          exact Det1_same
        simp only [Act.put, List.setIfInBounds_toArray, List.set_cons_zero, List.set_cons_succ]
        refine detL_val (by kernel_rfl) (yields_of rfl fun w5 hb5 => ?_) ?_
        · have hc5 := bcellD hb5
          skip
          clear hb5
          go_simp
          exact Det1_same
        simp only [Act.put, List.setIfInBounds_toArray, List.set_cons_zero, List.set_cons_succ]
        refine detL_val (by kernel_rfl) (yields_of rfl fun w5 hb5 => ?_) ?_
        · have hc5 := bcellD hb5
          skip
          clear hb5
          go_simp
          exact Det1_same
        simp only [Act.put, List.setIfInBounds_toArray, List.set_cons_zero, List.set_cons_succ]
        refine detL_val (by kernel_rfl) (yields_of rfl fun w5 hb5 => ?_) ?_
        · have hc5 := bcellD hb5
          skip
          clear hb5
          go_simp
          exact Det1_same
        simp only [Act.put, List.setIfInBounds_toArray, List.set_cons_zero, List.set_cons_succ]
        refine detL_done (by kernel_rfl) fun w6 hw6 => ?_
        have HB6 : Hid (Below w.heap.size w w6) := HS.out.1.trans (((Below.refl _ _).drew.trans hw6.below).mono HS.out.1.size)
        have hb6 : Below wr.heap.size wr w6 := (Below.refl _ _).drew.trans hw6.below
        have m1 := (hb6.cell (p := ⟨(a.add (j * 3)).block, (a.add (j * 3)).off + 1, none⟩) hal).trans e1
        have HX6 := Lib.hid ((hb6.block _ hz0).trans HS.out.2)
        clear hw6 hb6
        go_wp2_with (fail)
        go_ret2
        exact ⟨⟨_, _, rfl⟩, HB6.out⟩
      · have hq2 : (x.toList == s.toList) = false := by simp [hq]
        go_upto_region 7 with (fail)
        refine detL_begin [.val (.slice (some a) na ca), .val (.int .i64 j), .val (.pointer (some (a.add (j * 3)))), .val (.pointer (some (a.add (j * 3)))), .val (.string x), .val (.pointer (some ⟨w.heap.size, 4, none⟩)), .val (.string s), .val (.bool false)] 8 (by kernel_rfl) ?_
        refine detL_val (by kernel_rfl) (yields_of rfl fun w5 hb5 => ?_) ?_
        · have hc5 := bcellD hb5
          skip
          clear hb5
          go_simp
          exact Det1_same
        simp only [Act.put, List.setIfInBounds_toArray, List.set_cons_zero, List.set_cons_succ]
        refine detL_val (by kernel_rfl) (yields_of rfl fun w5 hb5 => ?_) ?_
        · have hc5 := bcellD hb5
          skip
          clear hb5
          go_simp
          exact Det1_same
        simp only [Act.put, List.setIfInBounds_toArray, List.set_cons_zero, List.set_cons_succ]
        refine detL_val (by kernel_rfl) (yields_of rfl fun w5 hb5 => ?_) ?_
        · have hc5 := bcellD hb5
          skip
          clear hb5
          go_simp
          exact Det1_same
        simp only [Act.put, List.setIfInBounds_toArray, List.set_cons_zero, List.set_cons_succ]
        refine detL_val (by kernel_rfl) (yields_of rfl fun w5 hb5 => ?_) ?_
        · have hc5 := bcellD hb5
          skip
          clear hb5
          go_simp
          exact Det1_same
        simp only [Act.put, List.setIfInBounds_toArray, List.set_cons_zero, List.set_cons_succ]
        refine detL_val (by kernel_rfl) (yields_of rfl fun w5 hb5 => ?_) ?_
        · have hc5 := bcellD hb5
          have m0 := (hb5.cell (p := a.add (j * 3)) hal).trans e0
          clear hb5
          go_simp
          exact Det1_same
        simp only [Act.put, List.setIfInBounds_toArray, List.set_cons_zero, List.set_cons_succ]
        refine detL_val (by kernel_rfl) (yields_of rfl fun w5 hb5 => ?_) ?_
        · have hc5 := bcellD hb5
          skip
          clear hb5
          go_simp
          exact Det1_same
        simp only [Act.put, List.setIfInBounds_toArray, List.set_cons_zero, List.set_cons_succ]
        refine detL_val (by kernel_rfl) (yields_of rfl fun w5 hb5 => ?_) ?_
        · have hc5 := bcellD hb5
          skip
          clear hb5
          go_simp
          exact Det1_same
        simp only [Act.put, List.setIfInBounds_toArray, List.set_cons_zero, List.set_cons_succ]
        refine detL_val (by kernel_rfl) (yields_of rfl fun w5 hb5 => ?_) ?_
        · have hc5 := bcellD hb5
          skip
          clear hb5
          go_simp
          exact Det1_same
        simp only [Act.put, List.setIfInBounds_toArray, List.set_cons_zero, List.set_cons_succ]
        refine detL_done (by kernel_rfl) fun w6 hw6 => ?_
        have HB6 : Hid (Below w.heap.size w w6) := HS.out.1.trans (((Below.refl _ _).drew.trans hw6.below).mono HS.out.1.size)
        have hb6 : Below wr.heap.size wr w6 := (Below.refl _ _).drew.trans hw6.below
        have m1 := (hb6.cell (p := ⟨(a.add (j * 3)).block, (a.add (j * 3)).off + 1, none⟩) hal).trans e1
        have HX6 := Lib.hid ((hb6.block _ hz0).trans HS.out.2)
        clear hw6 hb6
        go_wp2_with (fail)
        go_roundw
        case rel => exact ⟨j + 1, by go_num, by omega, Lib.hid ⟨HB6.out, HX6.out⟩⟩
        case measure => simp [intOf]; omega
    · go_wp2_with (fail)
      go_ret2
      exact ⟨⟨_, _, rfl⟩, HS.out.1⟩
end Go.Proofs.YtmhkmliebhbkdaaGreat

/- The document's type of an expression of one part. -/
namespace Go.Proofs.YtmhkmliebhbkdaaGreat
open Go.RowKit Go.Lib

set_option maxRecDepth 100000 in
set_option maxHeartbeats 4000000 in
theorem rtype_not (P : Nat → Prop) (n : Nat) (k i : Int) (vs s : ByteArray) (y : Ex) (u : Value) (A : Option Addr) (na ca : Nat) (cols : List Cl) (w : World) (ht : Tr w P n (.mk ⟨#[110, 111, 116]⟩ ⟨k, i, vs⟩ s [y]) u) (hrec : ∀ (y9 : Ex) (u : Value) (M : Nat) (W : World), y9 ∈ [y] → Tr W P M y9 u → Below w.heap.size w W → Calls Tryz.prog 70 #[EVt y9 u, .slice A na ca] W fun e w' => RetII e ∧ Below W.heap.size W w') : Calls Tryz.prog 70 #[.agg #[.string ⟨#[110, 111, 116]⟩, .int .i64 k, .int .i64 i, .string vs, .string s, u], .slice A na ca] w fun e w' => RetII e ∧ Below w.heap.size w w' := by
  obtain ⟨a, q, u0, m, rfl, hal, hc, ht0⟩ := kids1 ht
  obtain ⟨yop, yx, ys, yl⟩ := y
  obtain ⟨yk, yi, yv⟩ := yx
  have HX := Lib.hid (And.intro hc ht0)
  have HREC := Lib.hid hrec
  clear ht hc ht0 hrec
  go_enter Tryz.func70, Tryz.ntmps70
  go_upto_region 10 with (fail)
  refine wp_gen (fun W => Below w.heap.size w W ∧ W.heap[w.heap.size]? = some (.cells #[.string ⟨#[110, 111, 116]⟩, .int .i64 k, .int .i64 i, .string vs, .string s, .slice (some a) 1 q] 29 (0, 0))) ⟨(Below.refl _ _).alloc (Nat.le_refl _) _, alloc_at rfl _⟩ fun w0 hw0 => ?_
  have H0 := Lib.hid hw0
  have g0 := Lib.cell_of_heap hw0.2 0
  have g1 := Lib.cell_of_heap hw0.2 1
  have g2 := Lib.cell_of_heap hw0.2 2
  have g3 := Lib.cell_of_heap hw0.2 3
  have g4 := Lib.cell_of_heap hw0.2 4
  have g5 := Lib.cell_of_heap hw0.2 5
  simp only [List.getElem?_toArray, List.getElem?_cons_zero, List.getElem?_cons_succ] at g0 g1 g2 g3 g4 g5
  have hz0 := lt_of_block hw0.2
  clear hw0
  have hx0 := HX.out.1.keep (W' := w0) (H0.out.1.block _ hal)
  have k0 := (hx0).c0
  have k1 := (hx0).c1
  have k2 := (hx0).c2
  have k3 := (hx0).c3
  have k4 := (hx0).c4
  have k5 := (hx0).c5
  simp only [Ex.op, Ex.x, Ex.s, Ex.l] at k0 k1 k2 k3 k4 k5
  have hal0 : a.block < w0.heap.size := by have := H0.out.1.size; omega
  clear hx0
  have HRY : Hid (Calls Tryz.prog 70 #[.agg #[.string yop, .int .i64 yk, .int .i64 yi, .string yv, .string ys, u0], .slice A na ca] w0 fun e w' => RetII e ∧ Below w0.heap.size w0 w') := Lib.hid (HREC.out (.mk yop ⟨yk, yi, yv⟩ ys yl) u0 m w0 List.mem_cons_self (HX.out.2.below H0.out.1) H0.out.1)
  go_upto_region 11 with (go_at_call 70; (with_reducible refine HRY.out.mono ?_); rintro e w1 ⟨⟨z1, z2, rfl⟩, hb1⟩; have HB1 := Lib.hid (And.intro (H0.out.1.trans (hb1.mono H0.out.1.size)) ((hb1.block _ hz0).trans H0.out.2)); clear hb1)
  refine wp_gen (fun W => Below w.heap.size w W ∧ W.heap[w.heap.size]? = some (.cells #[.string ⟨#[110, 111, 116]⟩, .int .i64 k, .int .i64 i, .string vs, .string s, .slice (some a) 1 q] 29 (0, 0))) HB1.out fun w2 hw2 => ?_
  have H2 := Lib.hid hw2
  clear g0 g1 g2 g3 g4 g5 hz0 hal0 k0 k1 k2 k3 k4 k5
  have g0 := Lib.cell_of_heap hw2.2 0
  have g1 := Lib.cell_of_heap hw2.2 1
  have g2 := Lib.cell_of_heap hw2.2 2
  have g3 := Lib.cell_of_heap hw2.2 3
  have g4 := Lib.cell_of_heap hw2.2 4
  have g5 := Lib.cell_of_heap hw2.2 5
  simp only [List.getElem?_toArray, List.getElem?_cons_zero, List.getElem?_cons_succ] at g0 g1 g2 g3 g4 g5
  have hz0 := lt_of_block hw2.2
  clear hw2
  obtain ⟨bf, hbf⟩ : ∃ b, (z2 != 0) = b := ⟨_, rfl⟩
  obtain ⟨b0, hb0⟩ : ∃ b, (z1 != 0) = b := ⟨_, rfl⟩
  obtain ⟨b3, hb3⟩ : ∃ b, (z1 != 3) = b := ⟨_, rfl⟩
  cases bf <;> cases b0 <;> cases b3
  all_goals go_wp2_with (fail)
  all_goals go_ret2
  all_goals exact ⟨⟨_, _, rfl⟩, H2.out.1⟩
set_option maxRecDepth 100000 in
set_option maxHeartbeats 4000000 in
theorem rtype_null (P : Nat → Prop) (n : Nat) (k i : Int) (vs s : ByteArray) (y : Ex) (u : Value) (A : Option Addr) (na ca : Nat) (cols : List Cl) (w : World) (ht : Tr w P n (.mk ⟨#[110, 117, 108, 108]⟩ ⟨k, i, vs⟩ s [y]) u) (hrec : ∀ (y9 : Ex) (u : Value) (M : Nat) (W : World), y9 ∈ [y] → Tr W P M y9 u → Below w.heap.size w W → Calls Tryz.prog 70 #[EVt y9 u, .slice A na ca] W fun e w' => RetII e ∧ Below W.heap.size W w') : Calls Tryz.prog 70 #[.agg #[.string ⟨#[110, 117, 108, 108]⟩, .int .i64 k, .int .i64 i, .string vs, .string s, u], .slice A na ca] w fun e w' => RetII e ∧ Below w.heap.size w w' := by
  obtain ⟨a, q, u0, m, rfl, hal, hc, ht0⟩ := kids1 ht
  obtain ⟨yop, yx, ys, yl⟩ := y
  obtain ⟨yk, yi, yv⟩ := yx
  have HX := Lib.hid (And.intro hc ht0)
  have HREC := Lib.hid hrec
  clear ht hc ht0 hrec
  go_enter Tryz.func70, Tryz.ntmps70
  go_upto_region 10 with (fail)
  refine wp_gen (fun W => Below w.heap.size w W ∧ W.heap[w.heap.size]? = some (.cells #[.string ⟨#[110, 117, 108, 108]⟩, .int .i64 k, .int .i64 i, .string vs, .string s, .slice (some a) 1 q] 29 (0, 0))) ⟨(Below.refl _ _).alloc (Nat.le_refl _) _, alloc_at rfl _⟩ fun w0 hw0 => ?_
  have H0 := Lib.hid hw0
  have g0 := Lib.cell_of_heap hw0.2 0
  have g1 := Lib.cell_of_heap hw0.2 1
  have g2 := Lib.cell_of_heap hw0.2 2
  have g3 := Lib.cell_of_heap hw0.2 3
  have g4 := Lib.cell_of_heap hw0.2 4
  have g5 := Lib.cell_of_heap hw0.2 5
  simp only [List.getElem?_toArray, List.getElem?_cons_zero, List.getElem?_cons_succ] at g0 g1 g2 g3 g4 g5
  have hz0 := lt_of_block hw0.2
  clear hw0
  have hx0 := HX.out.1.keep (W' := w0) (H0.out.1.block _ hal)
  have k0 := (hx0).c0
  have k1 := (hx0).c1
  have k2 := (hx0).c2
  have k3 := (hx0).c3
  have k4 := (hx0).c4
  have k5 := (hx0).c5
  simp only [Ex.op, Ex.x, Ex.s, Ex.l] at k0 k1 k2 k3 k4 k5
  have hal0 : a.block < w0.heap.size := by have := H0.out.1.size; omega
  clear hx0
  have HRY : Hid (Calls Tryz.prog 70 #[.agg #[.string yop, .int .i64 yk, .int .i64 yi, .string yv, .string ys, u0], .slice A na ca] w0 fun e w' => RetII e ∧ Below w0.heap.size w0 w') := Lib.hid (HREC.out (.mk yop ⟨yk, yi, yv⟩ ys yl) u0 m w0 List.mem_cons_self (HX.out.2.below H0.out.1) H0.out.1)
  go_upto_region 11 with (go_at_call 70; (with_reducible refine HRY.out.mono ?_); rintro e w1 ⟨⟨z1, z2, rfl⟩, hb1⟩; have HB1 := Lib.hid (And.intro (H0.out.1.trans (hb1.mono H0.out.1.size)) ((hb1.block _ hz0).trans H0.out.2)); clear hb1)
  refine wp_gen (fun W => Below w.heap.size w W ∧ W.heap[w.heap.size]? = some (.cells #[.string ⟨#[110, 117, 108, 108]⟩, .int .i64 k, .int .i64 i, .string vs, .string s, .slice (some a) 1 q] 29 (0, 0))) HB1.out fun w2 hw2 => ?_
  have H2 := Lib.hid hw2
  clear g0 g1 g2 g3 g4 g5 hz0 hal0 k0 k1 k2 k3 k4 k5
  have g0 := Lib.cell_of_heap hw2.2 0
  have g1 := Lib.cell_of_heap hw2.2 1
  have g2 := Lib.cell_of_heap hw2.2 2
  have g3 := Lib.cell_of_heap hw2.2 3
  have g4 := Lib.cell_of_heap hw2.2 4
  have g5 := Lib.cell_of_heap hw2.2 5
  simp only [List.getElem?_toArray, List.getElem?_cons_zero, List.getElem?_cons_succ] at g0 g1 g2 g3 g4 g5
  have hz0 := lt_of_block hw2.2
  clear hw2
  obtain ⟨bf, hbf⟩ : ∃ b, (z2 != 0) = b := ⟨_, rfl⟩
  obtain ⟨b0, hb0⟩ : ∃ b, (z1 != 0) = b := ⟨_, rfl⟩
  obtain ⟨b3, hb3⟩ : ∃ b, (z1 != 3) = b := ⟨_, rfl⟩
  cases bf <;> cases b0 <;> cases b3
  all_goals go_wp2_with (fail)
  all_goals go_ret2
  all_goals exact ⟨⟨_, _, rfl⟩, H2.out.1⟩
end Go.Proofs.YtmhkmliebhbkdaaGreat

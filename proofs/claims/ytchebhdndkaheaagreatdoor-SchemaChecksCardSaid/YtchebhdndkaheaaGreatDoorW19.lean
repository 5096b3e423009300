import Derived.Test.YtchebhdndkaheaaGreatDoorW15
import Derived.Deep.DeepCutAuto
import Derived.Laws.Rows
import Derived.Laws.Tables
import Derived.Great.BuildSlice
import Derived.Test.YtchebhdndkaheaaGreatDoorW14
import Derived.Test.YtchebhdndkaheaaGreatDoorW17
import Derived.Shelf.Strings.OnBuilder
import Derived.Ground.GgwProg
import Derived.Test.YtchebhdndkaheaaGreatDoorProg
import Derived.Shelf.Lays
import Derived.Test.YtchebhdndkaheaaGreatDoorW05
import Derived.Test.YtchebhdndkaheaaGreatDoorW11
import Derived.Test.YtchebhdndkaheaaGreatDoorRows
import Derived.Test.YtchebhdndkaheaaGreatDoorW04
import Derived.Lib.LaidTab
import Derived.Stop.LaidErr
import Derived.MakeChecks

/- The statement parser: its state, the token at hand. -/
namespace Go.Proofs.YtchebhdndkaheaaGreatDoor
open Go.RowKit Go.Lib

section
variable {W W' : World} {g : Nat} {A : Option Addr} {c : Nat} {l : List Tn} {at' : Nat} {failed : Bool}
end

end Go.Proofs.YtchebhdndkaheaaGreatDoor

/- The statement parser: words that are taken, names. -/
namespace Go.Proofs.YtchebhdndkaheaaGreatDoor
open Go.RowKit Go.Lib

/-- May a name be this text? -/
def nmB (s : ByteArray) : Bool := nameB s && !resB s
set_option maxRecDepth 100000 in
set_option maxHeartbeats 4000000 in
theorem named_any (s : ByteArray) (w : World) (hs : s.size ≤ 100000) :
    Calls Tryz.prog 96 #[.string s] w fun e w' => e = .returned (.bool (nmB s)) ∧ Below w.heap.size w w' := by
  have H1 : Hid (∀ W, Calls Tryz.prog 87 #[.string s] W fun e w' => e = .returned (.bool (nameB s)) ∧ Below W.heap.size W w') := fun W => name_any s W hs
  have H2 : Hid (∀ W, Calls Tryz.prog 88 #[.string s] W fun e w' => e = .returned (.bool (resB s)) ∧ Below W.heap.size W w') := fun W => reserved_any s W
  unfold nmB
  generalize nameB s = x at H1 ⊢
  generalize resB s = y at H2 ⊢
  cases x with
  | false =>
    go_enter Tryz.func96, Tryz.ntmps96
    go_wp2_with (go_at_call 87; refine (H1.out _).mono ?_; rintro e w1 ⟨rfl, hb1⟩; have HB1 := Lib.hid hb1; clear hb1)
    go_ret
    exact ⟨rfl, HB1.out⟩
  | true =>
    cases y with
    | false =>
      go_enter Tryz.func96, Tryz.ntmps96
      go_wp2_with (first
        | (go_at_call 87; refine (H1.out _).mono ?_; rintro e w1 ⟨rfl, hb1⟩; have HB1 := Lib.hid hb1; clear hb1)
        | (go_at_call 88; refine (H2.out _).mono ?_; rintro e w2 ⟨rfl, hb2⟩; have HB2 : Hid (Below w.heap.size w w2) := HB1.out.trans (hb2.mono HB1.out.size); clear hb2))
      go_ret
      exact ⟨rfl, HB2.out⟩
    | true =>
      go_enter Tryz.func96, Tryz.ntmps96
      go_wp2_with (first
        | (go_at_call 87; refine (H1.out _).mono ?_; rintro e w1 ⟨rfl, hb1⟩; have HB1 := Lib.hid hb1; clear hb1)
        | (go_at_call 88; refine (H2.out _).mono ?_; rintro e w2 ⟨rfl, hb2⟩; have HB2 : Hid (Below w.heap.size w w2) := HB1.out.trans (hb2.mono HB1.out.size); clear hb2))
      go_ret
      exact ⟨rfl, HB2.out⟩

theorem Wds.grown {W W' : World} {b g : Nat} {ws : List ByteArray} (h : Wds W b ws) (hg : W.grownBy W' (some g)) (hb : b ≠ g) : Wds W' b ws := fun j hj =>
  (World.cell?_of_block (w := W) (a := ⟨b, j, none⟩) (hg.block b (World.block_lt_of_cell? W _ (h j hj)) (fun e => hb (by injection e)))).trans (h j hj)
end Go.Proofs.YtchebhdndkaheaaGreatDoor

/- The statement parser: what must stand; a name; whatever stands there. -/
namespace Go.Proofs.YtchebhdndkaheaaGreatDoor
open Go.RowKit Go.Lib

end Go.Proofs.YtchebhdndkaheaaGreatDoor

/- The statement parser: rights. -/
namespace Go.Proofs.YtchebhdndkaheaaGreatDoor
open Go.RowKit Go.Lib

theorem stSize : (Tryz.prog.info? 61).map (·.size) = some 23 := by kernel_rfl
theorem rt_one (op tb ro : ByteArray) : (#[.string op, .string tb, .string ⟨#[]⟩, .slice none 0 0, .slice none 0 0, .string ⟨#[]⟩, .slice none 0 0, .slice none 0 0, .string ⟨#[]⟩, .int .i64 0, .int .i64 0, .string ⟨#[]⟩, .string ⟨#[]⟩, .slice none 0 0, .slice none 0 0, .slice none 0 0, .string ⟨#[]⟩, .int .i64 0, .int .i64 0, .string ⟨#[]⟩, .string ⟨#[]⟩, .slice none 0 0, .string ro] : Array Value).all (·.oneCell') = true := by simp [Value.oneCell']
section
variable {w W W' : World} {g : Nat} {A : Option Addr} {c : Nat} {l : List Tn} {op tb ro : ByteArray} {at' at2 : Nat} {failed f2 : Bool}
end
end Go.Proofs.YtchebhdndkaheaaGreatDoor

/- The statement parser: GRANT and REVOKE. -/
namespace Go.Proofs.YtchebhdndkaheaaGreatDoor
open Go.RowKit Go.Lib

end Go.Proofs.YtchebhdndkaheaaGreatDoor

/- The statement parser: the word that a statement begins with. -/
namespace Go.Proofs.YtchebhdndkaheaaGreatDoor
open Go.RowKit Go.Lib

end Go.Proofs.YtchebhdndkaheaaGreatDoor

/- The statement parser: a statement by its first word. -/
namespace Go.Proofs.YtchebhdndkaheaaGreatDoor
open Go.RowKit Go.Lib

end Go.Proofs.YtchebhdndkaheaaGreatDoor

/- The statement parser: Parse. -/
namespace Go.Proofs.YtchebhdndkaheaaGreatDoor
open Go.RowKit Go.Lib

theorem results_row_tmp {P : Program} {fn : Func} {p u : Tmp} {ty : TypeId} (h : fn.results = #[.cell p ty, .tmp u]) (tmps : Array Value) (w : World) (g : Nat) (t : TypeId) (cs : Array Value) (fr : Nat × Nat) (d : TypeDesc)
    (hp : tmps.getD p undef = .pointer (some ⟨g, 0, none⟩)) (hg : w.heap[g]? = some (.cells cs t fr))
    (hu : P.underlying ty = some d) (hd : (match d with | .struct _ | .array _ _ => true | _ => false) = true) (hi : (P.info? ty).map (·.size) = some cs.size) (v : Value) (hv : tmps.getD u undef = v) :
    (results fn tmps).run P w = .ok (.tuple #[.agg cs, v]) w := by
  rw [results_cell_tmp h, hp, hv]
  simp [asAddr, run_loadVar_row w g t ty cs fr d hg hu hd hi, Result.andThen]
theorem below_row {B b : Nat} {w W : World} (h : Below B w W) (cs : Array Value) (hb : B ≤ b) : Below B w (W.setRow b cs) := h.trans ⟨rfl, rfl, rfl, by rw [setRow_size]; exact Nat.le_refl _, fun q hq => setRow_other _ _ _ _ (by omega)⟩
theorem wpList_load_row_on {P : Program} {ops : Array Oper} {rest : List Oper} {o : Oper} {a : Act} {w : World} {Q : Exit → Act → World → Prop} (hw : Region.wanted o (yielded ops a.tmps) = true) (ty : TypeId) (x : Operand) (ho : o.op = .load ty x)
    (g : Nat) (hx : a.eval x = .pointer (some ⟨g, 0, none⟩)) (t : TypeId) (cs : Array Value) (fr : Nat × Nat) (d : TypeDesc) (hg : w.heap[g]? = some (.cells cs t fr))
    (hu : P.underlying ty = some d) (hd : (match d with | .struct _ | .array _ _ => true | _ => false) = true) (hi : (P.info? ty).map (·.size) = some cs.size)
    (h : wpList P ops Q rest (a.put o.dst (.agg cs)) w) : wpList P ops Q (o :: rest) a w :=
  wpList_step fun K hK => by rw [if_pos hw]; exact wp_load_row ty x ho g hx t cs fr d hg hu hd hi (hK _ _ h)
end Go.Proofs.YtchebhdndkaheaaGreatDoor

/- The statement's parts: none at all are the same. -/
namespace Go.Proofs.YtchebhdndkaheaaGreatDoor
open Go.RowKit Go.Lib

set_option maxRecDepth 100000 in
set_option maxHeartbeats 4000000 in
theorem eq_nil_s (w : World) : Calls Tryz.prog 127 #[.slice none 0 0, .slice none 0 0] w fun e w' => e = .returned (.bool true) ∧ Below w.heap.size w w' := by
  go_enter Tryz.func127, Tryz.ntmps127
  go_wp2_with (fail)
  refine wp_loop_once ?_
  go_wp2_with (fail)
  go_ret
  exact ⟨rfl, Below.refl _ _⟩
set_option maxRecDepth 100000 in
set_option maxHeartbeats 4000000 in
theorem eq_nil_c (w : World) : Calls Tryz.prog 128 #[.slice none 0 0, .slice none 0 0] w fun e w' => e = .returned (.bool true) ∧ Below w.heap.size w w' := by
  go_enter Tryz.func128, Tryz.ntmps128
  go_wp2_with (fail)
  refine wp_loop_once ?_
  go_wp2_with (fail)
  go_ret
  exact ⟨rfl, Below.refl _ _⟩
set_option maxRecDepth 100000 in
set_option maxHeartbeats 4000000 in
theorem eq_nil_r (w : World) : Calls Tryz.prog 129 #[.slice none 0 0, .slice none 0 0] w fun e w' => e = .returned (.bool true) ∧ Below w.heap.size w w' := by
  go_enter Tryz.func129, Tryz.ntmps129
  go_wp2_with (fail)
  refine wp_loop_once ?_
  go_wp2_with (fail)
  go_ret
  exact ⟨rfl, Below.refl _ _⟩
set_option maxRecDepth 100000 in
set_option maxHeartbeats 4000000 in
theorem eq_nil_v (w : World) : Calls Tryz.prog 130 #[.slice none 0 0, .slice none 0 0] w fun e w' => e = .returned (.bool true) ∧ Below w.heap.size w w' := by
  go_enter Tryz.func130, Tryz.ntmps130
  go_wp2_with (fail)
  refine wp_loop_once ?_
  go_wp2_with (fail)
  go_ret
  exact ⟨rfl, Below.refl _ _⟩
set_option maxRecDepth 100000 in
set_option maxHeartbeats 4000000 in
theorem eq_nil_t (w : World) : Calls Tryz.prog 131 #[.slice none 0 0, .slice none 0 0, .func (.func 132) #[] #[]] w fun e w' => e = .returned (.bool true) ∧ Below w.heap.size w w' := by
  go_enter Tryz.func131, Tryz.ntmps131
  go_wp2_with (fail)
  refine wp_loop_once ?_
  go_wp2_with (fail)
  go_ret
  exact ⟨rfl, Below.refl _ _⟩
set_option maxRecDepth 100000 in
set_option maxHeartbeats 4000000 in
theorem eq_nil_e (w : World) : Calls Tryz.prog 60 #[.slice none 0 0, .slice none 0 0, .func (.func 37) #[] #[]] w fun e w' => e = .returned (.bool true) ∧ Below w.heap.size w w' := by
  go_enter Tryz.func60, Tryz.ntmps60
  go_wp2_with (fail)
  refine wp_loop_once ?_
  go_wp2_with (fail)
  go_ret
  exact ⟨rfl, Below.refl _ _⟩
set_option maxRecDepth 100000 in
set_option maxHeartbeats 4000000 in
theorem same_nil (w : World) : Calls Tryz.prog 37 #[.agg #[.string ⟨#[]⟩, .int .i64 0, .int .i64 0, .string ⟨#[]⟩, .string ⟨#[]⟩, .slice none 0 0], .agg #[.string ⟨#[]⟩, .int .i64 0, .int .i64 0, .string ⟨#[]⟩, .string ⟨#[]⟩, .slice none 0 0]] w fun e w' => e = .returned (.bool true) ∧ Below w.heap.size w w' := by
  go_enter Tryz.func37, Tryz.ntmps37
  go_wp2_with (go_at_call 60; (with_reducible refine (eq_nil_e _).mono ?_); rintro e w1 ⟨rfl, hb1⟩; have HB1 := Lib.hid hb1; clear hb1)
  go_ret
  exact ⟨rfl, ((Below.refl _ _).alloc (Nat.le_refl _) _).trans (((Below.refl _ _).alloc (by simp) _).trans (HB1.out.mono (by simp; omega)))⟩
end Go.Proofs.YtchebhdndkaheaaGreatDoor

/- The empty statement is the same as itself. -/
namespace Go.Proofs.YtchebhdndkaheaaGreatDoor
open Go.RowKit Go.Lib

/-- Two empty statements in the two blocks behind w's. -/
structure Bx2 (w W : World) : Prop where
  lo : Below w.heap.size w W
  a : W.heap[w.heap.size]? = some (.cells #[.string ⟨#[]⟩, .string ⟨#[]⟩, .string ⟨#[]⟩, .slice none 0 0, .slice none 0 0, .string ⟨#[]⟩, .slice none 0 0, .slice none 0 0, .string ⟨#[]⟩, .int .i64 0, .int .i64 0, .string ⟨#[]⟩, .string ⟨#[]⟩, .slice none 0 0, .slice none 0 0, .slice none 0 0, .string ⟨#[]⟩, .int .i64 0, .int .i64 0, .string ⟨#[]⟩, .string ⟨#[]⟩, .slice none 0 0, .string ⟨#[]⟩] 61 (0, 0))
  b : W.heap[w.heap.size + 1]? = some (.cells #[.string ⟨#[]⟩, .string ⟨#[]⟩, .string ⟨#[]⟩, .slice none 0 0, .slice none 0 0, .string ⟨#[]⟩, .slice none 0 0, .slice none 0 0, .string ⟨#[]⟩, .int .i64 0, .int .i64 0, .string ⟨#[]⟩, .string ⟨#[]⟩, .slice none 0 0, .slice none 0 0, .slice none 0 0, .string ⟨#[]⟩, .int .i64 0, .int .i64 0, .string ⟨#[]⟩, .string ⟨#[]⟩, .slice none 0 0, .string ⟨#[]⟩] 61 (0, 0))
theorem Bx2.step {w W W' : World} (h : Bx2 w W) (hb : Below W.heap.size W W') : Bx2 w W' :=
  ⟨h.lo.trans (hb.mono h.lo.size), (hb.block _ (lt_of_block h.a)).trans h.a, (hb.block _ (lt_of_block h.b)).trans h.b⟩
theorem Bx2.ca {w W : World} (h : Bx2 w W) (j : Nat) : W.cell? ⟨w.heap.size, j, none⟩ = (#[.string ⟨#[]⟩, .string ⟨#[]⟩, .string ⟨#[]⟩, .slice none 0 0, .slice none 0 0, .string ⟨#[]⟩, .slice none 0 0, .slice none 0 0, .string ⟨#[]⟩, .int .i64 0, .int .i64 0, .string ⟨#[]⟩, .string ⟨#[]⟩, .slice none 0 0, .slice none 0 0, .slice none 0 0, .string ⟨#[]⟩, .int .i64 0, .int .i64 0, .string ⟨#[]⟩, .string ⟨#[]⟩, .slice none 0 0, .string ⟨#[]⟩] : Array Value)[j]? := Lib.cell_of_heap h.a j
theorem Bx2.cb {w W : World} (h : Bx2 w W) (j : Nat) : W.cell? ⟨w.heap.size + 1, j, none⟩ = (#[.string ⟨#[]⟩, .string ⟨#[]⟩, .string ⟨#[]⟩, .slice none 0 0, .slice none 0 0, .string ⟨#[]⟩, .slice none 0 0, .slice none 0 0, .string ⟨#[]⟩, .int .i64 0, .int .i64 0, .string ⟨#[]⟩, .string ⟨#[]⟩, .slice none 0 0, .slice none 0 0, .slice none 0 0, .string ⟨#[]⟩, .int .i64 0, .int .i64 0, .string ⟨#[]⟩, .string ⟨#[]⟩, .slice none 0 0, .string ⟨#[]⟩] : Array Value)[j]? := Lib.cell_of_heap h.b j
theorem Bx2.start (w : World) : Bx2 w ((w.alloc (.cells #[.string ⟨#[]⟩, .string ⟨#[]⟩, .string ⟨#[]⟩, .slice none 0 0, .slice none 0 0, .string ⟨#[]⟩, .slice none 0 0, .slice none 0 0, .string ⟨#[]⟩, .int .i64 0, .int .i64 0, .string ⟨#[]⟩, .string ⟨#[]⟩, .slice none 0 0, .slice none 0 0, .slice none 0 0, .string ⟨#[]⟩, .int .i64 0, .int .i64 0, .string ⟨#[]⟩, .string ⟨#[]⟩, .slice none 0 0, .string ⟨#[]⟩] 61)).alloc (.cells #[.string ⟨#[]⟩, .string ⟨#[]⟩, .string ⟨#[]⟩, .slice none 0 0, .slice none 0 0, .string ⟨#[]⟩, .slice none 0 0, .slice none 0 0, .string ⟨#[]⟩, .int .i64 0, .int .i64 0, .string ⟨#[]⟩, .string ⟨#[]⟩, .slice none 0 0, .slice none 0 0, .slice none 0 0, .string ⟨#[]⟩, .int .i64 0, .int .i64 0, .string ⟨#[]⟩, .string ⟨#[]⟩, .slice none 0 0, .string ⟨#[]⟩] 61)) :=
  ⟨((Below.refl _ _).alloc (Nat.le_refl _) _).alloc (by simp) _, (Below.heap_alloc _ _ _ (by simp)).trans (alloc_at rfl _), alloc_at (by simp) _⟩

set_option maxRecDepth 100000 in
set_option maxHeartbeats 4000000 in
theorem ssame_nil (w : World) : Calls Tryz.prog 98 #[.agg #[.string ⟨#[]⟩, .string ⟨#[]⟩, .string ⟨#[]⟩, .slice none 0 0, .slice none 0 0, .string ⟨#[]⟩, .slice none 0 0, .slice none 0 0, .string ⟨#[]⟩, .int .i64 0, .int .i64 0, .string ⟨#[]⟩, .string ⟨#[]⟩, .slice none 0 0, .slice none 0 0, .slice none 0 0, .string ⟨#[]⟩, .int .i64 0, .int .i64 0, .string ⟨#[]⟩, .string ⟨#[]⟩, .slice none 0 0, .string ⟨#[]⟩], .agg #[.string ⟨#[]⟩, .string ⟨#[]⟩, .string ⟨#[]⟩, .slice none 0 0, .slice none 0 0, .string ⟨#[]⟩, .slice none 0 0, .slice none 0 0, .string ⟨#[]⟩, .int .i64 0, .int .i64 0, .string ⟨#[]⟩, .string ⟨#[]⟩, .slice none 0 0, .slice none 0 0, .slice none 0 0, .string ⟨#[]⟩, .int .i64 0, .int .i64 0, .string ⟨#[]⟩, .string ⟨#[]⟩, .slice none 0 0, .string ⟨#[]⟩]] w fun e w' => e = .returned (.bool true) ∧ Below w.heap.size w w' := by
  have H0 := Lib.hid (Bx2.start w)
  go_enter Tryz.func98, Tryz.ntmps98
  go_wp2_with (first
    | (go_at_call 127; (with_reducible refine (eq_nil_s _).mono ?_); rintro e w1 ⟨rfl, hb1⟩; have H0 := Lib.hid (H0.out.step hb1); have a4 : w1.cell? ⟨w.heap.size, 4, none⟩ = some (.slice none 0 0) := H0.out.ca 4; have b4 : w1.cell? ⟨w.heap.size + 1, 4, none⟩ = some (.slice none 0 0) := H0.out.cb 4; have a7 : w1.cell? ⟨w.heap.size, 7, none⟩ = some (.slice none 0 0) := H0.out.ca 7; have b7 : w1.cell? ⟨w.heap.size + 1, 7, none⟩ = some (.slice none 0 0) := H0.out.cb 7; clear hb1)
    | (go_at_call 128; (with_reducible refine (eq_nil_c _).mono ?_); rintro e w1 ⟨rfl, hb1⟩; have H0 := Lib.hid (H0.out.step hb1); have a6 : w1.cell? ⟨w.heap.size, 6, none⟩ = some (.slice none 0 0) := H0.out.ca 6; have b6 : w1.cell? ⟨w.heap.size + 1, 6, none⟩ = some (.slice none 0 0) := H0.out.cb 6; clear hb1)
    | (go_at_call 129; (with_reducible refine (eq_nil_r _).mono ?_); rintro e w1 ⟨rfl, hb1⟩; have H0 := Lib.hid (H0.out.step hb1); have a14 : w1.cell? ⟨w.heap.size, 14, none⟩ = some (.slice none 0 0) := H0.out.ca 14; have b14 : w1.cell? ⟨w.heap.size + 1, 14, none⟩ = some (.slice none 0 0) := H0.out.cb 14; clear hb1)
    | (go_at_call 130; (with_reducible refine (eq_nil_v _).mono ?_); rintro e w1 ⟨rfl, hb1⟩; have H0 := Lib.hid (H0.out.step hb1); have a15 : w1.cell? ⟨w.heap.size, 15, none⟩ = some (.slice none 0 0) := H0.out.ca 15; have b15 : w1.cell? ⟨w.heap.size + 1, 15, none⟩ = some (.slice none 0 0) := H0.out.cb 15; clear hb1)
    | (go_at_call 131; (with_reducible refine (eq_nil_t _).mono ?_); rintro e w1 ⟨rfl, hb1⟩; have H0 := Lib.hid (H0.out.step hb1); have a8 : w1.cell? ⟨w.heap.size, 8, none⟩ = some (.string ⟨#[]⟩) := H0.out.ca 8; have b8 : w1.cell? ⟨w.heap.size + 1, 8, none⟩ = some (.string ⟨#[]⟩) := H0.out.cb 8; have a9 : w1.cell? ⟨w.heap.size, 9, none⟩ = some (.int .i64 0) := H0.out.ca 9; have b9 : w1.cell? ⟨w.heap.size + 1, 9, none⟩ = some (.int .i64 0) := H0.out.cb 9; have a10 : w1.cell? ⟨w.heap.size, 10, none⟩ = some (.int .i64 0) := H0.out.ca 10; have b10 : w1.cell? ⟨w.heap.size + 1, 10, none⟩ = some (.int .i64 0) := H0.out.cb 10; have a11 : w1.cell? ⟨w.heap.size, 11, none⟩ = some (.string ⟨#[]⟩) := H0.out.ca 11; have b11 : w1.cell? ⟨w.heap.size + 1, 11, none⟩ = some (.string ⟨#[]⟩) := H0.out.cb 11; have a12 : w1.cell? ⟨w.heap.size, 12, none⟩ = some (.string ⟨#[]⟩) := H0.out.ca 12; have b12 : w1.cell? ⟨w.heap.size + 1, 12, none⟩ = some (.string ⟨#[]⟩) := H0.out.cb 12; have a13 : w1.cell? ⟨w.heap.size, 13, none⟩ = some (.slice none 0 0) := H0.out.ca 13; have b13 : w1.cell? ⟨w.heap.size + 1, 13, none⟩ = some (.slice none 0 0) := H0.out.cb 13; clear hb1)
    | (go_at_call 37; (with_reducible refine (same_nil _).mono ?_); rintro e w1 ⟨rfl, hb1⟩; have H0 := Lib.hid (H0.out.step hb1); have a16 : w1.cell? ⟨w.heap.size, 16, none⟩ = some (.string ⟨#[]⟩) := H0.out.ca 16; have b16 : w1.cell? ⟨w.heap.size + 1, 16, none⟩ = some (.string ⟨#[]⟩) := H0.out.cb 16; have a17 : w1.cell? ⟨w.heap.size, 17, none⟩ = some (.int .i64 0) := H0.out.ca 17; have b17 : w1.cell? ⟨w.heap.size + 1, 17, none⟩ = some (.int .i64 0) := H0.out.cb 17; have a18 : w1.cell? ⟨w.heap.size, 18, none⟩ = some (.int .i64 0) := H0.out.ca 18; have b18 : w1.cell? ⟨w.heap.size + 1, 18, none⟩ = some (.int .i64 0) := H0.out.cb 18; have a19 : w1.cell? ⟨w.heap.size, 19, none⟩ = some (.string ⟨#[]⟩) := H0.out.ca 19; have b19 : w1.cell? ⟨w.heap.size + 1, 19, none⟩ = some (.string ⟨#[]⟩) := H0.out.cb 19; have a20 : w1.cell? ⟨w.heap.size, 20, none⟩ = some (.string ⟨#[]⟩) := H0.out.ca 20; have b20 : w1.cell? ⟨w.heap.size + 1, 20, none⟩ = some (.string ⟨#[]⟩) := H0.out.cb 20; have a21 : w1.cell? ⟨w.heap.size, 21, none⟩ = some (.slice none 0 0) := H0.out.ca 21; have b21 : w1.cell? ⟨w.heap.size + 1, 21, none⟩ = some (.slice none 0 0) := H0.out.cb 21; clear hb1))
  go_ret
  exact ⟨rfl, H0.out.lo⟩
end Go.Proofs.YtchebhdndkaheaaGreatDoor

/- A right's parts and its text. -/
namespace Go.Proofs.YtchebhdndkaheaaGreatDoor
open Go.RowKit Go.Lib

end Go.Proofs.YtchebhdndkaheaaGreatDoor

/- A right without its parts is the empty statement. -/
namespace Go.Proofs.YtchebhdndkaheaaGreatDoor
open Go.RowKit Go.Lib

theorem wpList_buildTo_on {P : Program} {ops : Array Oper} {rest : List Oper} {o : Oper} {a : Act} {w : World} {Q : Exit → Act → World → Prop} (hw : Region.wanted o (yielded ops a.tmps) = true) (t : TypeId) (parts : Array (Nat × Operand)) (ho : o.op = .build t parts)
    (d : Option Tmp) (hd : o.dst = d) (cells : Array Value) (hf : P.built t (parts.map fun (i, x) => (i, a.eval x)).toList = some cells)
    (h : wpList P ops Q rest (a.put d (.agg cells)) w) : wpList P ops Q (o :: rest) a w := by
  subst hd
  refine wpList_step fun K hK => ?_
  rw [if_pos hw]
  refine wp_build t parts ho (by rw [hf]; rfl) ?_
  rw [hf]
  exact hK _ _ h
end Go.Proofs.YtchebhdndkaheaaGreatDoor

/- A right's Text and May. -/
namespace Go.Proofs.YtchebhdndkaheaaGreatDoor
open Go.RowKit Go.Lib

end Go.Proofs.YtchebhdndkaheaaGreatDoor

/- The document's: a right is the same as itself. -/
namespace Go.Proofs.YtchebhdndkaheaaGreatDoor
open Go.RowKit Go.Lib

/-- Two rights in the two blocks behind w's. -/
structure Bxr (w : World) (op tb ro : ByteArray) (W : World) : Prop where
  lo : Below w.heap.size w W
  a : W.heap[w.heap.size]? = some (.cells #[.string op, .string tb, .string ⟨#[]⟩, .slice none 0 0, .slice none 0 0, .string ⟨#[]⟩, .slice none 0 0, .slice none 0 0, .string ⟨#[]⟩, .int .i64 0, .int .i64 0, .string ⟨#[]⟩, .string ⟨#[]⟩, .slice none 0 0, .slice none 0 0, .slice none 0 0, .string ⟨#[]⟩, .int .i64 0, .int .i64 0, .string ⟨#[]⟩, .string ⟨#[]⟩, .slice none 0 0, .string ro] 61 (0, 0))
  b : W.heap[w.heap.size + 1]? = some (.cells #[.string op, .string tb, .string ⟨#[]⟩, .slice none 0 0, .slice none 0 0, .string ⟨#[]⟩, .slice none 0 0, .slice none 0 0, .string ⟨#[]⟩, .int .i64 0, .int .i64 0, .string ⟨#[]⟩, .string ⟨#[]⟩, .slice none 0 0, .slice none 0 0, .slice none 0 0, .string ⟨#[]⟩, .int .i64 0, .int .i64 0, .string ⟨#[]⟩, .string ⟨#[]⟩, .slice none 0 0, .string ro] 61 (0, 0))
section
variable {w W W' : World} {op tb ro : ByteArray}
theorem Bxr.step (h : Bxr w op tb ro W) (hb : Below W.heap.size W W') : Bxr w op tb ro W' :=
  ⟨h.lo.trans (hb.mono h.lo.size), (hb.block _ (lt_of_block h.a)).trans h.a, (hb.block _ (lt_of_block h.b)).trans h.b⟩
theorem Bxr.ca (h : Bxr w op tb ro W) (j : Nat) : W.cell? ⟨w.heap.size, j, none⟩ = (#[.string op, .string tb, .string ⟨#[]⟩, .slice none 0 0, .slice none 0 0, .string ⟨#[]⟩, .slice none 0 0, .slice none 0 0, .string ⟨#[]⟩, .int .i64 0, .int .i64 0, .string ⟨#[]⟩, .string ⟨#[]⟩, .slice none 0 0, .slice none 0 0, .slice none 0 0, .string ⟨#[]⟩, .int .i64 0, .int .i64 0, .string ⟨#[]⟩, .string ⟨#[]⟩, .slice none 0 0, .string ro] : Array Value)[j]? := Lib.cell_of_heap h.a j
theorem Bxr.cb (h : Bxr w op tb ro W) (j : Nat) : W.cell? ⟨w.heap.size + 1, j, none⟩ = (#[.string op, .string tb, .string ⟨#[]⟩, .slice none 0 0, .slice none 0 0, .string ⟨#[]⟩, .slice none 0 0, .slice none 0 0, .string ⟨#[]⟩, .int .i64 0, .int .i64 0, .string ⟨#[]⟩, .string ⟨#[]⟩, .slice none 0 0, .slice none 0 0, .slice none 0 0, .string ⟨#[]⟩, .int .i64 0, .int .i64 0, .string ⟨#[]⟩, .string ⟨#[]⟩, .slice none 0 0, .string ro] : Array Value)[j]? := Lib.cell_of_heap h.b j
theorem Bxr.start (w : World) (op tb ro : ByteArray) : Bxr w op tb ro ((w.alloc (.cells #[.string op, .string tb, .string ⟨#[]⟩, .slice none 0 0, .slice none 0 0, .string ⟨#[]⟩, .slice none 0 0, .slice none 0 0, .string ⟨#[]⟩, .int .i64 0, .int .i64 0, .string ⟨#[]⟩, .string ⟨#[]⟩, .slice none 0 0, .slice none 0 0, .slice none 0 0, .string ⟨#[]⟩, .int .i64 0, .int .i64 0, .string ⟨#[]⟩, .string ⟨#[]⟩, .slice none 0 0, .string ro] 61)).alloc (.cells #[.string op, .string tb, .string ⟨#[]⟩, .slice none 0 0, .slice none 0 0, .string ⟨#[]⟩, .slice none 0 0, .slice none 0 0, .string ⟨#[]⟩, .int .i64 0, .int .i64 0, .string ⟨#[]⟩, .string ⟨#[]⟩, .slice none 0 0, .slice none 0 0, .slice none 0 0, .string ⟨#[]⟩, .int .i64 0, .int .i64 0, .string ⟨#[]⟩, .string ⟨#[]⟩, .slice none 0 0, .string ro] 61)) :=
  ⟨((Below.refl _ _).alloc (Nat.le_refl _) _).alloc (by simp) _, (Below.heap_alloc _ _ _ (by simp)).trans (alloc_at rfl _), alloc_at (by simp) _⟩
end

end Go.Proofs.YtchebhdndkaheaaGreatDoor

/- The statement parser at a right: what comes of any tokens behind GRANT READ and the like. -/
namespace Go.Proofs.YtchebhdndkaheaaGreatDoor
open Go.RowKit Go.Lib

section
variable {l : List Tn} {st : Nat × Bool} {p : Tn → Bool}
end
end Go.Proofs.YtchebhdndkaheaaGreatDoor

/- The statement parser: statements that hold memory of their own. -/
namespace Go.Proofs.YtchebhdndkaheaaGreatDoor
open Go.RowKit Go.Lib

/-- What is said of a statement's cells, whose blocks lie from n on. -/
structure Kp (C : Nat → World → Array Value → Prop) : Prop where
  mono : ∀ {n m : Nat} {W : World} {cs : Array Value}, C n W cs → m ≤ n → C m W cs
  keep : ∀ {n : Nat} {W W' : World} {cs : Array Value}, C n W cs → (∀ b, n ≤ b → b < W.heap.size → W'.heap[b]? = W.heap[b]?) → C n W' cs
  one : ∀ {n : Nat} {W : World} {cs : Array Value}, C n W cs → cs.all (·.oneCell') = true
  size : ∀ {n : Nat} {W : World} {cs : Array Value}, C n W cs → cs.size = 23
section
variable {C : Nat → World → Array Value → Prop} {n : Nat} {W W' : World} {cs : Array Value}
theorem Kp.below (k : Kp C) (h : C n W cs) (hb : Below W.heap.size W W') : C n W' cs := k.keep h fun b _ hl => hb.block b hl
theorem Kp.alloc (k : Kp C) (h : C n W cs) (o : Obj) : C n (W.alloc o) cs := k.below h ((Below.refl _ _).alloc (Nat.le_refl _) o)
theorem Kp.row (k : Kp C) (h : C n W cs) {b : Nat} (hb : b < n) (x : Array Value) : C n (W.setRow b x) cs := k.keep h fun q hq _ => setRow_other _ _ _ _ (by omega)
end

end Go.Proofs.YtchebhdndkaheaaGreatDoor

/- Expressions within statements: 'k = 1', and values that stand alone. -/
namespace Go.Proofs.YtchebhdndkaheaaGreatDoor
open Go.RowKit Go.Lib

theorem fm_k : fmT (colT ⟨#[107]⟩) = true := by rw [fm_colT, show nameB ⟨#[107]⟩ = true by decide, res_no (by decide)]; rfl
theorem w_k (d : Nat) (m : Int) (h : 1 ≤ m) : withinF (d + 1) (colT ⟨#[107]⟩) m = (true, m - 1) := within_leaf fm_k rfl h
end Go.Proofs.YtchebhdndkaheaaGreatDoor

/- The statement parser: an expression; WHERE; SELECT. -/
namespace Go.Proofs.YtchebhdndkaheaaGreatDoor
open Go.RowKit Go.Lib

section
variable {w W W' : World} {g : Nat} {A : Option Addr} {c : Nat} {l : List Tn} {at' at2 : Nat} {failed f2 : Bool} {t : Ex} {u : Value} {N b : Nat}
end

end Go.Proofs.YtchebhdndkaheaaGreatDoor

/- The statement parser: WHERE; SELECT. -/
namespace Go.Proofs.YtchebhdndkaheaaGreatDoor
open Go.RowKit Go.Lib

end Go.Proofs.YtchebhdndkaheaaGreatDoor

/- The statement parser: a value. -/
namespace Go.Proofs.YtchebhdndkaheaaGreatDoor
open Go.RowKit Go.Lib

end Go.Proofs.YtchebhdndkaheaaGreatDoor

/- The statement parser: INSERT: one value more. -/
namespace Go.Proofs.YtchebhdndkaheaaGreatDoor
open Go.RowKit Go.Lib

theorem own_ge {W : World} {b : Nat} {e : TypeId} {sz n : Nat} {v : Value} {xs : List Value} (h : W.ownsRow b e sz v n xs) : ∀ q, v.ownBlock = some q → b ≤ q := fun q hq => by
  rcases h.2 with ⟨rfl, _⟩ | ⟨r, cap, cur, rfl, hr, _⟩
  · cases hq
  · have : r = q := by simpa [Value.ownBlock] using hq
    omega
section
variable {w W W' : World} {g : Nat} {a : Addr} {c sb : Nat} {v v' : Value} {k k' : Nat} {rv rv' : List Vl} {at' at2 : Nat}
end
end Go.Proofs.YtchebhdndkaheaaGreatDoor

/- The statement parser: INSERT: its values; the statement. -/
namespace Go.Proofs.YtchebhdndkaheaaGreatDoor
open Go.RowKit Go.Lib

end Go.Proofs.YtchebhdndkaheaaGreatDoor

/- The statement parser: INSERT INTO t VALUES (1, 'a', NULL). -/
namespace Go.Proofs.YtchebhdndkaheaaGreatDoor
open Go.RowKit Go.Lib

end Go.Proofs.YtchebhdndkaheaaGreatDoor

/- Contracts of the library that this program comes to, laid at its own numbers by the kit's own programs (lay-shelf.mjs, lay-plain.mjs). -/
namespace Go.Proofs
open Go.Shelf
def Tryz.lays156_ren : Go.Shelf.Ren := ⟨fun | 156 => 107 | 165 => 139 | 166 => 140 | 169 => 141 | 240 => 161 | 241 => 162 | 276 => 183 | 277 => 184 | n => n, fun | 31 => 57 | 9 => 9 | 3 => 3 | 4 => 4 | 0 => 0 | 20 => 20 | 72 => 164 | 76 => 168 | 70 => 161 | 37 => 162 | 75 => 167 | 127 => 180 | 164 => 202 | 5 => 5 | 80 => 170 | n => n, fun | n => n⟩
theorem Tryz.lays156 : Go.Proofs.Lays.n156 Tryz.prog Tryz.lays156_ren := {
  mixed := by kernel_rfl
  f156 := Tryz.func107.trans (congrArg some (by kernel_rfl))
  f165 := Tryz.func139.trans (congrArg some (by kernel_rfl))
  f166 := Tryz.func140.trans (congrArg some (by kernel_rfl))
  f169 := Tryz.func141.trans (congrArg some (by kernel_rfl))
  f240 := Tryz.func161.trans (congrArg some (by kernel_rfl))
  f241 := Tryz.func162.trans (congrArg some (by kernel_rfl))
  f276 := Tryz.func183.trans (congrArg some (by kernel_rfl))
  f277 := Tryz.func184.trans (congrArg some (by kernel_rfl))
  t0 := Tryz.underlying0
  a0 := Tryz.isAgg0
  z0 := Tryz.sizeOf0
  v0 := Tryz.zeroValue0
  t3 := Tryz.underlying3
  a3 := Tryz.isAgg3
  z3 := Tryz.sizeOf3
  v3 := Tryz.zeroValue3
  t4 := Tryz.underlying4
  a4 := Tryz.isAgg4
  z4 := Tryz.sizeOf4
  v4 := Tryz.zeroValue4
  t9 := Tryz.underlying9
  a9 := Tryz.isAgg9
  z9 := Tryz.sizeOf9
  v9 := Tryz.zeroValue9
  t20 := Tryz.underlying20
  a20 := Tryz.isAgg20
  z20 := Tryz.sizeOf20
  v20 := Tryz.zeroValue20
  t31 := Tryz.underlying57
  a31 := Tryz.isAgg57
  z31 := Tryz.sizeOf57
  v31 := Tryz.zeroValue57
  t37 := Tryz.underlying162
  a37 := Tryz.isAgg162
  z37 := Tryz.sizeOf162
  v37 := Tryz.zeroValue162
  t70 := Tryz.underlying161
  a70 := Tryz.isAgg161
  z70 := Tryz.sizeOf161
  v70 := Tryz.zeroValue161
  t72 := Tryz.underlying164
  a72 := Tryz.isAgg164
  z72 := Tryz.sizeOf164
  v72 := Tryz.zeroValue164
  t75 := Tryz.underlying167
  a75 := Tryz.isAgg167
  z75 := Tryz.sizeOf167
  v75 := Tryz.zeroValue167
  t76 := Tryz.underlying168
  a76 := Tryz.isAgg168
  z76 := Tryz.sizeOf168
  v76 := Tryz.zeroValue168
  t127 := Tryz.underlying180
  a127 := Tryz.isAgg180
  z127 := Tryz.sizeOf180
  v127 := Tryz.zeroValue180
  t164 := Tryz.underlying202
  a164 := Tryz.isAgg202
  z164 := Tryz.sizeOf202
  v164 := Tryz.zeroValue202 }
theorem Tryz.Builder_Extra_156 : Builder.Extra Tryz.prog Tryz.lays156_ren := {
  sizeBuilder := by kernel_rfl
  liesBuilder := by kernel_rfl
  t5 := Tryz.underlying5
  a5 := Tryz.isAgg5
  z5 := Tryz.sizeOf5
  v5 := Tryz.zeroValue5
  infoByte := by kernel_rfl
  cellsByte := by kernel_rfl
  sizeByte := by kernel_rfl
  neB5 := by decide }
open Go.RowKit in
theorem Tryz.strings_Join (bk o c : Nat) (xs : List ByteArray) (sep : ByteArray) (w : World) (hcells : ∀ (j : Nat) x, xs[j]? = some x → w.cell? ⟨bk, o + j, none⟩ = some (.string x)) (hbk : bk < w.heap.size) (hN : xs.length ≤ 140737488355328) (hcap : xs.length ≤ c) (hlen : (Lib.join (xs.map (·.data.toList)) sep.data.toList).length ≤ 140737488355328) :
    Calls Tryz.prog 107 #[.slice (some ⟨bk, o, none⟩) xs.length c, .string sep] w fun e w' => e = .returned (.string ⟨(Lib.join (xs.map (·.data.toList)) sep.data.toList).toArray⟩) ∧ Below w.heap.size w w' := Any.strings_Join Tryz.lays156 Tryz.Builder_Extra_156 bk o c xs sep w hcells hbk hN hcap hlen

end Go.Proofs

/- The text of 'k = 1', and of a WHERE of it. -/
namespace Go.Proofs.YtchebhdndkaheaaGreatDoor
open Go.RowKit Go.Lib

set_option maxRecDepth 100000 in
set_option maxHeartbeats 4000000 in
theorem written_k (u : Value) (w : World) : Calls Tryz.prog 182 #[.agg #[.string ⟨#[99, 111, 108]⟩, .int .i64 0, .int .i64 0, .string ⟨#[]⟩, .string ⟨#[107]⟩, u]] w fun e w' => e = .returned (.string ⟨#[107]⟩) ∧ Below w.heap.size w w' := by
  go_enter Tryz.func182, Tryz.ntmps182
  go_wp2_with (fail)
  go_ret
  exact ⟨rfl, (Below.refl _ _).alloc (Nat.le_refl _) _⟩
end Go.Proofs.YtchebhdndkaheaaGreatDoor

/- SELECT * FROM t WHERE k = 1 may be. -/
namespace Go.Proofs.YtchebhdndkaheaaGreatDoor
open Go.RowKit Go.Lib

theorem nmB_t : nmB ⟨#[116]⟩ = true := by
  unfold nmB
  rw [res_no (by decide), show nameB ⟨#[116]⟩ = true by decide]
  rfl
end Go.Proofs.YtchebhdndkaheaaGreatDoor

/- Rows of values within a statement: may each be; their texts, listed. -/
namespace Go.Proofs.YtchebhdndkaheaaGreatDoor
open Go.RowKit Go.Lib

theorem infoStr1 : (Tryz.prog.info? 9).map (fun i => (i.zero, i.size, i.bytes)) = some (some (.string ⟨#[]⟩), 1, 16) := by kernel_rfl
theorem new_str {W : World} {t : TypeId} {s : ByteArray} : ∀ j u, ([.string s] : List Value)[j]? = some u → (W.alloc (.cells #[.string s] t)).cell? ((⟨W.heap.size, 0, none⟩ : Addr).add j) = some u := by
  intro j u h
  match j with
  | 0 => simp at h; subst h; simp [Addr.add, go_sem]
  | j + 1 => simp at h
theorem below_own {w W W' : World} {v : Value} (hb : Below w.heap.size w W) (hge : ∀ q, v.ownBlock = some q → w.heap.size ≤ q) (hg : W.grownBy W' v.ownBlock) : Below w.heap.size w W' :=
  ⟨hg.os.trans hb.os, hg.tape.trans hb.tape, hg.output.trans hb.output, Nat.le_trans hb.size hg.size, fun q hq => (hg.block q (by have := hb.size; omega) (fun e => by have := hge q e.symm; omega)).trans (hb.block q hq)⟩
end Go.Proofs.YtchebhdndkaheaaGreatDoor

/- INSERT INTO t VALUES (1, 'a', NULL) may be. -/
namespace Go.Proofs.YtchebhdndkaheaaGreatDoor
open Go.RowKit Go.Lib

end Go.Proofs.YtchebhdndkaheaaGreatDoor

/- The chapter's example of layer 6: the text of k < 5. -/
namespace Go.Proofs.YtchebhdndkaheaaGreatDoor
open Go.RowKit Go.Lib

theorem fm_5 : fmT (litT ⟨1, 5, ⟨#[]⟩⟩) = true := fm_litT _ (may_int 5)
theorem w_5 (d : Nat) (m : Int) (h : 1 ≤ m) : withinF (d + 1) (litT ⟨1, 5, ⟨#[]⟩⟩) m = (true, m - 1) := within_leaf fm_5 rfl h
def leT : Ex := twoT ⟨#[60]⟩ (colT ⟨#[107]⟩) (litT ⟨1, 5, ⟨#[]⟩⟩)
theorem may_le : mayT leT = true := by unfold mayT; rw [show withinF 12 leT 60 = (true, 60 - 1 - 1 - 1) from within_two (fm_twoT _ _ _ (by rw [toList_data]; decide)) (by omega) (w_k 10 (60 - 1) (by omega)) (w_5 10 (60 - 1 - 1) (by omega))]

set_option maxRecDepth 100000 in
set_option maxHeartbeats 4000000 in
theorem upper_lt (w : World) : Calls Tryz.prog 200 #[.string ⟨#[60]⟩] w fun e w' => e = .returned (.string ⟨#[60]⟩) ∧ Below w.heap.size w w' := by
  go_enter Tryz.func200, Tryz.ntmps200
  go_wp2_with (fail)
  go_loopw [3, 4, 5] (fun a b v wr => ∃ j : Nat, j ≤ 1 ∧ v = .int .i64 j ∧ a = .bool true ∧ b = .bool false ∧ w = wr) (fun _ _ v _ => 1 - (intOf v).toNat)
  case atStart => exact ⟨0, by omega, rfl, rfl, rfl, rfl⟩
  case round =>
    obtain ⟨j, hj, rfl, rfl, rfl, rfl⟩ := hrel
    rcases (show j = 0 ∨ j = 1 by omega) with rfl | rfl
    · clear hj
      go_wp2_with (fail)
      go_roundw
      case rel => exact ⟨1, by omega, rfl, rfl, rfl, by first | rfl | trivial⟩
      case measure => simp [intOf]
    · clear hj
      go_wp2_with (fail)
      go_ret
      exact ⟨rfl, Below.refl _ _⟩
set_option maxRecDepth 100000 in
set_option maxHeartbeats 4000000 in
theorem xsame_nole (u : Value) (w : World) : Calls Tryz.prog 37 #[.agg #[.string ⟨#[60]⟩, .int .i64 0, .int .i64 0, .string ⟨#[]⟩, .string ⟨#[]⟩, u], .agg #[.string ⟨#[]⟩, .int .i64 0, .int .i64 0, .string ⟨#[]⟩, .string ⟨#[]⟩, .slice none 0 0]] w fun e w' => e = .returned (.bool false) ∧ Below w.heap.size w w' := by
  go_enter Tryz.func37, Tryz.ntmps37
  go_wp2_with (fail)
  go_ret
  exact ⟨rfl, ((Below.refl _ _).alloc (Nat.le_refl _) _).alloc (by simp) _⟩
set_option maxRecDepth 100000 in
set_option maxHeartbeats 4000000 in
theorem none_le (u : Value) (w : World) : Calls Tryz.prog 138 #[.agg #[.string ⟨#[60]⟩, .int .i64 0, .int .i64 0, .string ⟨#[]⟩, .string ⟨#[]⟩, u]] w fun e w' => e = .returned (.bool false) ∧ Below w.heap.size w w' := by
  go_enter Tryz.func138, Tryz.ntmps138
  go_wp2_with (go_at_call 37; (with_reducible refine (xsame_nole u _).mono ?_); rintro e w1 ⟨rfl, hb1⟩; have HB1 := Lib.hid hb1; clear hb1)
  go_ret
  exact ⟨rfl, ((Below.refl _ _).alloc (Nat.le_refl _) _).trans (HB1.out.mono (by simp))⟩
theorem xmay_le (Q : Nat → Prop) (N : Nat) (u : Value) (w : World) (ht : Tr w Q N leT u) : Calls Tryz.prog 26 #[.agg #[.string ⟨#[60]⟩, .int .i64 0, .int .i64 0, .string ⟨#[]⟩, .string ⟨#[]⟩, u]] w fun e w' => e = .returned (.bool true) ∧ Below w.heap.size w w' := by
  have := emay_any Q N leT u w ht
  rw [may_le] at this
  exact this
set_option maxRecDepth 100000 in
set_option maxHeartbeats 4000000 in
theorem optional_le (Q : Nat → Prop) (N : Nat) (u : Value) (w : World) (ht : Tr w Q N leT u) : Calls Tryz.prog 123 #[.agg #[.string ⟨#[60]⟩, .int .i64 0, .int .i64 0, .string ⟨#[]⟩, .string ⟨#[]⟩, u]] w fun e w' => e = .returned (.bool true) ∧ Below w.heap.size w w' := by
  have HT := Lib.hid ht
  clear ht
  have HB0 : Hid (Below w.heap.size w (w.alloc (.cells #[.string ⟨#[60]⟩, .int .i64 0, .int .i64 0, .string ⟨#[]⟩, .string ⟨#[]⟩, u] 29))) := (Below.refl _ _).alloc (Nat.le_refl _) _
  go_enter Tryz.func123, Tryz.ntmps123
  go_wp2_with (first
    | (go_at_call 138; (with_reducible refine (none_le u _).mono ?_); rintro e w1 ⟨rfl, hb1⟩; have HB1 : Hid (Below w.heap.size w w1) := HB0.out.trans (hb1.mono (by simp)); have EK := hb1.block w.heap.size (by simp); rw [alloc_at rfl _] at EK; have k0 := Lib.cell_of_heap EK 0; have k1 := Lib.cell_of_heap EK 1; have k2 := Lib.cell_of_heap EK 2; have k3 := Lib.cell_of_heap EK 3; have k4 := Lib.cell_of_heap EK 4; have k5 := Lib.cell_of_heap EK 5; simp only [List.getElem?_toArray, List.getElem?_cons_zero, List.getElem?_cons_succ] at k0 k1 k2 k3 k4 k5; clear hb1 EK)
    | (go_at_call 26; (with_reducible refine (xmay_le Q N u w1 (HT.out.below HB1.out)).mono ?_); rintro e w2 ⟨rfl, hb2⟩; have HB2 : Hid (Below w.heap.size w w2) := HB1.out.trans (hb2.mono HB1.out.size); clear hb2))
  go_ret
  exact ⟨rfl, HB2.out⟩
set_option maxRecDepth 100000 in
set_option maxHeartbeats 4000000 in
theorem written_5 (u : Value) (w : World) (hl : LibE w) : Calls Tryz.prog 182 #[.agg #[.string ⟨#[108, 105, 116]⟩, .int .i64 1, .int .i64 5, .string ⟨#[]⟩, .string ⟨#[]⟩, u]] w fun e w' => e = .returned (.string ⟨#[53]⟩) ∧ Below w.heap.size w w' := by
  have HL := Lib.hid hl
  have HX : Hid (∀ W : World, LibE W → Calls Tryz.prog 103 #[.agg #[.int .i64 1, .int .i64 5, .string ⟨#[]⟩]] W fun e w' => e = .returned (.string ⟨#[53]⟩) ∧ Below W.heap.size W w') := Lib.hid fun W hW => by
    have := text_any 1 5 ⟨#[]⟩ W hW.libs (by unfold In64; omega)
    rw [show (⟨(txtO 1 5 ⟨#[]⟩).toArray⟩ : ByteArray) = ⟨#[53]⟩ by kernel_rfl] at this
    exact this
  clear hl
  go_enter Tryz.func182, Tryz.ntmps182
  go_wp2_with (go_at_call 103; (with_reducible refine (HX.out _ (HL.out.keep ((Below.refl w.heap.size w).alloc (Nat.le_refl _) _) (Nat.le_refl _))).mono ?_); rintro e w1 ⟨rfl, hb1⟩; have HB1 := Lib.hid hb1; clear hb1)
  go_ret
  exact ⟨rfl, ((Below.refl _ _).alloc (Nat.le_refl _) _).trans (HB1.out.mono (by simp))⟩
set_option maxRecDepth 100000 in
set_option maxHeartbeats 4000000 in
theorem written_le (Q : Nat → Prop) (N : Nat) (u : Value) (w : World) (ht : Tr w Q (N + 1) leT u) (hl : LibE w) : Calls Tryz.prog 182 #[.agg #[.string ⟨#[60]⟩, .int .i64 0, .int .i64 0, .string ⟨#[]⟩, .string ⟨#[]⟩, u]] w fun e w' => e = .returned (.string ⟨#[40, 107, 32, 60, 32, 53, 41]⟩) ∧ Below w.heap.size w w' := by
  obtain ⟨A, q, rfl, _⟩ := ht.form
  have hl2 : leT.l.length = 2 := rfl
  have hs : Sl w Q (N + 1) leT.l (.slice A leT.l.length q) := ht.2
  obtain ⟨a, u0, M0, rfl, _, x0, _⟩ := hs.at_ (j := 0) (by decide)
  obtain ⟨a', u1, M1, ea, _, x1, _⟩ := hs.at_ (j := 1) (by decide)
  injection ea with ea
  subst ea
  rw [hl2]
  have y0 : ExC w a (colT ⟨#[107]⟩) u0 := by rw [show a.add (0 * 6) = a by simp [Addr.add]] at x0; exact x0
  have y1 : ExC w ⟨a.block, a.off + 6, none⟩ (litT ⟨1, 5, ⟨#[]⟩⟩) u1 := by rw [show a.add (1 * 6) = ⟨a.block, a.off + 6, none⟩ from addE a 6 (by omega)] at x1; exact x1
  have HX := Lib.hid (And.intro y0 (And.intro y1 hl))
  have hal : a.block < w.heap.size := by have := x0.lt; rwa [add_block] at this
  clear ht hs hl2 x0 x1 y0 y1 hl
  go_enter Tryz.func182, Tryz.ntmps182
  go_upto_region 10 with (fail)
  refine detL_begin [.val (.pointer (some ⟨w.heap.size, 5, none⟩)), .val (.slice (some a) 2 q), .val (.pointer (some a)), .val (.agg #[.string ⟨#[99, 111, 108]⟩, .int .i64 0, .int .i64 0, .string ⟨#[]⟩, .string ⟨#[107]⟩, u0]), .val (.string ⟨#[107]⟩), .val (.string ⟨#[40, 107]⟩), .val (.string ⟨#[40, 107, 32]⟩), .val (.pointer (some ⟨w.heap.size, 0, none⟩)), .val (.string ⟨#[60]⟩), .val (.string ⟨#[60]⟩), .val (.string ⟨#[40, 107, 32, 60]⟩), .val (.string ⟨#[40, 107, 32, 60, 32]⟩), .val (.pointer (some ⟨w.heap.size, 5, none⟩)), .val (.slice (some a) 2 q), .val (.pointer (some ⟨a.block, a.off + 6, none⟩)), .val (.agg #[.string ⟨#[108, 105, 116]⟩, .int .i64 1, .int .i64 5, .string ⟨#[]⟩, .string ⟨#[]⟩, u1]), .val (.string ⟨#[53]⟩), .val (.string ⟨#[40, 107, 32, 60, 32, 53]⟩), .val (.string ⟨#[40, 107, 32, 60, 32, 53, 41]⟩), .val (.string ⟨#[40, 107, 32, 60, 32, 53, 41]⟩)] 20 (by kernel_rfl) ?_
  refine detL_val (by kernel_rfl) (yields_of rfl fun w1 hb1 => ?_) ?_
  · have hc1 := bcellD hb1
    clear hb1
    go_simp
    exact Det1_same
  simp only [Act.put, List.setIfInBounds_toArray, List.set_cons_zero, List.set_cons_succ]
  refine detL_val (by kernel_rfl) (yields_of rfl fun w1 hb1 => ?_) ?_
  · have hc1 := bcellD hb1
    clear hb1
    go_simp
    exact Det1_same
  simp only [Act.put, List.setIfInBounds_toArray, List.set_cons_zero, List.set_cons_succ]
  refine detL_val (by kernel_rfl) (yields_of rfl fun w1 hb1 => ?_) ?_
  · have hc1 := bcellD hb1
    clear hb1
    go_simp
    exact Det1_same
  simp only [Act.put, List.setIfInBounds_toArray, List.set_cons_zero, List.set_cons_succ]
  refine detL_val (by kernel_rfl) (yields_of rfl fun w1 hb1 => ?_) ?_
  · have hc1 := bcellD hb1
    have z := HX.out.1; have m0 := z.c0; have m1 := z.c1; have m2 := z.c2; have m3 := z.c3; have m4 := z.c4; have m5 := z.c5; clear z; have x := HX.out.1.keep (W' := w1) (by exact (hb1.block _ (by show a.block < (w.heap.push _).size; simp; omega)).trans (Below.heap_alloc _ _ _ hal)); have k0 := x.c0; have k1 := x.c1; have k2 := x.c2; have k3 := x.c3; have k4 := x.c4; have k5 := x.c5; clear x; simp only [colT, Ex.l, Ex.op, Ex.x, Ex.s] at k0 k1 k2 k3 k4 k5 m0 m1 m2 m3 m4 m5
    clear hb1
    go_simp
    exact Det1_same
  simp only [Act.put, List.setIfInBounds_toArray, List.set_cons_zero, List.set_cons_succ]
  refine detL_val (by kernel_rfl) (yields_of rfl fun w1 hb1 => ?_) ?_
  · have hc1 := bcellD hb1
    clear hb1
    go_simp
    exact Det1_enter (written_k u0 _)
  simp only [Act.put, List.setIfInBounds_toArray, List.set_cons_zero, List.set_cons_succ]
  refine detL_val (by kernel_rfl) (yields_of rfl fun w1 hb1 => ?_) ?_
  · have hc1 := bcellD hb1
    clear hb1
    go_simp
    exact Det1_same
  simp only [Act.put, List.setIfInBounds_toArray, List.set_cons_zero, List.set_cons_succ]
  refine detL_val (by kernel_rfl) (yields_of rfl fun w1 hb1 => ?_) ?_
  · have hc1 := bcellD hb1
    clear hb1
    go_simp
    exact Det1_same
  simp only [Act.put, List.setIfInBounds_toArray, List.set_cons_zero, List.set_cons_succ]
  refine detL_val (by kernel_rfl) (yields_of rfl fun w1 hb1 => ?_) ?_
  · have hc1 := bcellD hb1
    clear hb1
    go_simp
    exact Det1_same
  simp only [Act.put, List.setIfInBounds_toArray, List.set_cons_zero, List.set_cons_succ]
  refine detL_val (by kernel_rfl) (yields_of rfl fun w1 hb1 => ?_) ?_
  · have hc1 := bcellD hb1
    clear hb1
    go_simp
    exact Det1_same
  simp only [Act.put, List.setIfInBounds_toArray, List.set_cons_zero, List.set_cons_succ]
  refine detL_val (by kernel_rfl) (yields_of rfl fun w1 hb1 => ?_) ?_
  · have hc1 := bcellD hb1
    clear hb1
    go_simp
    exact Det1_enter (upper_lt _)
  simp only [Act.put, List.setIfInBounds_toArray, List.set_cons_zero, List.set_cons_succ]
  refine detL_val (by kernel_rfl) (yields_of rfl fun w1 hb1 => ?_) ?_
  · have hc1 := bcellD hb1
    clear hb1
    go_simp
    exact Det1_same
  simp only [Act.put, List.setIfInBounds_toArray, List.set_cons_zero, List.set_cons_succ]
  refine detL_val (by kernel_rfl) (yields_of rfl fun w1 hb1 => ?_) ?_
  · have hc1 := bcellD hb1
    clear hb1
    go_simp
    exact Det1_same
  simp only [Act.put, List.setIfInBounds_toArray, List.set_cons_zero, List.set_cons_succ]
  refine detL_val (by kernel_rfl) (yields_of rfl fun w1 hb1 => ?_) ?_
  · have hc1 := bcellD hb1
    clear hb1
    go_simp
    exact Det1_same
  simp only [Act.put, List.setIfInBounds_toArray, List.set_cons_zero, List.set_cons_succ]
  refine detL_val (by kernel_rfl) (yields_of rfl fun w1 hb1 => ?_) ?_
  · have hc1 := bcellD hb1
    clear hb1
    go_simp
    exact Det1_same
  simp only [Act.put, List.setIfInBounds_toArray, List.set_cons_zero, List.set_cons_succ]
  refine detL_val (by kernel_rfl) (yields_of rfl fun w1 hb1 => ?_) ?_
  · have hc1 := bcellD hb1
    clear hb1
    go_simp
    exact Det1_same
  simp only [Act.put, List.setIfInBounds_toArray, List.set_cons_zero, List.set_cons_succ]
  refine detL_val (by kernel_rfl) (yields_of rfl fun w1 hb1 => ?_) ?_
  · have hc1 := bcellD hb1
    have z := HX.out.2.1; have m0 := z.c0; have m1 := z.c1; have m2 := z.c2; have m3 := z.c3; have m4 := z.c4; have m5 := z.c5; clear z; have x := HX.out.2.1.keep (W' := w1) (by exact (hb1.block _ (by show a.block < (w.heap.push _).size; simp; omega)).trans (Below.heap_alloc _ _ _ hal)); have k0 := x.c0; have k1 := x.c1; have k2 := x.c2; have k3 := x.c3; have k4 := x.c4; have k5 := x.c5; clear x; simp only [litT, Ex.l, Ex.op, Ex.x, Ex.s] at k0 k1 k2 k3 k4 k5 m0 m1 m2 m3 m4 m5
    clear hb1
    go_simp
    exact Det1_same
  simp only [Act.put, List.setIfInBounds_toArray, List.set_cons_zero, List.set_cons_succ]
  refine detL_val (by kernel_rfl) (yields_of rfl fun w1 hb1 => ?_) ?_
  · have hc1 := bcellD hb1
    have HL1 := Lib.hid ((HX.out.2.2.keep ((Below.refl w.heap.size w).alloc (Nat.le_refl _) _) (Nat.le_refl _)).drew.keep hb1 (Nat.le_refl _))
    clear hb1
    go_simp
    exact Det1_enter (written_5 u1 _ HL1.out)
  simp only [Act.put, List.setIfInBounds_toArray, List.set_cons_zero, List.set_cons_succ]
  refine detL_val (by kernel_rfl) (yields_of rfl fun w1 hb1 => ?_) ?_
  · have hc1 := bcellD hb1
    clear hb1
    go_simp
    exact Det1_same
  simp only [Act.put, List.setIfInBounds_toArray, List.set_cons_zero, List.set_cons_succ]
  refine detL_val (by kernel_rfl) (yields_of rfl fun w1 hb1 => ?_) ?_
  · have hc1 := bcellD hb1
    clear hb1
    go_simp
    exact Det1_same
  simp only [Act.put, List.setIfInBounds_toArray, List.set_cons_zero, List.set_cons_succ]
  refine detL_val (by kernel_rfl) (yields_of rfl fun w1 hb1 => ?_) ?_
  · have hc1 := bcellD hb1
    clear hb1
    go_simp
    exact Det1_same
  simp only [Act.put, List.setIfInBounds_toArray, List.set_cons_zero, List.set_cons_succ]
  refine detL_done (by kernel_rfl) fun w1 hw1 => ?_
  have HB1 : Hid (Below w.heap.size w w1) := ((Below.refl _ _).alloc (Nat.le_refl _) _).drew.trans (hw1.below.mono (by simp))
  clear hw1
  go_wp2
  go_ret
  exact ⟨rfl, HB1.out⟩


set_option maxRecDepth 100000 in
set_option maxHeartbeats 4000000 in
theorem xtext_le (Q : Nat → Prop) (u : Value) (w : World) (ht : Tr w Q 1 leT u) (hl : LibE w) : Calls Tryz.prog 160 #[.agg #[.string ⟨#[60]⟩, .int .i64 0, .int .i64 0, .string ⟨#[]⟩, .string ⟨#[]⟩, u]] w fun e w' => e = .returned (.tuple #[.string ⟨#[40, 107, 32, 60, 32, 53, 41]⟩, .int .i64 0]) ∧ Below w.heap.size w w' := by
  have HT := Lib.hid (And.intro ht hl)
  clear ht hl
  have HB0 : Hid (Below w.heap.size w (w.alloc (.cells #[.string ⟨#[60]⟩, .int .i64 0, .int .i64 0, .string ⟨#[]⟩, .string ⟨#[]⟩, u] 29))) := (Below.refl _ _).alloc (Nat.le_refl _) _
  go_enter Tryz.func160, Tryz.ntmps160
  go_wp2_with (first
    | (go_at_call 26; (with_reducible refine (xmay_le Q 1 u _ (HT.out.1.below HB0.out)).mono ?_); rintro e w1 ⟨rfl, hb1⟩; have HB1 : Hid (Below w.heap.size w w1) := HB0.out.trans (hb1.mono (by simp)); have EK := hb1.block w.heap.size (by simp); rw [alloc_at rfl _] at EK; have k0 := Lib.cell_of_heap EK 0; have k1 := Lib.cell_of_heap EK 1; have k2 := Lib.cell_of_heap EK 2; have k3 := Lib.cell_of_heap EK 3; have k4 := Lib.cell_of_heap EK 4; have k5 := Lib.cell_of_heap EK 5; simp only [List.getElem?_toArray, List.getElem?_cons_zero, List.getElem?_cons_succ] at k0 k1 k2 k3 k4 k5; clear hb1 EK)
    | (go_at_call 182; (with_reducible refine (written_le Q 0 u w1 (HT.out.1.below HB1.out) (HT.out.2.keep HB1.out (Nat.le_refl _))).mono ?_); rintro e w2 ⟨rfl, hb2⟩; have HB2 : Hid (Below w.heap.size w w2) := HB1.out.trans (hb2.mono HB1.out.size); clear hb2))
  go_ret2
  exact ⟨rfl, HB2.out⟩
set_option maxRecDepth 100000 in
set_option maxHeartbeats 4000000 in
theorem exprText_le (Q : Nat → Prop) (u : Value) (w : World) (ht : Tr w Q 1 leT u) (hl : LibE w) : Calls Tryz.prog 137 #[.agg #[.string ⟨#[60]⟩, .int .i64 0, .int .i64 0, .string ⟨#[]⟩, .string ⟨#[]⟩, u]] w fun e w' => e = .returned (.string ⟨#[40, 107, 32, 60, 32, 53, 41]⟩) ∧ Below w.heap.size w w' := by
  have HT := Lib.hid (And.intro ht hl)
  clear ht hl
  have HB0 : Hid (Below w.heap.size w (w.alloc (.cells #[.string ⟨#[60]⟩, .int .i64 0, .int .i64 0, .string ⟨#[]⟩, .string ⟨#[]⟩, u] 29))) := (Below.refl _ _).alloc (Nat.le_refl _) _
  go_enter Tryz.func137, Tryz.ntmps137
  go_wp2_with (go_at_call 160; (with_reducible refine (xtext_le Q u _ (HT.out.1.below HB0.out) (HT.out.2.keep HB0.out (Nat.le_refl _))).mono ?_); rintro e w1 ⟨rfl, hb1⟩; have HB1 : Hid (Below w.heap.size w w1) := HB0.out.trans (hb1.mono (by simp)); clear hb1)
  go_ret
  exact ⟨rfl, HB1.out⟩
end Go.Proofs.YtchebhdndkaheaaGreatDoor

/- The chapter's example of layer 6: the text of its column. -/
namespace Go.Proofs.YtchebhdndkaheaaGreatDoor
open Go.RowKit Go.Lib

/-- The words of columns' types: the word of a number's. -/
def TyE (w : World) : Prop := w.cell? ⟨1, 1, none⟩ = some (.string ⟨#[73, 78, 84]⟩)
theorem TyE.lt {w : World} (h : TyE w) : 1 < w.heap.size := World.block_lt_of_cell? w _ h
theorem TyE.keep {w w' : World} {B : Nat} (h : TyE w) (hb : Below B w w') (hB : w.heap.size ≤ B) : TyE w' := (hb.cell (p := ⟨1, 1, none⟩) (Nat.lt_of_lt_of_le h.lt hB)).trans h
set_option maxRecDepth 100000 in
set_option maxHeartbeats 4000000 in
theorem define_ok (w : World) (ht : TyE w) : Calls Tryz.prog 134 #[.agg #[.string ⟨#[107]⟩, .int .i64 1, .bool false]] w fun e w' => e = .returned (.string ⟨#[107, 32, 73, 78, 84]⟩) ∧ Below w.heap.size w w' := by
  have HG : Hid (w.cell? ⟨1, 1, none⟩ = some (.string ⟨#[73, 78, 84]⟩)) := Lib.hid ht
  have hgl := ht.lt
  clear ht
  have HB0 : Hid (Below w.heap.size w (w.alloc (.cells #[.string ⟨#[107]⟩, .int .i64 1, .bool false] 43))) := (Below.refl _ _).alloc (Nat.le_refl _) _
  go_enter Tryz.func134, Tryz.ntmps134
  go_upto_region 1 with (fail)
  refine detL_begin [.val (.pointer (some ⟨w.heap.size, 0, none⟩)), .val (.string ⟨#[107]⟩), .val (.string ⟨#[107, 32]⟩), .val (.pointer (some ⟨w.heap.size, 1, none⟩)), .val (.int .i64 1), .val (.pointer (some ⟨1, 1, none⟩)), .val (.string ⟨#[73, 78, 84]⟩), .val (.string ⟨#[107, 32, 73, 78, 84]⟩), .val (.string ⟨#[107, 32, 73, 78, 84]⟩)] 9 (by kernel_rfl) ?_
  refine detL_val (by kernel_rfl) (yields_of rfl fun w1 hb1 => ?_) ?_
  · have hc1 := bcellD hb1
    clear hb1
    go_simp
    exact Det1_same
  simp only [Act.put, List.setIfInBounds_toArray, List.set_cons_zero, List.set_cons_succ]
  refine detL_val (by kernel_rfl) (yields_of rfl fun w1 hb1 => ?_) ?_
  · have hc1 := bcellD hb1
    clear hb1
    go_simp
    exact Det1_same
  simp only [Act.put, List.setIfInBounds_toArray, List.set_cons_zero, List.set_cons_succ]
  refine detL_val (by kernel_rfl) (yields_of rfl fun w1 hb1 => ?_) ?_
  · have hc1 := bcellD hb1
    clear hb1
    go_simp
    exact Det1_same
  simp only [Act.put, List.setIfInBounds_toArray, List.set_cons_zero, List.set_cons_succ]
  refine detL_val (by kernel_rfl) (yields_of rfl fun w1 hb1 => ?_) ?_
  · have hc1 := bcellD hb1
    clear hb1
    go_simp
    exact Det1_same
  simp only [Act.put, List.setIfInBounds_toArray, List.set_cons_zero, List.set_cons_succ]
  refine detL_val (by kernel_rfl) (yields_of rfl fun w1 hb1 => ?_) ?_
  · have hc1 := bcellD hb1
    clear hb1
    go_simp
    exact Det1_same
  simp only [Act.put, List.setIfInBounds_toArray, List.set_cons_zero, List.set_cons_succ]
  refine detL_val (by kernel_rfl) (yields_of rfl fun w1 hb1 => ?_) ?_
  · have hc1 := bcellD hb1
    clear hb1
    go_simp
    exact Det1_same
  simp only [Act.put, List.setIfInBounds_toArray, List.set_cons_zero, List.set_cons_succ]
  refine detL_val (by kernel_rfl) (yields_of rfl fun w1 hb1 => ?_) ?_
  · have hc1 := bcellD hb1
    have HB1 : Hid (Below w.heap.size w w1) := HB0.out.drew.trans (hb1.mono (by simp)); have m0 := (HB1.out.cell (p := ⟨1, 1, none⟩) hgl).trans HG.out; have m1 := HG.out
    clear hb1
    go_simp
    exact Det1_same
  simp only [Act.put, List.setIfInBounds_toArray, List.set_cons_zero, List.set_cons_succ]
  refine detL_val (by kernel_rfl) (yields_of rfl fun w1 hb1 => ?_) ?_
  · have hc1 := bcellD hb1
    clear hb1
    go_simp
    exact Det1_same
  simp only [Act.put, List.setIfInBounds_toArray, List.set_cons_zero, List.set_cons_succ]
  refine detL_val (by kernel_rfl) (yields_of rfl fun w1 hb1 => ?_) ?_
  · have hc1 := bcellD hb1
    clear hb1
    go_simp
    exact Det1_same
  simp only [Act.put, List.setIfInBounds_toArray, List.set_cons_zero, List.set_cons_succ]
  refine detL_done (by kernel_rfl) fun w1 hw1 => ?_
  have HB1 : Hid (Below w.heap.size w w1) := HB0.out.drew.trans (hw1.below.mono (by simp))
  have EK : w1.heap[w.heap.size]? = some (.cells #[.string ⟨#[107]⟩, .int .i64 1, .bool false] 43 (0, 0)) := (hw1.below.block w.heap.size (by simp)).trans (alloc_at rfl _)
  have k2 := Lib.cell_of_heap EK 2
  simp only [List.getElem?_toArray, List.getElem?_cons_zero, List.getElem?_cons_succ] at k2
  clear hw1
  go_wp2_with (fail)
  go_ret
  exact ⟨rfl, HB1.out⟩
end Go.Proofs.YtchebhdndkaheaaGreatDoor

/- What a row's condition on the listed variables says of them. -/
namespace Go.Proofs.YtchebhdndkaheaaGreatDoor
open Go.RowKit Go.Lib

theorem pow10_data : (Rows.laid_internal_strconv_uint64pow10 : DataW Unit) = tabData .u64 pow10Tab := by kernel_rfl
theorem tab_of_row {laid : List (String × DataW Unit)} {W : World} (h : laidMetH Tryz.prog laid W) (hp : (laid.all fun x => x.2.handleName?.isNone) = true) {x y : String × DataW Unit} {r : List (String × DataW Unit)}
    (hl : laid = x :: y :: ("internal/strconv.uint64pow10", Rows.laid_internal_strconv_uint64pow10) :: r) : Lib.TabIs Tryz.prog W "internal/strconv.uint64pow10" .u64 Lib.pow10Tab := by
  rw [MakeChecks.laidMetH_plain _ _ _ hp, hl, pow10_data] at h
  exact tabIs_of_head (g := 2) (by kernel_rfl) (by kernel_rfl) Tryz.underlying209 Tryz.underlying195 (by kernel_rfl) (by kernel_rfl) h.tail.tail
theorem libs_of {laid : List (String × DataW Unit)} {W : World} {m : Int} (h : laidMetH Tryz.prog laid W) (hm : W.cell? ⟨0, 0, none⟩ = some (.int .i64 m)) (hp : (laid.all fun x => x.2.handleName?.isNone) = true) {x y : String × DataW Unit} {r : List (String × DataW Unit)}
    (hl : laid = x :: y :: ("internal/strconv.uint64pow10", Rows.laid_internal_strconv_uint64pow10) :: r) : Libs W := ⟨tab_of_row h hp hl, m, hm⟩
end Go.Proofs.YtchebhdndkaheaaGreatDoor

/- What a row's condition on the listed variables says of the words of columns' types. -/
namespace Go.Proofs.YtchebhdndkaheaaGreatDoor
open Go.RowKit Go.Lib

theorem tyE_of_head {W : World} {rest : List (String × DataW Unit)} (h : laidMet Tryz.prog (("caddis/stmt.types", Rows.laid_caddis_stmt_types) :: rest) W) : TyE W := by
  obtain ⟨ps, ⟨g', t', cs, fuel, p, q, hg', ht', hvar, hd, _, _⟩, _⟩ := h
  have hg : Tryz.prog.globalNamed "caddis/stmt.types" = some 1 := by kernel_rfl
  have hty : (Tryz.prog.globals[1]?).map (·.type) = some 177 := by kernel_rfl
  obtain rfl := Option.some.inj (hg.symm.trans hg')
  obtain rfl := Option.some.inj (hty.symm.trans ht')
  have hct : Tryz.prog.cellsOf 177 = 4 := by kernel_rfl
  have hce : Tryz.prog.cellsOf 9 = 1 := by kernel_rfl
  cases fuel with
  | zero => simp [DataW.trod] at hd
  | succ fuel =>
    simp only [DataW.trod, Tryz.underlying177, hce, hct, Nat.mul_one] at hd
    split at hd
    · rename_i hl
      obtain ⟨xs, hm, hx⟩ := Option.map_eq_some_iff.1 hd
      obtain ⟨b, hb, hf⟩ := mapM_at hm 1 1 (by simp)
      have hv1 : (xs.map (·.1))[1]? = some (.lit (.string [73, 78, 84])) := by
        rw [congrArg Prod.fst hx |> (fun h => (DataW.agg.inj h))]
        rfl
      rw [List.getElem?_map, hb] at hv1
      have hb1 : b.1 = .lit (.string [73, 78, 84]) := by simpa using hv1
      obtain ⟨a1, ha1⟩ : ∃ a1, cs.toList[1]? = some a1 := ⟨_, List.getElem?_eq_getElem (by omega)⟩
      have htk : List.take 1 (List.drop 1 cs.toList) = [a1] := by
        match hcs : cs.toList, hl, ha1 with
        | [x0, x1, x2, x3], _, h => simp at h; simp [h]
      rw [htk] at hf
      have hs : a1 = .string ⟨#[73, 78, 84]⟩ := by
        cases fuel with
        | zero => simp [DataW.trod] at hf
        | succ fuel =>
          cases a1 with
          | string t =>
            have e : b.1 = .lit (.string t.data.toList) := by
              have hsz : Tryz.prog.cellsOf 9 = 1 := hce
              simp [DataW.trod, Tryz.underlying9, hsz] at hf
              rw [← hf.2]
            rw [hb1] at e
            have e : ([73, 78, 84] : List UInt8) = t.data.toList := Lit.string.inj (DataW.lit.inj e)
            rw [show t = ⟨#[73, 78, 84]⟩ from bytes_of (by rw [toList_data]; exact e.symm)]
          | _ => simp [DataW.trod, Tryz.underlying9, hce] at hf
      have := World.var?_cell hg hvar 1
      unfold TyE
      rw [this, ← hs]
      simpa using ha1
    · cases hd
end Go.Proofs.YtchebhdndkaheaaGreatDoor

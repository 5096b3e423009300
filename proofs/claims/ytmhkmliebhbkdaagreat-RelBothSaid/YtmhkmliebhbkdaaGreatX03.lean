import Derived.Shelf.Small.Strs
import Derived.Shelf.Small.Wraps
import Derived.Ground.GgwProg
import Derived.Shelf.GgClosure.StringsIndexFuncTop
import Derived.Test.YtmhkmliebhbkdaaGreatProg
import Derived.Shelf.GgClosureLib.Lays
import Derived.Shelf.Lays
import Derived.Deep.RegionHeld3
import Derived.Test.YtmhkmliebhbkdaaGreatX01
import Derived.Deep.Cut
import Derived.Lib.Bytealg
import Derived.Test.YtmhkmliebhbkdaaGreatX02
import Derived.IntWalk

/- Contracts of the library that this program comes to, laid at its own numbers by the kit's own programs (lay-shelf.mjs, lay-plain.mjs). -/
namespace Go.Proofs
open Go.Shelf
def Tryz.lays106_ren : Go.Shelf.Ren := ⟨fun | 106 => 102 | 213 => 138 | 265 => 157 | n => n, fun | 9 => 9 | 3 => 3 | n => n, fun | n => n⟩
theorem Tryz.lays106 : Go.Proofs.Lays.n106 Tryz.prog Tryz.lays106_ren := {
  mixed := by kernel_rfl
  f106 := Tryz.func102.trans (congrArg some (by kernel_rfl))
  f213 := Tryz.func138.trans (congrArg some (by kernel_rfl))
  f265 := Tryz.func157.trans (congrArg some (by kernel_rfl))
  t3 := Tryz.underlying3
  a3 := Tryz.isAgg3
  z3 := Tryz.sizeOf3
  v3 := Tryz.zeroValue3
  t9 := Tryz.underlying9
  a9 := Tryz.isAgg9
  z9 := Tryz.sizeOf9
  v9 := Tryz.zeroValue9 }
open Go.RowKit in
theorem Tryz.strings_Compare (a b : ByteArray) (w : World) :
    Calls Tryz.prog 102 #[.string a, .string b] w fun e w' => e = .returned (.int .i64 (Lib.compareBytes a.data.toList b.data.toList)) ∧ w' = w := Any.strings_Compare Tryz.lays106 a b w
def Tryz.lays122_ren : Go.Shelf.Ren := ⟨fun | 122 => 100 | 215 => 136 | n => n, fun | 3 => 3 | 4 => 4 | n => n, fun | n => n⟩
theorem Tryz.lays122 : Go.Proofs.Lays.n122 Tryz.prog Tryz.lays122_ren := {
  mixed := by kernel_rfl
  f122 := Tryz.func100.trans (congrArg some (by kernel_rfl))
  f215 := Tryz.func136.trans (congrArg some (by kernel_rfl))
  t3 := Tryz.underlying3
  a3 := Tryz.isAgg3
  z3 := Tryz.sizeOf3
  v3 := Tryz.zeroValue3
  t4 := Tryz.underlying4
  a4 := Tryz.isAgg4
  z4 := Tryz.sizeOf4
  v4 := Tryz.zeroValue4 }
open Go.RowKit in
theorem Tryz.cmp_Compare_int (x y : Int) (w : World) :
    Calls Tryz.prog 100 #[.int .i64 x, .int .i64 y] w fun e w' => e = .returned (.int .i64 (Lib.compareInt x y)) ∧ w' = w := Any.cmp_Compare_int Tryz.lays122 x y w
def Tryz.laysGw17_ren : Go.Shelf.Ren := ⟨fun | 17 => 152 | 15 => 161 | 20 => 165 | n => n, fun | 9 => 9 | 23 => 151 | 4 => 4 | 3 => 3 | 0 => 0 | 21 => 21 | n => n, fun | n => n⟩
theorem Tryz.laysGw17 : Go.Proofs.LaysGw.n17 Tryz.prog Tryz.laysGw17_ren := {
  mixed := by kernel_rfl
  f15 := Tryz.func161.trans (congrArg some (by kernel_rfl))
  f17 := Tryz.func152.trans (congrArg some (by kernel_rfl))
  f20 := Tryz.func165.trans (congrArg some (by kernel_rfl))
  t0 := Tryz.underlying0
  a0 := Tryz.isAgg0
  z0 := Tryz.sizeOf0
  v0 := Tryz.zeroValue0
  i0 := by kernel_rfl
  t3 := Tryz.underlying3
  a3 := Tryz.isAgg3
  z3 := Tryz.sizeOf3
  v3 := Tryz.zeroValue3
  i3 := by kernel_rfl
  t4 := Tryz.underlying4
  a4 := Tryz.isAgg4
  z4 := Tryz.sizeOf4
  v4 := Tryz.zeroValue4
  i4 := by kernel_rfl
  t9 := Tryz.underlying9
  a9 := Tryz.isAgg9
  z9 := Tryz.sizeOf9
  v9 := Tryz.zeroValue9
  i9 := by kernel_rfl
  t21 := Tryz.underlying21
  a21 := Tryz.isAgg21
  z21 := Tryz.sizeOf21
  v21 := Tryz.zeroValue21
  i21 := by kernel_rfl
  t23 := Tryz.underlying151
  a23 := Tryz.isAgg151
  z23 := Tryz.sizeOf151
  v23 := Tryz.zeroValue151
  i23 := by kernel_rfl }
open Go.RowKit Go.Lib in
theorem Tryz.strings_ContainsFunc (g : Nat) (lb : Array Value) (eg : ∀ args w, (callFunc g args).run Tryz.prog w = .ok (.enter g args) w) (p : Nat → Bool) (s : ByteArray) (w : World) (hp : PredAt Tryz.prog g lb encR p w) :
    Calls Tryz.prog 152 #[.string s, .func (.func g) #[] lb] w fun e w' => e = .returned (.bool (decide (0 ≤ Lib.idxFunc p true s))) ∧ Below w.heap.size w w' := Any.strings_ContainsFunc Tryz.laysGw17 g lb eg p s w hp

end Go.Proofs

/- May a value be; what it counts as. -/
namespace Go.Proofs.YtmhkmliebhbkdaaGreat
open Go.RowKit Go.Lib

def outP (r : Nat) : Bool := decide ((r : Int) < 32) || decide ((126 : Int) < (r : Int))

theorem out_pred (w : World) (B : Nat) (hB : B + 1 < w.heap.size) (hc0 : w.cell? ⟨B, 0, none⟩ = some (.int .i32 32)) (hc1 : w.cell? ⟨B + 1, 0, none⟩ = some (.int .i32 126)) :
    PredAt Tryz.prog 162 #[.pointer (some ⟨B, 0, none⟩), .pointer (some ⟨B + 1, 0, none⟩)] encR outP w := fun W r hb => by
  have hd0 : W.cell? ⟨B, 0, none⟩ = some (.int .i32 32) := (hb.cell (p := ⟨B, 0, none⟩) (by show B < _; omega)).trans hc0
  have hd1 : W.cell? ⟨B + 1, 0, none⟩ = some (.int .i32 126) := (hb.cell (p := ⟨B + 1, 0, none⟩) (by show B + 1 < _; omega)).trans hc1
  clear hc0 hc1 hb
  unfold FnGives
  by_cases h1 : (r : Int) < 32 <;> by_cases h2 : (126 : Int) < (r : Int)
  all_goals
    go_enter Tryz.func162, Tryz.ntmps162
    go_wp2
    all_goals first | (exfalso; omega) | (go_ret; exact ⟨by simp [outP, h1, h2], 0, rfl⟩)

/-- A text that may be: 40 octets at most, each 32 to 126. -/
def txtB (s : ByteArray) : Bool := !decide (0 ≤ Lib.idxFunc outP true s)

theorem contains_any (s : ByteArray) (w : World) (B : Nat) (hB : B + 1 < w.heap.size) (hc0 : w.cell? ⟨B, 0, none⟩ = some (.int .i32 32)) (hc1 : w.cell? ⟨B + 1, 0, none⟩ = some (.int .i32 126)) :
    Calls Tryz.prog 152 #[.string s, .func (.func 162) #[] #[.pointer (some ⟨B, 0, none⟩), .pointer (some ⟨B + 1, 0, none⟩)]] w fun e w' => e = .returned (.bool (!txtB s)) ∧ Below w.heap.size w w' :=
  (Tryz.strings_ContainsFunc _ _ (enters_of Tryz.func162 (by kernel_rfl) rfl) _ s w (out_pred w B hB hc0 hc1)).mono fun e w' h => ⟨by rw [h.1, txtB, Bool.not_not], h.2⟩

/-- May it be? -/
def mayB (k i : Int) (s : ByteArray) : Bool :=
  if k = 0 then decide (i = 0) && s.toList.isEmpty else if k = 1 then s.toList.isEmpty else if k = 2 then decide (i = 0) && decide (s.size ≤ 40) && txtB s else if k = 3 then s.toList.isEmpty && (decide (i = 0) || decide (i = 1)) else false

theorem ret_bool {a b : Bool} (h : a = b) : Ending.returned (.bool a) = .returned (.bool b) := by rw [h]

set_option maxHeartbeats 800000 in
theorem may_not2 (k i : Int) (s : ByteArray) (w : World) (hk : ¬ k = 2) :
    Calls Tryz.prog 124 #[.agg #[.int .i64 k, .int .i64 i, .string s]] w fun e w' => e = .returned (.bool (mayB k i s)) ∧ Below w.heap.size w w' := by
  go_enter Tryz.func124, Tryz.ntmps124
  go_wp2
  all_goals
    go_ret
    refine ⟨ret_bool (by simp_all [mayB] <;> (try (rw [Bool.eq_iff_iff]; simp; omega))), ?_⟩
    repeat (first | exact Below.refl _ _ | (refine bSet3 ?_ (by (try simp) <;> omega) _ _ _) | (refine bOn' (by assumption) (by (try simp) <;> omega) ?_) | (refine Below.drew ?_) | (refine Below.alloc ?_ (by (try simp) <;> omega) _))

theorem outside_any (w : World) :
    Calls Tryz.prog 153 #[.int .i32 32, .int .i32 126] w fun e w' => e = .returned (.func (.func 162) #[] #[.pointer (some ⟨w.heap.size, 0, none⟩), .pointer (some ⟨w.heap.size + 1, 0, none⟩)]) ∧ w' = (w.alloc (.cells #[.int .i32 32] 21)).alloc (.cells #[.int .i32 126] 21) := by
  go_enter Tryz.func153, Tryz.ntmps153
  go_wp2
  go_ret
  exact ⟨rfl, rfl⟩

def outR : Value → List Nat → World → Prop := fun u F w' => ∃ b, F = [b, b + 1] ∧ u = .func (.func 162) #[] #[.pointer (some ⟨b, 0, none⟩), .pointer (some ⟨b + 1, 0, none⟩)] ∧ w'.cell? ⟨b, 0, none⟩ = some (.int .i32 32) ∧ w'.cell? ⟨b + 1, 0, none⟩ = some (.int .i32 126) ∧ b + 1 < w'.heap.size
theorem outR_lasting : ∀ u F, Lasting (outR u F) := by
  rintro u F w w' hb ⟨b, h1, h2, h3, h4, h5⟩
  exact ⟨b, h1, h2, (hb.cell (p := ⟨b, 0, none⟩) (by show b < _; omega)).trans h3, (hb.cell (p := ⟨b + 1, 0, none⟩) h5).trans h4, Nat.lt_of_lt_of_le h5 hb.size⟩

theorem outR_cells {v : Value} {b : Nat} {w : World} (h : outR v [b, b + 1] w) : w.cell? ⟨b, 0, none⟩ = some (.int .i32 32) ∧ w.cell? ⟨b + 1, 0, none⟩ = some (.int .i32 126) ∧ b + 1 < w.heap.size := by
  obtain ⟨b', e1, _, h1, h2, h3⟩ := h
  obtain rfl : b = b' := by injection e1
  exact ⟨h1, h2, h3⟩

set_option maxHeartbeats 800000 in
theorem may_2 (i : Int) (s : ByteArray) (w : World) (hi : i = 0) (hs : s.size ≤ 40) :
    Calls Tryz.prog 124 #[.agg #[.int .i64 2, .int .i64 i, .string s]] w fun e w' => e = .returned (.bool (txtB s)) ∧ Below w.heap.size w w' := by
  go_enter Tryz.func124, Tryz.ntmps124
  have hsz : decide ((s.size : Int) ≤ 40) = true := decide_eq_true (by omega)
  subst hi
  go_wp2
  refine detL_begin [.val (.pointer (some ⟨w.heap.size, 1, none⟩)), .val (.int .i64 0), .val (.bool true), .val (.bool true), .val (.pointer (some ⟨w.heap.size, 2, none⟩)), .val (.string s), .val (.int .i64 s.size), .val (.bool true), .val (.bool true), .val (.bool true), .val (.pointer (some ⟨w.heap.size, 2, none⟩)), .val (.string s), .rel (outR), .val (.bool (!txtB s)), .val (.bool (txtB s)), .val (.bool (txtB s)), .val (.bool (txtB s))] 17 (by kernel_rfl) ?_
  repeat
    (refine detL_val (by kernel_rfl) (yields_of rfl fun w1 hb1 => ?_) ?_
     · have hc1 := (bcell hb1).1
       clear hb1
       go_simp
       with_reducible exact Det1_same
     simp only [Act.put, List.setIfInBounds_toArray, List.set_cons_zero, List.set_cons_succ])
  refine detL_rel (by kernel_rfl) (yields_rel (by rfl) outR_lasting fun w1 hw1 => ?_) ?_
  · clear hw1
    go_simp
    exact (outside_any _).mono fun e w2 h => ⟨_, _, h.1, ⟨_, rfl, rfl, by rw [h.2]; simp, by rw [h.2]; simp, by rw [h.2]; simp⟩, by rw [h.2]; simp <;> omega, by rw [h.2]; exact ((Below.refl _ _).alloc (Nat.le_refl _) _).alloc (by simp) _⟩
  rintro v F w1 hw1
  obtain ⟨b, rfl, rfl, -⟩ := (hw1.ents _ List.mem_cons_self).1
  simp only [Act.put, List.setIfInBounds_toArray, List.set_cons_zero, List.set_cons_succ]
  refine detL_val (by kernel_rfl) (yields_env (by rfl) fun w2 hw2 => ?_) ?_
  · have h := outR_cells (hw2.ents _ (List.mem_filter.2 ⟨List.mem_cons_self, by kernel_rfl⟩)).1
    have h1 := h.1
    have h2 := h.2.1
    have h3 := h.2.2
    clear hw1 hw2 h
    go_simp
    exact Det1_enter (contains_any s _ _ h3 h1 h2)
  simp only [Act.put, List.setIfInBounds_toArray, List.set_cons_zero, List.set_cons_succ]
  repeat
    (refine detL_val (by kernel_rfl) (yields_of rfl fun w1 hb1 => ?_) ?_
     · have hc1 := (bcell hb1).1
       clear hb1
       go_simp
       with_reducible exact Det1_same
     simp only [Act.put, List.setIfInBounds_toArray, List.set_cons_zero, List.set_cons_succ])
  refine detL_done (by kernel_rfl) fun w1 hw1 => ?_
  have hb1 := hw1.below
  go_wp2
  go_ret
  refine ⟨rfl, ?_⟩
  repeat (first | (with_reducible exact Below.refl _ _) | ((with_reducible refine cSet3 ?_ ?_ _ _ _); (· ((try simp) <;> omega))) | (with_reducible refine Below.drew ?_) | ((with_reducible refine cAlloc ?_ ?_ _); (· ((try simp) <;> omega))) | ((with_reducible refine cOn (by assumption) ?_ ?_); (· ((try simp) <;> omega))))

set_option maxHeartbeats 800000 in
theorem may_2a (i : Int) (s : ByteArray) (w : World) (hi : ¬ i = 0) :
    Calls Tryz.prog 124 #[.agg #[.int .i64 2, .int .i64 i, .string s]] w fun e w' => e = .returned (.bool false) ∧ Below w.heap.size w w' := by
  go_enter Tryz.func124, Tryz.ntmps124
  have hbi : (i == 0) = false := beq_eq_false_iff_ne.2 hi
  go_wp2
  refine detL_begin [.val (.pointer (some ⟨w.heap.size, 1, none⟩)), .val (.int .i64 i), .val (.bool false), .val (.bool false), .val (undef), .val (undef), .val (undef), .val (undef), .val (.bool false), .val (.bool false), .val (undef), .val (undef), .val (undef), .val (undef), .val (undef), .val (.bool false), .val (.bool false)] 17 (by kernel_rfl) ?_
  repeat
    (first
      | (refine detL_val (by kernel_rfl) (yields_of rfl fun w1 hb1 => ?_) ?_
         · have hc1 := bcellD hb1
           clear hb1
           go_simp
           with_reducible first
             | exact Det1_same
         simp only [Act.put, List.setIfInBounds_toArray, List.set_cons_zero, List.set_cons_succ])
      | (refine detL_val (by kernel_rfl) (yields_not rfl) ?_
         simp only [Act.put, List.setIfInBounds_toArray, List.set_cons_zero, List.set_cons_succ]))
  refine detL_done (by kernel_rfl) fun w1 hw1 => ?_
  have hb1 := hw1.below
  go_wp2
  go_ret
  refine ⟨rfl, ?_⟩
  repeat (first | (with_reducible exact Below.refl _ _) | ((with_reducible refine cSet3 ?_ ?_ _ _ _); (· ((try simp) <;> omega))) | (with_reducible refine Below.drew ?_) | ((with_reducible refine cAlloc ?_ ?_ _); (· ((try simp) <;> omega))) | ((with_reducible refine cOn (by assumption) ?_ ?_); (· ((try simp) <;> omega))))

set_option maxHeartbeats 800000 in
theorem may_2b (i : Int) (s : ByteArray) (w : World) (hi : i = 0) (hs : ¬ s.size ≤ 40) :
    Calls Tryz.prog 124 #[.agg #[.int .i64 2, .int .i64 i, .string s]] w fun e w' => e = .returned (.bool false) ∧ Below w.heap.size w w' := by
  go_enter Tryz.func124, Tryz.ntmps124
  have hsz : decide ((s.size : Int) ≤ 40) = false := decide_eq_false (by omega)
  subst hi
  go_wp2
  refine detL_begin [.val (.pointer (some ⟨w.heap.size, 1, none⟩)), .val (.int .i64 0), .val (.bool true), .val (.bool true), .val (.pointer (some ⟨w.heap.size, 2, none⟩)), .val (.string s), .val (.int .i64 s.size), .val (.bool false), .val (.bool false), .val (.bool false), .val (undef), .val (undef), .val (undef), .val (undef), .val (undef), .val (.bool false), .val (.bool false)] 17 (by kernel_rfl) ?_
  repeat
    (first
      | (refine detL_val (by kernel_rfl) (yields_of rfl fun w1 hb1 => ?_) ?_
         · have hc1 := bcellD hb1
           clear hb1
           go_simp
           with_reducible first
             | exact Det1_same
         simp only [Act.put, List.setIfInBounds_toArray, List.set_cons_zero, List.set_cons_succ])
      | (refine detL_val (by kernel_rfl) (yields_not rfl) ?_
         simp only [Act.put, List.setIfInBounds_toArray, List.set_cons_zero, List.set_cons_succ]))
  refine detL_done (by kernel_rfl) fun w1 hw1 => ?_
  have hb1 := hw1.below
  go_wp2
  go_ret
  refine ⟨rfl, ?_⟩
  repeat (first | (with_reducible exact Below.refl _ _) | ((with_reducible refine cSet3 ?_ ?_ _ _ _); (· ((try simp) <;> omega))) | (with_reducible refine Below.drew ?_) | ((with_reducible refine cAlloc ?_ ?_ _); (· ((try simp) <;> omega))) | ((with_reducible refine cOn (by assumption) ?_ ?_); (· ((try simp) <;> omega))))

theorem may_any (k i : Int) (s : ByteArray) (w : World) :
    Calls Tryz.prog 124 #[.agg #[.int .i64 k, .int .i64 i, .string s]] w fun e w' => e = .returned (.bool (mayB k i s)) ∧ Below w.heap.size w w' := by
  by_cases hk : k = 2
  · subst hk
    have e : mayB 2 i s = (decide (i = 0) && decide (s.size ≤ 40) && txtB s) := by simp [mayB]
    by_cases hi : i = 0
    · by_cases hs : s.size ≤ 40
      · rw [show mayB 2 i s = txtB s by rw [e]; simp [hi, hs]]
        exact may_2 i s w hi hs
      · rw [show mayB 2 i s = false by rw [e]; simp [hs]]
        exact may_2b i s w hi hs
    · rw [show mayB 2 i s = false by rw [e]; simp [hi]]
      exact may_2a i s w hi
  · exact may_not2 k i s w hk

theorem may_t (k i : Int) (s : ByteArray) (w : World) (h : mayB k i s = true) :
    Calls Tryz.prog 124 #[.agg #[.int .i64 k, .int .i64 i, .string s]] w fun e w' => e = .returned (.bool true) ∧ Below w.heap.size w w' := h ▸ may_any k i s w
theorem may_f (k i : Int) (s : ByteArray) (w : World) (h : mayB k i s = false) :
    Calls Tryz.prog 124 #[.agg #[.int .i64 k, .int .i64 i, .string s]] w fun e w' => e = .returned (.bool false) ∧ Below w.heap.size w w' := h ▸ may_any k i s w

set_option maxHeartbeats 800000 in
theorem held_t (k i : Int) (s : ByteArray) (w : World) (h : mayB k i s = true) :
    Calls Tryz.prog 98 #[.agg #[.int .i64 k, .int .i64 i, .string s]] w fun e w' => e = .returned (.agg #[.int .i64 k, .int .i64 i, .string s]) ∧ Below w.heap.size w w' := by
  have H := Lib.hid h
  clear h
  go_enter Tryz.func98, Tryz.ntmps98
  go_wp2_with (first
    | (go_at_call 124; refine (may_t _ _ _ _ H.out).mono ?_; rintro e w1 ⟨rfl, hb1⟩; have hc1 := (bcell hb1).1; have hf1 := (bcell hb1).2; have hy1 := hb1.size; (try simp at hy1); have hz1_0 : w.heap.size < w1.heap.size := (by omega); have hz1_1 : w.heap.size + 1 < w1.heap.size := (by omega)))
  refine bodyPost_ret (v := .agg #[.int .i64 k, .int .i64 i, .string s]) (by simp [results, Tryz.results98, go_sem, *]; done) rfl ⟨rfl, ?_⟩
  repeat (first | (with_reducible exact Below.refl _ _) | ((with_reducible refine cSet3 ?_ ?_ _ _ _); (· ((try simp) <;> omega))) | (with_reducible refine Below.drew ?_) | ((with_reducible refine cAlloc ?_ ?_ _); (· ((try simp) <;> omega))) | ((with_reducible refine cOn (by assumption) ?_ ?_); (· ((try simp) <;> omega))))

set_option maxHeartbeats 800000 in
theorem held_f (k i : Int) (s : ByteArray) (w : World) (h : mayB k i s = false) :
    Calls Tryz.prog 98 #[.agg #[.int .i64 k, .int .i64 i, .string s]] w fun e w' => e = .returned (.agg #[.int .i64 0, .int .i64 0, .string ⟨#[]⟩]) ∧ Below w.heap.size w w' := by
  have H := Lib.hid h
  clear h
  go_enter Tryz.func98, Tryz.ntmps98
  go_wp2_with (first
    | (go_at_call 124; refine (may_f _ _ _ _ H.out).mono ?_; rintro e w1 ⟨rfl, hb1⟩; have hc1 := (bcell hb1).1; have hf1 := (bcell hb1).2; have hy1 := hb1.size; (try simp at hy1); have hz1_0 : w.heap.size < w1.heap.size := (by omega); have hz1_1 : w.heap.size + 1 < w1.heap.size := (by omega)))
  refine bodyPost_ret (v := .agg #[.int .i64 0, .int .i64 0, .string ⟨#[]⟩]) (by simp [results, Tryz.results98, go_sem, *]; done) rfl ⟨rfl, ?_⟩
  repeat (first | (with_reducible exact Below.refl _ _) | ((with_reducible refine cSet3 ?_ ?_ _ _ _); (· ((try simp) <;> omega))) | (with_reducible refine Below.drew ?_) | ((with_reducible refine cAlloc ?_ ?_ _); (· ((try simp) <;> omega))) | ((with_reducible refine cOn (by assumption) ?_ ?_); (· ((try simp) <;> omega))))

end Go.Proofs.YtmhkmliebhbkdaaGreat

/- Order, Equal, Less, Plus, Minus, IsNull. -/
namespace Go.Proofs.YtmhkmliebhbkdaaGreat
open Go.RowKit Go.Lib

theorem fld0 (k i : Value) (s : Value) (w : World) : (Instr.field 26 (.agg #[k, i, s]) 0).run Tryz.prog w = .ok k w := by kernel_rfl
set_option maxHeartbeats 400000 in
theorem cmp64 (x y : Int) (w : World) :
    Calls Tryz.prog 101 #[.int .i64 x, .int .i64 y] w fun e w' => e = .returned (.int .i64 (Lib.compareInt x y)) ∧ w' = w := by
  go_enter Tryz.func101, Tryz.ntmps101
  go_wp2
  all_goals
    go_ret
    refine ⟨ret_int ?_, rfl⟩
    unfold Lib.compareInt
    repeat (split <;> try omega)

def or3 (x y z : Int) : Int := if x ≠ 0 then x else if y ≠ 0 then y else z
set_option maxHeartbeats 400000 in
theorem cmpOr (b : Nat) (x y z : Int) (w : World) (h0 : w.cell? ⟨b, 0, none⟩ = some (.int .i64 x)) (h1 : w.cell? ⟨b, 1, none⟩ = some (.int .i64 y)) (h2 : w.cell? ⟨b, 2, none⟩ = some (.int .i64 z)) :
    Calls Tryz.prog 99 #[.slice (some ⟨b, 0, none⟩) 3 3] w fun e w' => e = .returned (.int .i64 (or3 x y z)) ∧ w' = w := by
  go_enter Tryz.func99, Tryz.ntmps99
  go_wp2
  refine wp_loop_rounds 4 ?_
  all_goals (try (rw [rounds_succ]; go_wp2))
  all_goals (try (rw [rounds_succ]; go_wp2))
  all_goals (try (rw [rounds_succ]; go_wp2))
  all_goals (try (rw [rounds_succ]; go_wp2))
  go_ways
  all_goals go_ret
  all_goals refine ⟨ret_int ?_, rfl⟩
  all_goals unfold or3
  all_goals (simp_all; done)

def hK (k i : Int) (s : ByteArray) : Int := if mayB k i s then k else 0
def hI (k i : Int) (s : ByteArray) : Int := if mayB k i s then i else 0
def hS (k i : Int) (s : ByteArray) : ByteArray := if mayB k i s then s else ⟨#[]⟩

theorem held_any (k i : Int) (s : ByteArray) (w : World) :
    Calls Tryz.prog 98 #[.agg #[.int .i64 k, .int .i64 i, .string s]] w fun e w' => e = .returned (.agg #[.int .i64 (hK k i s), .int .i64 (hI k i s), .string (hS k i s)]) ∧ Below w.heap.size w w' := by
  cases h : mayB k i s with
  | true =>
    have := held_t k i s w h
    unfold hK hI hS
    simp only [h, if_true]
    exact this
  | false =>
    have := held_f k i s w h
    unfold hK hI hS
    simp only [h, Bool.false_eq_true, if_false]
    exact this

theorem wp_gen {P : Program} {Q : Exit → Act → World → Prop} {c : Code} {a : Act} {W : World} (p : World → Prop) (h : p W) (k : ∀ W', p W' → c.wp P Q a W') : c.wp P Q a W := k W h
theorem same_below {P : Program} {f : FuncId} {args : Array Value} {w : World} {r : Ending} (h : Calls P f args w fun e w' => e = r ∧ w' = w) : Calls P f args w fun e w' => e = r ∧ Below w.heap.size w w' :=
  h.mono fun _ _ h => ⟨h.1, h.2 ▸ Below.refl _ _⟩

/-- Two boxes, which hold what the two count as. -/
structure Boxes (w : World) (k i : Int) (s : ByteArray) (k' i' : Int) (s' : ByteArray) (W : World) : Prop where
  below : Below w.heap.size w W
  size : w.heap.size + 1 + 1 ≤ W.heap.size
  k : W.cell? ⟨w.heap.size, 0, none⟩ = some (.int .i64 k)
  i : W.cell? ⟨w.heap.size, 1, none⟩ = some (.int .i64 i)
  s : W.cell? ⟨w.heap.size, 2, none⟩ = some (.string s)
  k' : W.cell? ⟨w.heap.size + 1, 0, none⟩ = some (.int .i64 k')
  i' : W.cell? ⟨w.heap.size + 1, 1, none⟩ = some (.int .i64 i')
  s' : W.cell? ⟨w.heap.size + 1, 2, none⟩ = some (.string s')

theorem Boxes.later {w W W' : World} {k i : Int} {s : ByteArray} {k' i' : Int} {s' : ByteArray} (h : Boxes w k i s k' i' s' W) (hb : Below W.heap.size W W') : Boxes w k i s k' i' s' W' := by
  have hs := h.size
  exact ⟨h.below.trans (hb.mono h.below.size), Nat.le_trans hs hb.size,
    (hb.cell (p := ⟨_, _, none⟩) (by show w.heap.size < _; omega)).trans h.k, (hb.cell (p := ⟨_, _, none⟩) (by show w.heap.size < _; omega)).trans h.i, (hb.cell (p := ⟨_, _, none⟩) (by show w.heap.size < _; omega)).trans h.s,
    (hb.cell (p := ⟨_, _, none⟩) (by show w.heap.size + 1 < _; omega)).trans h.k', (hb.cell (p := ⟨_, _, none⟩) (by show w.heap.size + 1 < _; omega)).trans h.i', (hb.cell (p := ⟨_, _, none⟩) (by show w.heap.size + 1 < _; omega)).trans h.s'⟩

theorem Boxes.start (w : World) (k i : Int) (s : ByteArray) (k' i' : Int) (s' : ByteArray) (t t' : TypeId) :
    Boxes w k i s k' i' s' ((w.alloc (.cells #[.int .i64 k, .int .i64 i, .string s] t)).alloc (.cells #[.int .i64 k', .int .i64 i', .string s'] t')).drew :=
  ⟨(((Below.refl _ _).alloc (Nat.le_refl _) _).alloc (by simp) _).drew, by simp, by simp [go_sem], by simp [go_sem], by simp [go_sem], by simp [go_sem], by simp [go_sem], by simp [go_sem]⟩

theorem Boxes.store {w W : World} {k i : Int} {s : ByteArray} {k' i' : Int} {s' : ByteArray} (h : Boxes w k i s k' i' s' W) (K I : Int) (S : ByteArray) (K' I' : Int) (S' : ByteArray) :
    Boxes w K I S K' I' S' ((((((W.setCell ⟨w.heap.size, 0, none⟩ (.int .i64 K)).setCell ⟨w.heap.size, 1, none⟩ (.int .i64 I)).setCell ⟨w.heap.size, 2, none⟩ (.string S)).setCell ⟨w.heap.size + 1, 0, none⟩ (.int .i64 K')).setCell ⟨w.heap.size + 1, 1, none⟩ (.int .i64 I')).setCell ⟨w.heap.size + 1, 2, none⟩ (.string S')) := by
  have h1 := h.k
  have h2 := h.i
  have h3 := h.s
  have h4 := h.k'
  have h5 := h.i'
  have h6 := h.s'
  exact ⟨cSet3 (by omega) (cSet3 (Nat.le_refl _) h.below _ _ _) _ _ _, by simpa using h.size, by simp [go_sem, *], by simp [go_sem, *], by simp [go_sem, *], by simp [go_sem, *], by simp [go_sem, *], by simp [go_sem, *]⟩

def ordH (k i : Int) (s : ByteArray) (k' i' : Int) (s' : ByteArray) : Int := or3 (Lib.compareInt k k') (Lib.compareInt i i') (Lib.compareBytes s.data.toList s'.data.toList)
/-- Which is first. -/
def ordN (k i : Int) (s : ByteArray) (k' i' : Int) (s' : ByteArray) : Int := ordH (hK k i s) (hI k i s) (hS k i s) (hK k' i' s') (hI k' i' s') (hS k' i' s')
/-- Are both of one kind, and neither of them NULL? -/
def alikeB (k i : Int) (s : ByteArray) (k' i' : Int) (s' : ByteArray) : Bool := decide ((hK k i s) = (hK k' i' s')) && ((hK k i s) != 0)

set_option maxRecDepth 100000 in
set_option maxHeartbeats 800000 in
theorem order_any (k i : Int) (s : ByteArray) (k' i' : Int) (s' : ByteArray) (w : World) :
    Calls Tryz.prog 62 #[.agg #[.int .i64 k, .int .i64 i, .string s], .agg #[.int .i64 k', .int .i64 i', .string s']] w fun e w' => e = .returned (.int .i64 (ordN k i s k' i' s')) ∧ Below w.heap.size w w' := by
  go_enter Tryz.func62, Tryz.ntmps62
  go_wp2
  refine detL_begin [.val (.agg #[.int .i64 k, .int .i64 i, .string s]), .val (.agg #[.int .i64 (hK k i s), .int .i64 (hI k i s), .string (hS k i s)]), .val (.agg #[.int .i64 k', .int .i64 i', .string s']), .val (.agg #[.int .i64 (hK k' i' s'), .int .i64 (hI k' i' s'), .string (hS k' i' s')])] 4 (by kernel_rfl) ?_
  repeat
    (refine detL_val (by kernel_rfl) (yields_of rfl fun w1 hb1 => ?_) ?_
     · have hc1 := bcellD hb1
       clear hb1
       go_simp
       with_reducible first
         | exact Det1_same
         | exact Det1_enter (held_any _ _ _ _)
     simp only [Act.put, List.setIfInBounds_toArray, List.set_cons_zero, List.set_cons_succ])
  refine detL_tail rfl (by kernel_rfl) fun w1 hw1 => ?_
  have hb1 := hw1.below
  clear hw1
  have hc1 := (bcell hb1).1
  have hf1 := (bcell hb1).2
  have hy1 := hb1.size
  (try simp at hy1)
  have hz1_0 : w.heap.size < w1.heap.size := (by omega)
  have hz1_1 : w.heap.size + 1 < w1.heap.size := (by omega)
  go_upto_region 2 with (fail)
  refine wp_gen (Boxes w (hK k i s) (hI k i s) (hS k i s) (hK k' i' s') (hI k' i' s') (hS k' i' s')) (((Boxes.start w k i s k' i' s' 26 26).later hb1).store _ _ _ _ _ _) ?_
  intro W hW
  clear hc1 hf1 hb1 hy1 hz1_0 hz1_1
  have hk := hW.k
  have hi := hW.i
  have hs := hW.s
  have hk' := hW.k'
  have hi' := hW.i'
  have hs' := hW.s'
  have hn0 : w.heap.size < W.heap.size := by have := hW.size; omega
  have hn1 : w.heap.size + 1 < W.heap.size := by have := hW.size; omega
  refine detL_begin [.val (.pointer (some ⟨w.heap.size, 0, none⟩)), .val (.int .i64 (hK k i s)), .val (.pointer (some ⟨w.heap.size + 1, 0, none⟩)), .val (.int .i64 (hK k' i' s')), .val (.int .i64 (Lib.compareInt (hK k i s) (hK k' i' s'))), .val (.pointer (some ⟨w.heap.size, 1, none⟩)), .val (.int .i64 (hI k i s)), .val (.pointer (some ⟨w.heap.size + 1, 1, none⟩)), .val (.int .i64 (hI k' i' s')), .val (.int .i64 (Lib.compareInt (hI k i s) (hI k' i' s'))), .val (.pointer (some ⟨w.heap.size, 2, none⟩)), .val (.string (hS k i s)), .val (.pointer (some ⟨w.heap.size + 1, 2, none⟩)), .val (.string (hS k' i' s')), .val (.int .i64 (Lib.compareBytes (hS k i s).data.toList (hS k' i' s').data.toList))] 15 (by kernel_rfl) ?_
  repeat
    (refine detL_val (by kernel_rfl) (yields_of rfl fun w1 hb1 => ?_) ?_
     · have hc1 := bcellD hb1
       clear hb1
       go_simp
       with_reducible first
         | exact Det1_same
         | exact Det1_enter (same_below (Tryz.cmp_Compare_int _ _ _))
         | exact Det1_enter (same_below (cmp64 _ _ _))
         | exact Det1_enter (same_below (Tryz.strings_Compare _ _ _))
     simp only [Act.put, List.setIfInBounds_toArray, List.set_cons_zero, List.set_cons_succ])
  refine detL_tail rfl (by kernel_rfl) fun w1 hw1 => ?_
  have hb1 := hW.below.drew.trans (hw1.below.mono hW.below.size)
  clear hw1 hk hi hs hk' hi' hs' hn0 hn1
  go_wp2_with (first
    | (go_at_call 99; refine (cmpOr _ (Lib.compareInt (hK k i s) (hK k' i' s')) (Lib.compareInt (hI k i s) (hI k' i' s')) (Lib.compareBytes (hS k i s).data.toList (hS k' i' s').data.toList) _ (by simp) (by simp) (by simp)).mono ?_; rintro e w3 ⟨rfl, rfl⟩))
  go_ret
  refine ⟨rfl, hb1.trans ?_⟩
  exact ((Below.refl _ _).alloc hb1.size _)

set_option maxRecDepth 100000 in
set_option maxHeartbeats 800000 in
theorem alike_any (k i : Int) (s : ByteArray) (k' i' : Int) (s' : ByteArray) (w : World) :
    Calls Tryz.prog 148 #[.agg #[.int .i64 k, .int .i64 i, .string s], .agg #[.int .i64 k', .int .i64 i', .string s']] w fun e w' => e = .returned (.bool (alikeB k i s k' i' s')) ∧ Below w.heap.size w w' := by
  go_enter Tryz.func148, Tryz.ntmps148
  go_wp2
  refine detL_begin [.val (.agg #[.int .i64 k, .int .i64 i, .string s]), .val (.agg #[.int .i64 (hK k i s), .int .i64 (hI k i s), .string (hS k i s)]), .val (.agg #[.int .i64 k', .int .i64 i', .string s']), .val (.agg #[.int .i64 (hK k' i' s'), .int .i64 (hI k' i' s'), .string (hS k' i' s')])] 4 (by kernel_rfl) ?_
  repeat
    (refine detL_val (by kernel_rfl) (yields_of rfl fun w1 hb1 => ?_) ?_
     · have hc1 := bcellD hb1
       clear hb1
       go_simp
       with_reducible first
         | exact Det1_same
         | exact Det1_enter (held_any _ _ _ _)
     simp only [Act.put, List.setIfInBounds_toArray, List.set_cons_zero, List.set_cons_succ])
  refine detL_tail rfl (by kernel_rfl) fun w1 hw1 => ?_
  have hb1 := hw1.below
  clear hw1
  have hc1 := (bcell hb1).1
  have hf1 := (bcell hb1).2
  have hy1 := hb1.size
  (try simp at hy1)
  have hz1_0 : w.heap.size < w1.heap.size := (by omega)
  have hz1_1 : w.heap.size + 1 < w1.heap.size := (by omega)
  go_upto_region 2 with (fail)
  refine wp_gen (Boxes w (hK k i s) (hI k i s) (hS k i s) (hK k' i' s') (hI k' i' s') (hS k' i' s')) (((Boxes.start w k i s k' i' s' 26 26).later hb1).store _ _ _ _ _ _) ?_
  intro W hW
  clear hc1 hf1 hb1 hy1 hz1_0 hz1_1
  have hk := hW.k
  have hi := hW.i
  have hs := hW.s
  have hk' := hW.k'
  have hi' := hW.i'
  have hs' := hW.s'
  have hn0 : w.heap.size < W.heap.size := by have := hW.size; omega
  have hn1 : w.heap.size + 1 < W.heap.size := by have := hW.size; omega
  go_wp2
  all_goals
    go_ret
    refine ⟨ret_bool ?_, hW.below⟩
    unfold alikeB
    simp_all

def b2i (b : Bool) : Int := if b then 1 else 0
theorem truth_any (b : Bool) (w : World) :
    Calls Tryz.prog 146 #[.bool b] w fun e w' => e = .returned (.agg #[.int .i64 3, .int .i64 (b2i b), .string ⟨#[]⟩]) ∧ Below w.heap.size w w' := by
  cases b with
  | true => exact truth_t w
  | false => exact truth_f w

set_option maxRecDepth 100000 in
set_option maxHeartbeats 800000 in
theorem equal_no (k i : Int) (s : ByteArray) (k' i' : Int) (s' : ByteArray) (w : World) (ha : alikeB k i s k' i' s' = false) :
    Calls Tryz.prog 112 #[.agg #[.int .i64 k, .int .i64 i, .string s], .agg #[.int .i64 k', .int .i64 i', .string s']] w fun e w' => e = .returned (.agg #[.int .i64 0, .int .i64 0, .string ⟨#[]⟩]) ∧ Below w.heap.size w w' := by
  have H := Lib.hid ha
  clear ha
  go_enter Tryz.func112, Tryz.ntmps112
  go_wp2_with (first
    | (go_at_call 148; refine ((alike_any _ _ _ _ _ _ _).mono (fun _ _ h => (H.out ▸ h : _ = Ending.returned (.bool false) ∧ _))).mono ?_; rintro e w1 ⟨rfl, hb1⟩; have hc1 := (bcell hb1).1; have hf1 := (bcell hb1).2; have hy1 := hb1.size; (try simp at hy1); have hz1_0 : w.heap.size < w1.heap.size := (by omega); have hz1_1 : w.heap.size + 1 < w1.heap.size := (by omega); have hz1_2 : w.heap.size + 1 + 1 < w1.heap.size := (by omega)))
  (refine bodyPost_ret (v := .agg #[.int .i64 0, .int .i64 0, .string ⟨#[]⟩]) ?_ rfl ⟨rfl, ?_⟩; (· (simp [results, Tryz.results112, go_sem, *]; done)))
  repeat (first | (with_reducible exact Below.refl _ _) | ((with_reducible refine cSet3 ?_ ?_ _ _ _); (· ((try simp) <;> omega))) | (with_reducible refine Below.drew ?_) | ((with_reducible refine cAlloc ?_ ?_ _); (· ((try simp) <;> omega))) | ((with_reducible refine cOn (by assumption) ?_ ?_); (· ((try simp) <;> omega))))

set_option maxRecDepth 100000 in
set_option maxHeartbeats 800000 in
theorem equal_yes (k i : Int) (s : ByteArray) (k' i' : Int) (s' : ByteArray) (w : World) (ha : alikeB k i s k' i' s' = true) :
    Calls Tryz.prog 112 #[.agg #[.int .i64 k, .int .i64 i, .string s], .agg #[.int .i64 k', .int .i64 i', .string s']] w fun e w' => e = .returned (.agg #[.int .i64 3, .int .i64 (b2i (ordN k i s k' i' s' == 0)), .string ⟨#[]⟩]) ∧ Below w.heap.size w w' := by
  have H := Lib.hid ha
  clear ha
  go_enter Tryz.func112, Tryz.ntmps112
  go_wp2_with (first
    | (go_at_call 148; refine ((alike_any _ _ _ _ _ _ _).mono (fun _ _ h => (H.out ▸ h : _ = Ending.returned (.bool true) ∧ _))).mono ?_; rintro e w1 ⟨rfl, hb1⟩; have hc1 := (bcell hb1).1; have hf1 := (bcell hb1).2; have hy1 := hb1.size; (try simp at hy1); have hz1_0 : w.heap.size < w1.heap.size := (by omega); have hz1_1 : w.heap.size + 1 < w1.heap.size := (by omega); have hz1_2 : w.heap.size + 1 + 1 < w1.heap.size := (by omega))
    | (go_at_call 62; refine (order_any _ _ _ _ _ _ _).mono ?_; rintro e w1 ⟨rfl, hb1⟩; have hc1 := (bcell hb1).1; have hf1 := (bcell hb1).2; have hy1 := hb1.size; (try simp at hy1); have hz1_0 : w.heap.size < w1.heap.size := (by omega); have hz1_1 : w.heap.size + 1 < w1.heap.size := (by omega); have hz1_2 : w.heap.size + 1 + 1 < w1.heap.size := (by omega))
    | (go_at_call 146; refine (truth_any _ _).mono ?_; rintro e w1 ⟨rfl, hb1⟩; have hc1 := (bcell hb1).1; have hf1 := (bcell hb1).2; have hy1 := hb1.size; (try simp at hy1); have hz1_0 : w.heap.size < w1.heap.size := (by omega); have hz1_1 : w.heap.size + 1 < w1.heap.size := (by omega); have hz1_2 : w.heap.size + 1 + 1 < w1.heap.size := (by omega)))
  (refine bodyPost_ret (v := .agg #[.int .i64 3, .int .i64 (b2i (ordN k i s k' i' s' == 0)), .string ⟨#[]⟩]) ?_ rfl ⟨rfl, ?_⟩; (· (simp [results, Tryz.results112, go_sem, *]; done)))
  repeat (first | (with_reducible exact Below.refl _ _) | ((with_reducible refine cSet3 ?_ ?_ _ _ _); (· ((try simp) <;> omega))) | (with_reducible refine Below.drew ?_) | ((with_reducible refine cAlloc ?_ ?_ _); (· ((try simp) <;> omega))) | ((with_reducible refine cOn (by assumption) ?_ ?_); (· ((try simp) <;> omega))))

set_option maxRecDepth 100000 in
set_option maxHeartbeats 800000 in
theorem less_no (k i : Int) (s : ByteArray) (k' i' : Int) (s' : ByteArray) (w : World) (ha : alikeB k i s k' i' s' = false) :
    Calls Tryz.prog 113 #[.agg #[.int .i64 k, .int .i64 i, .string s], .agg #[.int .i64 k', .int .i64 i', .string s']] w fun e w' => e = .returned (.agg #[.int .i64 0, .int .i64 0, .string ⟨#[]⟩]) ∧ Below w.heap.size w w' := by
  have H := Lib.hid ha
  clear ha
  go_enter Tryz.func113, Tryz.ntmps113
  go_wp2_with (first
    | (go_at_call 148; refine ((alike_any _ _ _ _ _ _ _).mono (fun _ _ h => (H.out ▸ h : _ = Ending.returned (.bool false) ∧ _))).mono ?_; rintro e w1 ⟨rfl, hb1⟩; have hc1 := (bcell hb1).1; have hf1 := (bcell hb1).2; have hy1 := hb1.size; (try simp at hy1); have hz1_0 : w.heap.size < w1.heap.size := (by omega); have hz1_1 : w.heap.size + 1 < w1.heap.size := (by omega); have hz1_2 : w.heap.size + 1 + 1 < w1.heap.size := (by omega)))
  (refine bodyPost_ret (v := .agg #[.int .i64 0, .int .i64 0, .string ⟨#[]⟩]) ?_ rfl ⟨rfl, ?_⟩; (· (simp [results, Tryz.results113, go_sem, *]; done)))
  repeat (first | (with_reducible exact Below.refl _ _) | ((with_reducible refine cSet3 ?_ ?_ _ _ _); (· ((try simp) <;> omega))) | (with_reducible refine Below.drew ?_) | ((with_reducible refine cAlloc ?_ ?_ _); (· ((try simp) <;> omega))) | ((with_reducible refine cOn (by assumption) ?_ ?_); (· ((try simp) <;> omega))))

set_option maxRecDepth 100000 in
set_option maxHeartbeats 800000 in
theorem less_yes (k i : Int) (s : ByteArray) (k' i' : Int) (s' : ByteArray) (w : World) (ha : alikeB k i s k' i' s' = true) :
    Calls Tryz.prog 113 #[.agg #[.int .i64 k, .int .i64 i, .string s], .agg #[.int .i64 k', .int .i64 i', .string s']] w fun e w' => e = .returned (.agg #[.int .i64 3, .int .i64 (b2i (decide (ordN k i s k' i' s' < 0))), .string ⟨#[]⟩]) ∧ Below w.heap.size w w' := by
  have H := Lib.hid ha
  clear ha
  go_enter Tryz.func113, Tryz.ntmps113
  go_wp2_with (first
    | (go_at_call 148; refine ((alike_any _ _ _ _ _ _ _).mono (fun _ _ h => (H.out ▸ h : _ = Ending.returned (.bool true) ∧ _))).mono ?_; rintro e w1 ⟨rfl, hb1⟩; have hc1 := (bcell hb1).1; have hf1 := (bcell hb1).2; have hy1 := hb1.size; (try simp at hy1); have hz1_0 : w.heap.size < w1.heap.size := (by omega); have hz1_1 : w.heap.size + 1 < w1.heap.size := (by omega); have hz1_2 : w.heap.size + 1 + 1 < w1.heap.size := (by omega))
    | (go_at_call 62; refine (order_any _ _ _ _ _ _ _).mono ?_; rintro e w1 ⟨rfl, hb1⟩; have hc1 := (bcell hb1).1; have hf1 := (bcell hb1).2; have hy1 := hb1.size; (try simp at hy1); have hz1_0 : w.heap.size < w1.heap.size := (by omega); have hz1_1 : w.heap.size + 1 < w1.heap.size := (by omega); have hz1_2 : w.heap.size + 1 + 1 < w1.heap.size := (by omega))
    | (go_at_call 146; refine (truth_any _ _).mono ?_; rintro e w1 ⟨rfl, hb1⟩; have hc1 := (bcell hb1).1; have hf1 := (bcell hb1).2; have hy1 := hb1.size; (try simp at hy1); have hz1_0 : w.heap.size < w1.heap.size := (by omega); have hz1_1 : w.heap.size + 1 < w1.heap.size := (by omega); have hz1_2 : w.heap.size + 1 + 1 < w1.heap.size := (by omega)))
  (refine bodyPost_ret (v := .agg #[.int .i64 3, .int .i64 (b2i (decide (ordN k i s k' i' s' < 0))), .string ⟨#[]⟩]) ?_ rfl ⟨rfl, ?_⟩; (· (simp [results, Tryz.results113, go_sem, *]; done)))
  repeat (first | (with_reducible exact Below.refl _ _) | ((with_reducible refine cSet3 ?_ ?_ _ _ _); (· ((try simp) <;> omega))) | (with_reducible refine Below.drew ?_) | ((with_reducible refine cAlloc ?_ ?_ _); (· ((try simp) <;> omega))) | ((with_reducible refine cOn (by assumption) ?_ ?_); (· ((try simp) <;> omega))))

def numsB (k i : Int) (s : ByteArray) (k' i' : Int) (s' : ByteArray) : Bool := ((hK k i s) == 1) && ((hK k' i' s') == 1)

set_option maxRecDepth 100000 in
set_option maxHeartbeats 800000 in
theorem numbers_any (k i : Int) (s : ByteArray) (k' i' : Int) (s' : ByteArray) (w : World) :
    Calls Tryz.prog 149 #[.agg #[.int .i64 k, .int .i64 i, .string s], .agg #[.int .i64 k', .int .i64 i', .string s']] w fun e w' => e = .returned (.bool (numsB k i s k' i' s')) ∧ Below w.heap.size w w' := by
  unfold numsB
  have hfl := fld0
  cases h1 : (hK k i s == 1) with
  | true =>
    rw [Bool.true_and]
    go_enter Tryz.func149, Tryz.ntmps149
    go_wp2_with (first
    | (go_at_call 98; refine (held_any _ _ _ _).mono ?_; rintro e w1 ⟨rfl, hb1⟩; have hc1 := (bcell hb1).1; have hf1 := (bcell hb1).2; have hy1 := hb1.size; (try simp at hy1); have hz1_0 : w.heap.size < w1.heap.size := (by omega); have hz1_1 : w.heap.size + 1 < w1.heap.size := (by omega)))
    all_goals
      go_ret
      refine ⟨rfl, ?_⟩
      repeat (first | (with_reducible exact Below.refl _ _) | ((with_reducible refine cSet3 ?_ ?_ _ _ _); (· ((try simp) <;> omega))) | (with_reducible refine Below.drew ?_) | ((with_reducible refine cAlloc ?_ ?_ _); (· ((try simp) <;> omega))) | ((with_reducible refine cOn (by assumption) ?_ ?_); (· ((try simp) <;> omega))))
  | false =>
    rw [Bool.false_and]
    go_enter Tryz.func149, Tryz.ntmps149
    go_wp2_with (first
    | (go_at_call 98; refine (held_any _ _ _ _).mono ?_; rintro e w1 ⟨rfl, hb1⟩; have hc1 := (bcell hb1).1; have hf1 := (bcell hb1).2; have hy1 := hb1.size; (try simp at hy1); have hz1_0 : w.heap.size < w1.heap.size := (by omega); have hz1_1 : w.heap.size + 1 < w1.heap.size := (by omega)))
    all_goals
      go_ret
      refine ⟨rfl, ?_⟩
      repeat (first | (with_reducible exact Below.refl _ _) | ((with_reducible refine cSet3 ?_ ?_ _ _ _); (· ((try simp) <;> omega))) | (with_reducible refine Below.drew ?_) | ((with_reducible refine cAlloc ?_ ?_ _); (· ((try simp) <;> omega))) | ((with_reducible refine cOn (by assumption) ?_ ?_); (· ((try simp) <;> omega))))

def badPlus (i i' : Int) : Bool := !(decide (i < wrap64 (i + i')) == decide (0 < i'))
def badMinus (i i' : Int) : Bool := !(decide (wrap64 (i - i') < i) == decide (0 < i'))

set_option maxRecDepth 100000 in
set_option maxHeartbeats 800000 in
theorem plus_no (k i : Int) (s : ByteArray) (k' i' : Int) (s' : ByteArray) (w : World) (ha : numsB k i s k' i' s' = false) :
    Calls Tryz.prog 114 #[.agg #[.int .i64 k, .int .i64 i, .string s], .agg #[.int .i64 k', .int .i64 i', .string s']] w fun e w' => e = .returned (.agg #[.int .i64 0, .int .i64 0, .string ⟨#[]⟩]) ∧ Below w.heap.size w w' := by
  have H := Lib.hid ha
  clear ha
  go_enter Tryz.func114, Tryz.ntmps114
  go_wp2_with (first
    | (go_at_call 149; refine ((numbers_any _ _ _ _ _ _ _).mono (fun _ _ h => (H.out ▸ h : _ = Ending.returned (.bool false) ∧ _))).mono ?_; rintro e w1 ⟨rfl, hb1⟩; have hc1 := (bcell hb1).1; have hf1 := (bcell hb1).2; have hy1 := hb1.size; (try simp at hy1); have hz1_0 : w.heap.size < w1.heap.size := (by omega); have hz1_1 : w.heap.size + 1 < w1.heap.size := (by omega); have hz1_2 : w.heap.size + 1 + 1 < w1.heap.size := (by omega)))
  (refine bodyPost_ret (v := .agg #[.int .i64 0, .int .i64 0, .string ⟨#[]⟩]) ?_ rfl ⟨rfl, ?_⟩; (· (simp [results, Tryz.results114, go_sem, *]; done)))
  repeat (first | (with_reducible exact Below.refl _ _) | ((with_reducible refine cSet3 ?_ ?_ _ _ _); (· ((try simp) <;> omega))) | (with_reducible refine Below.drew ?_) | ((with_reducible refine cAlloc ?_ ?_ _); (· ((try simp) <;> omega))) | ((with_reducible refine cOn (by assumption) ?_ ?_); (· ((try simp) <;> omega))))

set_option maxRecDepth 100000 in
set_option maxHeartbeats 800000 in
theorem plus_bad (k i : Int) (s : ByteArray) (k' i' : Int) (s' : ByteArray) (w : World) (ha : numsB k i s k' i' s' = true) (hb : badPlus i i' = true) :
    Calls Tryz.prog 114 #[.agg #[.int .i64 k, .int .i64 i, .string s], .agg #[.int .i64 k', .int .i64 i', .string s']] w fun e w' => e = .returned (.agg #[.int .i64 0, .int .i64 0, .string ⟨#[]⟩]) ∧ Below w.heap.size w w' := by
  have H := Lib.hid ha
  have HB := Lib.hid hb
  clear ha hb
  go_enter Tryz.func114, Tryz.ntmps114
  go_wp2_with (first
    | (go_at_call 149; refine ((numbers_any _ _ _ _ _ _ _).mono (fun _ _ h => (H.out ▸ h : _ = Ending.returned (.bool true) ∧ _))).mono ?_; rintro e w1 ⟨rfl, hb1⟩; have hc1 := (bcell hb1).1; have hf1 := (bcell hb1).2; have hy1 := hb1.size; (try simp at hy1); have hz1_0 : w.heap.size < w1.heap.size := (by omega); have hz1_1 : w.heap.size + 1 < w1.heap.size := (by omega); have hz1_2 : w.heap.size + 1 + 1 < w1.heap.size := (by omega)))
  all_goals first
    | (exfalso
       have h1 : (!(decide (i < wrap64 (i + i')) == decide (0 < i'))) = false := by assumption
       have h2 := HB.out
       unfold badPlus at h2
       rw [h1] at h2
       cases h2)
    | ((refine bodyPost_ret (v := .agg #[.int .i64 0, .int .i64 0, .string ⟨#[]⟩]) ?_ rfl ⟨rfl, ?_⟩; (· (simp [results, Tryz.results114, go_sem, *]; done)))
       repeat (first | (with_reducible exact Below.refl _ _) | ((with_reducible refine cSet3 ?_ ?_ _ _ _); (· ((try simp) <;> omega))) | (with_reducible refine Below.drew ?_) | ((with_reducible refine cAlloc ?_ ?_ _); (· ((try simp) <;> omega))) | ((with_reducible refine cOn (by assumption) ?_ ?_); (· ((try simp) <;> omega)))))

set_option maxRecDepth 100000 in
set_option maxHeartbeats 800000 in
theorem plus_yes (k i : Int) (s : ByteArray) (k' i' : Int) (s' : ByteArray) (w : World) (ha : numsB k i s k' i' s' = true) (hb : badPlus i i' = false) :
    Calls Tryz.prog 114 #[.agg #[.int .i64 k, .int .i64 i, .string s], .agg #[.int .i64 k', .int .i64 i', .string s']] w fun e w' => e = .returned (.agg #[.int .i64 1, .int .i64 (wrap64 (i + i')), .string ⟨#[]⟩]) ∧ Below w.heap.size w w' := by
  have H := Lib.hid ha
  have HB := Lib.hid hb
  clear ha hb
  go_enter Tryz.func114, Tryz.ntmps114
  go_wp2_with (first
    | (go_at_call 149; refine ((numbers_any _ _ _ _ _ _ _).mono (fun _ _ h => (H.out ▸ h : _ = Ending.returned (.bool true) ∧ _))).mono ?_; rintro e w1 ⟨rfl, hb1⟩; have hc1 := (bcell hb1).1; have hf1 := (bcell hb1).2; have hy1 := hb1.size; (try simp at hy1); have hz1_0 : w.heap.size < w1.heap.size := (by omega); have hz1_1 : w.heap.size + 1 < w1.heap.size := (by omega); have hz1_2 : w.heap.size + 1 + 1 < w1.heap.size := (by omega)))
  all_goals first
    | (exfalso
       have h1 : (!(decide (i < wrap64 (i + i')) == decide (0 < i'))) = true := by assumption
       have h2 := HB.out
       unfold badPlus at h2
       rw [h1] at h2
       cases h2)
    | ((refine bodyPost_ret (v := .agg #[.int .i64 1, .int .i64 (wrap64 (i + i')), .string ⟨#[]⟩]) ?_ rfl ⟨rfl, ?_⟩; (· (simp [results, Tryz.results114, go_sem, *]; done)))
       repeat (first | (with_reducible exact Below.refl _ _) | ((with_reducible refine cSet3 ?_ ?_ _ _ _); (· ((try simp) <;> omega))) | (with_reducible refine Below.drew ?_) | ((with_reducible refine cAlloc ?_ ?_ _); (· ((try simp) <;> omega))) | ((with_reducible refine cOn (by assumption) ?_ ?_); (· ((try simp) <;> omega)))))

set_option maxRecDepth 100000 in
set_option maxHeartbeats 800000 in
theorem minus_no (k i : Int) (s : ByteArray) (k' i' : Int) (s' : ByteArray) (w : World) (ha : numsB k i s k' i' s' = false) :
    Calls Tryz.prog 115 #[.agg #[.int .i64 k, .int .i64 i, .string s], .agg #[.int .i64 k', .int .i64 i', .string s']] w fun e w' => e = .returned (.agg #[.int .i64 0, .int .i64 0, .string ⟨#[]⟩]) ∧ Below w.heap.size w w' := by
  have H := Lib.hid ha
  clear ha
  go_enter Tryz.func115, Tryz.ntmps115
  go_wp2_with (first
    | (go_at_call 149; refine ((numbers_any _ _ _ _ _ _ _).mono (fun _ _ h => (H.out ▸ h : _ = Ending.returned (.bool false) ∧ _))).mono ?_; rintro e w1 ⟨rfl, hb1⟩; have hc1 := (bcell hb1).1; have hf1 := (bcell hb1).2; have hy1 := hb1.size; (try simp at hy1); have hz1_0 : w.heap.size < w1.heap.size := (by omega); have hz1_1 : w.heap.size + 1 < w1.heap.size := (by omega); have hz1_2 : w.heap.size + 1 + 1 < w1.heap.size := (by omega)))
  (refine bodyPost_ret (v := .agg #[.int .i64 0, .int .i64 0, .string ⟨#[]⟩]) ?_ rfl ⟨rfl, ?_⟩; (· (simp [results, Tryz.results115, go_sem, *]; done)))
  repeat (first | (with_reducible exact Below.refl _ _) | ((with_reducible refine cSet3 ?_ ?_ _ _ _); (· ((try simp) <;> omega))) | (with_reducible refine Below.drew ?_) | ((with_reducible refine cAlloc ?_ ?_ _); (· ((try simp) <;> omega))) | ((with_reducible refine cOn (by assumption) ?_ ?_); (· ((try simp) <;> omega))))

set_option maxRecDepth 100000 in
set_option maxHeartbeats 800000 in
theorem minus_bad (k i : Int) (s : ByteArray) (k' i' : Int) (s' : ByteArray) (w : World) (ha : numsB k i s k' i' s' = true) (hb : badMinus i i' = true) :
    Calls Tryz.prog 115 #[.agg #[.int .i64 k, .int .i64 i, .string s], .agg #[.int .i64 k', .int .i64 i', .string s']] w fun e w' => e = .returned (.agg #[.int .i64 0, .int .i64 0, .string ⟨#[]⟩]) ∧ Below w.heap.size w w' := by
  have H := Lib.hid ha
  have HB := Lib.hid hb
  clear ha hb
  go_enter Tryz.func115, Tryz.ntmps115
  go_wp2_with (first
    | (go_at_call 149; refine ((numbers_any _ _ _ _ _ _ _).mono (fun _ _ h => (H.out ▸ h : _ = Ending.returned (.bool true) ∧ _))).mono ?_; rintro e w1 ⟨rfl, hb1⟩; have hc1 := (bcell hb1).1; have hf1 := (bcell hb1).2; have hy1 := hb1.size; (try simp at hy1); have hz1_0 : w.heap.size < w1.heap.size := (by omega); have hz1_1 : w.heap.size + 1 < w1.heap.size := (by omega); have hz1_2 : w.heap.size + 1 + 1 < w1.heap.size := (by omega)))
  all_goals first
    | (exfalso
       have h1 : (!(decide (wrap64 (i - i') < i) == decide (0 < i'))) = false := by assumption
       have h2 := HB.out
       unfold badMinus at h2
       rw [h1] at h2
       cases h2)
    | ((refine bodyPost_ret (v := .agg #[.int .i64 0, .int .i64 0, .string ⟨#[]⟩]) ?_ rfl ⟨rfl, ?_⟩; (· (simp [results, Tryz.results115, go_sem, *]; done)))
       repeat (first | (with_reducible exact Below.refl _ _) | ((with_reducible refine cSet3 ?_ ?_ _ _ _); (· ((try simp) <;> omega))) | (with_reducible refine Below.drew ?_) | ((with_reducible refine cAlloc ?_ ?_ _); (· ((try simp) <;> omega))) | ((with_reducible refine cOn (by assumption) ?_ ?_); (· ((try simp) <;> omega)))))

set_option maxRecDepth 100000 in
set_option maxHeartbeats 800000 in
theorem minus_yes (k i : Int) (s : ByteArray) (k' i' : Int) (s' : ByteArray) (w : World) (ha : numsB k i s k' i' s' = true) (hb : badMinus i i' = false) :
    Calls Tryz.prog 115 #[.agg #[.int .i64 k, .int .i64 i, .string s], .agg #[.int .i64 k', .int .i64 i', .string s']] w fun e w' => e = .returned (.agg #[.int .i64 1, .int .i64 (wrap64 (i - i')), .string ⟨#[]⟩]) ∧ Below w.heap.size w w' := by
  have H := Lib.hid ha
  have HB := Lib.hid hb
  clear ha hb
  go_enter Tryz.func115, Tryz.ntmps115
  go_wp2_with (first
    | (go_at_call 149; refine ((numbers_any _ _ _ _ _ _ _).mono (fun _ _ h => (H.out ▸ h : _ = Ending.returned (.bool true) ∧ _))).mono ?_; rintro e w1 ⟨rfl, hb1⟩; have hc1 := (bcell hb1).1; have hf1 := (bcell hb1).2; have hy1 := hb1.size; (try simp at hy1); have hz1_0 : w.heap.size < w1.heap.size := (by omega); have hz1_1 : w.heap.size + 1 < w1.heap.size := (by omega); have hz1_2 : w.heap.size + 1 + 1 < w1.heap.size := (by omega)))
  all_goals first
    | (exfalso
       have h1 : (!(decide (wrap64 (i - i') < i) == decide (0 < i'))) = true := by assumption
       have h2 := HB.out
       unfold badMinus at h2
       rw [h1] at h2
       cases h2)
    | ((refine bodyPost_ret (v := .agg #[.int .i64 1, .int .i64 (wrap64 (i - i')), .string ⟨#[]⟩]) ?_ rfl ⟨rfl, ?_⟩; (· (simp [results, Tryz.results115, go_sem, *]; done)))
       repeat (first | (with_reducible exact Below.refl _ _) | ((with_reducible refine cSet3 ?_ ?_ _ _ _); (· ((try simp) <;> omega))) | (with_reducible refine Below.drew ?_) | ((with_reducible refine cAlloc ?_ ?_ _); (· ((try simp) <;> omega))) | ((with_reducible refine cOn (by assumption) ?_ ?_); (· ((try simp) <;> omega)))))

set_option maxRecDepth 100000 in
set_option maxHeartbeats 800000 in
theorem isNull_any (k i : Int) (s : ByteArray) (w : World) :
    Calls Tryz.prog 108 #[.agg #[.int .i64 k, .int .i64 i, .string s]] w fun e w' => e = .returned (.agg #[.int .i64 3, .int .i64 (b2i ((hK k i s) == 0)), .string ⟨#[]⟩]) ∧ Below w.heap.size w w' := by
  have hfl := fld0
  go_enter Tryz.func108, Tryz.ntmps108
  go_wp2_with (first
    | (go_at_call 98; refine (held_any _ _ _ _).mono ?_; rintro e w1 ⟨rfl, hb1⟩; have hc1 := (bcell hb1).1; have hf1 := (bcell hb1).2; have hy1 := hb1.size; (try simp at hy1); have hz1_0 : w.heap.size < w1.heap.size := (by omega); have hz1_1 : w.heap.size + 1 < w1.heap.size := (by omega))
    | (go_at_call 146; refine (truth_any _ _).mono ?_; rintro e w1 ⟨rfl, hb1⟩; have hc1 := (bcell hb1).1; have hf1 := (bcell hb1).2; have hy1 := hb1.size; (try simp at hy1); have hz1_0 : w.heap.size < w1.heap.size := (by omega); have hz1_1 : w.heap.size + 1 < w1.heap.size := (by omega)))
  (refine bodyPost_ret (v := .agg #[.int .i64 3, .int .i64 (b2i ((hK k i s) == 0)), .string ⟨#[]⟩]) ?_ rfl ⟨rfl, ?_⟩; (· (simp [results, Tryz.results108, go_sem, *]; done)))
  repeat (first | (with_reducible exact Below.refl _ _) | ((with_reducible refine cSet3 ?_ ?_ _ _ _); (· ((try simp) <;> omega))) | (with_reducible refine Below.drew ?_) | ((with_reducible refine cAlloc ?_ ?_ _); (· ((try simp) <;> omega))) | ((with_reducible refine cOn (by assumption) ?_ ?_); (· ((try simp) <;> omega))))

end Go.Proofs.YtmhkmliebhbkdaaGreat

/- The chapter's examples (awake), and Few. -/
namespace Go.Proofs.YtmhkmliebhbkdaaGreat
open Go.RowKit Go.Lib

def fewS (s : ByteArray) : ByteArray := if 60 < s.size then s.extract 0 60 else s
set_option maxRecDepth 100000 in
set_option maxHeartbeats 800000 in
theorem few_any (k i : Int) (s : ByteArray) (w : World) (hs : s.size ≤ maxLen) :
    Calls Tryz.prog 49 #[.agg #[.int .i64 k, .int .i64 i, .string s]] w fun e w' => e = .returned (.agg #[.int .i64 k, .int .i64 i, .string (fewS s)]) ∧ Below w.heap.size w w' := by
  unfold maxLen at hs
  go_enter Tryz.func49, Tryz.ntmps49
  go_wp2
  · have e : fewS s = s.extract 0 60 := if_pos (by omega)
    rw [e]
    (refine bodyPost_ret (v := .agg #[.int .i64 k, .int .i64 i, .string (s.extract 0 60)]) ?_ rfl ⟨rfl, ?_⟩; (· (simp [results, Tryz.results49, go_sem]; done)))
    repeat (first | (with_reducible exact Below.refl _ _) | ((with_reducible refine cSet3 ?_ ?_ _ _ _); (· ((try simp) <;> omega))) | (with_reducible refine Below.drew ?_) | ((with_reducible refine cAlloc ?_ ?_ _); (· ((try simp) <;> omega))) | ((with_reducible refine cOn (by assumption) ?_ ?_); (· ((try simp) <;> omega))))
  · have e : fewS s = s := if_neg (by omega)
    rw [e]
    (refine bodyPost_ret (v := .agg #[.int .i64 k, .int .i64 i, .string s]) ?_ rfl ⟨rfl, ?_⟩; (· (simp [results, Tryz.results49, go_sem]; done)))
    repeat (first | (with_reducible exact Below.refl _ _) | ((with_reducible refine cSet3 ?_ ?_ _ _ _); (· ((try simp) <;> omega))) | (with_reducible refine Below.drew ?_) | ((with_reducible refine cAlloc ?_ ?_ _); (· ((try simp) <;> omega))) | ((with_reducible refine cOn (by assumption) ?_ ?_); (· ((try simp) <;> omega))))

end Go.Proofs.YtmhkmliebhbkdaaGreat

/- Boxes that hold values, however many; what the laws' walks carry from region to region. -/
namespace Go.Proofs.YtmhkmliebhbkdaaGreat
open Go.RowKit Go.Lib

/-- Block b holds this value. -/
structure At3 (W : World) (b : Nat) (k i : Int) (s : ByteArray) : Prop where
  k : W.cell? ⟨b, 0, none⟩ = some (.int .i64 k)
  i : W.cell? ⟨b, 1, none⟩ = some (.int .i64 i)
  s : W.cell? ⟨b, 2, none⟩ = some (.string s)

theorem At3.lt {W : World} {b : Nat} {k i : Int} {s : ByteArray} (h : At3 W b k i s) : b < W.heap.size := World.block_lt_of_cell? W _ h.k
theorem At3.later {W W' : World} {b : Nat} {k i : Int} {s : ByteArray} (h : At3 W b k i s) (hb : Below W.heap.size W W') : At3 W' b k i s :=
  ⟨(hb.cell (p := ⟨b, _, none⟩) h.lt).trans h.k, (hb.cell (p := ⟨b, _, none⟩) h.lt).trans h.i, (hb.cell (p := ⟨b, _, none⟩) h.lt).trans h.s⟩
theorem At3.drew {W : World} {b : Nat} {k i : Int} {s : ByteArray} (h : At3 W b k i s) : At3 W.drew b k i s := ⟨h.k, h.i, h.s⟩
theorem At3.alloc {W : World} {b : Nat} {k i : Int} {s : ByteArray} (h : At3 W b k i s) (o : Obj) : At3 (W.alloc o) b k i s := h.later ((Below.refl _ _).alloc (Nat.le_refl _) o)
theorem At3.new {W : World} {b : Nat} {k i : Int} {s : ByteArray} {t : TypeId} (hb : b = W.heap.size) : At3 (W.alloc (.cells #[.int .i64 k, .int .i64 i, .string s] t)) b k i s := by
  subst hb
  exact ⟨by simp [go_sem], by simp [go_sem], by simp [go_sem]⟩
theorem At3.set_same {W : World} {b : Nat} {k i : Int} {s : ByteArray} (h : At3 W b k i s) (K I : Int) (S : ByteArray) :
    At3 (((W.setCell ⟨b, 0, none⟩ (.int .i64 K)).setCell ⟨b, 1, none⟩ (.int .i64 I)).setCell ⟨b, 2, none⟩ (.string S)) b K I S := by
  have h1 := h.k
  have h2 := h.i
  have h3 := h.s
  exact ⟨by simp [go_sem, *], by simp [go_sem, *], by simp [go_sem, *]⟩
/-- Block b holds some value. -/
def Box (W : World) (b : Nat) : Prop := ∃ k i s, At3 W b k i s
theorem Box.of {W : World} {b : Nat} {k i : Int} {s : ByteArray} (h : At3 W b k i s) : Box W b := ⟨_, _, _, h⟩
theorem Box.drew {W : World} {b : Nat} (h : Box W b) : Box W.drew b := by obtain ⟨_, _, _, h⟩ := h; exact .of h.drew
theorem Box.alloc {W : World} {b : Nat} (h : Box W b) (o : Obj) : Box (W.alloc o) b := by obtain ⟨_, _, _, h⟩ := h; exact .of (h.alloc o)
theorem Box.set {W : World} {b : Nat} (h : Box W b) (K I : Int) (S : ByteArray) : At3 (((W.setCell ⟨b, 0, none⟩ (.int .i64 K)).setCell ⟨b, 1, none⟩ (.int .i64 I)).setCell ⟨b, 2, none⟩ (.string S)) b K I S := by
  obtain ⟨_, _, _, h⟩ := h; exact h.set_same K I S
end Go.Proofs.YtmhkmliebhbkdaaGreat

/- What is known of the order of values, with no walk. -/
namespace Go.Proofs.YtmhkmliebhbkdaaGreat
open Go.RowKit Go.Lib

theorem cmpInt_bd (x y : Int) : -1 ≤ Lib.compareInt x y ∧ Lib.compareInt x y ≤ 1 := by unfold Lib.compareInt; split <;> (try split) <;> omega
theorem cmpBytes_bd : ∀ (a b : List UInt8), -1 ≤ Lib.compareBytes a b ∧ Lib.compareBytes a b ≤ 1
  | [], [] => by simp [Lib.compareBytes]
  | [], _ :: _ => by simp [Lib.compareBytes]
  | _ :: _, [] => by simp [Lib.compareBytes]
  | x :: a, y :: b => by
    simp only [Lib.compareBytes]
    split
    · omega
    · split
      · omega
      · exact cmpBytes_bd a b
end Go.Proofs.YtmhkmliebhbkdaaGreat

/- The order of values goes on from one to the next; the same are equal. No walk. -/
namespace Go.Proofs.YtmhkmliebhbkdaaGreat
open Go.RowKit Go.Lib

theorem cmpInt_zero (a b : Int) : Lib.compareInt a b = 0 ↔ a = b := by unfold Lib.compareInt; repeat' split <;> omega
theorem cmpBytes_zero : ∀ (a b : List UInt8), Lib.compareBytes a b = 0 ↔ a = b
  | [], [] => by simp [Lib.compareBytes]
  | [], _ :: _ => by simp [Lib.compareBytes]
  | _ :: _, [] => by simp [Lib.compareBytes]
  | x :: a, y :: b => by
    simp only [Lib.compareBytes, List.cons.injEq]
    by_cases e1 : x < y
    · have : x ≠ y := fun h => by subst h; exact absurd e1 (UInt8.lt_irrefl _)
      simp [e1, this]
    · by_cases e2 : y < x
      · have : x ≠ y := fun h => by subst h; exact absurd e2 (UInt8.lt_irrefl _)
        simp [e1, e2, this]
      · have : x = y := by rw [UInt8.lt_iff_toNat_lt] at e1 e2; exact UInt8.toNat_inj.1 (by omega)
        rw [if_neg e1, if_neg e2, cmpBytes_zero a b]
        simp [this]
theorem or3_zero (x y z : Int) : or3 x y z = 0 ↔ x = 0 ∧ y = 0 ∧ z = 0 := by
  unfold or3
  by_cases h1 : x = 0 <;> by_cases h2 : y = 0 <;> simp [h1, h2]
theorem ordH_zero (k i : Int) (s : ByteArray) (k' i' : Int) (s' : ByteArray) : ordH k i s k' i' s' = 0 ↔ k = k' ∧ i = i' ∧ s = s' := by
  unfold ordH
  rw [or3_zero, cmpInt_zero, cmpInt_zero, cmpBytes_zero]
  constructor
  · rintro ⟨h1, h2, h3⟩
    exact ⟨h1, h2, ByteArray.ext (Array.toList_inj.1 h3)⟩
  · rintro ⟨h1, h2, h3⟩
    exact ⟨h1, h2, by rw [h3]⟩
theorem ord_zero (k i : Int) (s : ByteArray) (k' i' : Int) (s' : ByteArray) (h : mayB k i s = true) (h' : mayB k' i' s' = true) : ordN k i s k' i' s' = 0 ↔ k = k' ∧ i = i' ∧ s = s' := by
  unfold ordN hK hI hS
  rw [if_pos h, if_pos h, if_pos h, if_pos h', if_pos h', if_pos h', ordH_zero]
end Go.Proofs.YtmhkmliebhbkdaaGreat

/- Sums and differences of 64 bits: what is known of them with no walk. -/
namespace Go.Proofs.YtmhkmliebhbkdaaGreat
open Go.RowKit Go.Lib

def In64 (a : Int) : Prop := -9223372036854775808 ≤ a ∧ a ≤ 9223372036854775807
theorem wrap_in {n : Int} (h : In64 n) : wrap64 n = n := IntWalk.wrap64_in n ⟨h.1, h.2⟩
theorem in64_of_wf {a : Int} (h : (Lit.int .i64 a).wf = true) : In64 a := by
  simp only [Lit.wf, IntKind.min, IntKind.max, IntKind.signed, IntKind.bits, Bool.and_eq_true, decide_eq_true_eq, if_true] at h
  unfold In64; omega

end Go.Proofs.YtmhkmliebhbkdaaGreat

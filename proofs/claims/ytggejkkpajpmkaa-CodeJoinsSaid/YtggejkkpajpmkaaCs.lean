import Derived.Test.YtggejkkpajpmkaaCr
/- The law CodeRows. -/
namespace Go.Proofs.Ytggejkkpajpmkaa
open Go.RowKit Go.Lib

/-- A region's operation has made these values a row of its own. -/
def OwnR (base : Nat) (L : List Vl) : Value → List Nat → World → Prop := fun u _ w => w.ownsRow base 24 3 u L.length (cellsOf L)
theorem ownR_lasting (base : Nat) (L : List Vl) : ∀ u F, Lasting (OwnR base L u F) := fun _ _ _ _ hb h => own_below h hb (Nat.le_refl _)
theorem own_mono {W : World} {B B' : Nat} {v : Value} {n : Nat} {xs : List Value} (h : W.ownsRow B 24 3 v n xs) (hB : B' ≤ B) : W.ownsRow B' 24 3 v n xs :=
  ⟨h.1, h.2.imp id fun ⟨g, cap, cur, h1, h2, h3⟩ => ⟨g, cap, cur, h1, Nat.le_trans hB h2, h3⟩⟩
theorem own_set {W : World} {B b o : Nat} {v u : Value} {n : Nat} {xs : List Value} (h : W.ownsRow B 24 3 v n xs) (hb : b < B) : (W.setCell ⟨b, o, none⟩ u).ownsRow B 24 3 v n xs :=
  World.ownsRow.kept (row := some b) h ⟨rfl, rfl, rfl, by simp [World.setCell], fun q _ hq => Below.heap_setCell _ _ _ _ (fun e => hq (by simp [e]))⟩ (by
    cases hv : v.ownBlock with
    | none => exact .inl rfl
    | some q => exact .inr fun e => by injection e with e; have := (World.ownsRow.lt h q hv).1; omega)

theorem fewS_len (s : ByteArray) : (fewS s).size ≤ maxLen := by have := fewS_size s; unfold maxLen; omega
set_option maxRecDepth 100000 in
set_option maxHeartbeats 2000000 in
theorem rows_f (A : Option Addr) (n cap : Nat) (l : List Vl) (k i : Int) (s : ByteArray) (w : World) (h : Inp w A n l) (hi : In64 i) (hs : s.size ≤ maxLen) (h1 : rowOk (fewL l) = false) :
    Calls Try.prog 3 #[.slice A n cap, .agg #[.int .i64 k, .int .i64 i, .string s]] w fun e w' => e = .returned (.bool true) ∧ Below w.heap.size w w' := by
  have H := Lib.hid h
  have HX := Lib.hid (And.intro hi hs)
  have HROW := Lib.hid (show ∀ (A1 : Option Addr) (c1 : Nat) (W : World), Vals W W.heap.size A1 (fewL l).length (fewL l) → Calls Try.prog 10 #[.slice A1 (fewL l).length c1] W fun e w' => e = .returned (.tuple #[.string (rowS (fewL l)), .int .i64 1]) ∧ Below W.heap.size W w' from fun A1 c1 W hv => by
    have h := row_any A1 (fewL l).length c1 (fewL l) W (by have := few_len l; omega) hv (few_i64 H.out.i64)
    rw [rowE_f h1] at h
    exact h)
  have HRROW := Lib.hid (show ∀ (A1 : Option Addr) (c1 : Nat) (W : World), Vals W W.heap.size A1 (fewL l).length (fewL l) → Calls Try.prog 11 #[.slice A1 (fewL l).length c1] W fun e w' => e = .returned (.tuple #[.string (rowS (fewL l)), .bool false]) ∧ Below W.heap.size W w' from fun A1 c1 W hv => by
    have h := rrow_any A1 (fewL l).length c1 (fewL l) W (by have := few_len l; omega) hv (few_i64 H.out.i64) (few_short l)
    rw [h1] at h
    exact h)
  have HREAD := Lib.hid (fun W => read_row [] (rowS (fewL l)) W (by rw [rowS_f h1]; rfl) (by simp) (fun x hx => by cases hx) (fun x hx => by cases hx))
  clear h h1 hi hs
  go_enter Try.func3, Try.ntmps3
  go_wp2
  refine detL_begin [.val (.slice A n cap), .rel (OwnR (w.heap.size + 1) (fewL l)), .val (.agg #[.int .i64 k, .int .i64 i, .string s]), .val (.agg #[.int .i64 k, .int .i64 i, .string (fewS s)])] 4 (by kernel_rfl) ?_
  refine detL_val (by kernel_rfl) (yields_of rfl fun w1 hb1 => ?_) ?_
  · clear hb1
    go_simp
    exact Det1_same
  simp only [Act.put, List.setIfInBounds_toArray, List.set_cons_zero, List.set_cons_succ]
  refine detL_rel (by kernel_rfl) (yields_rel (by rfl) (ownR_lasting _ _) fun w1 hw1 => ?_) ?_
  · have hb1 := hw1.below
    have hv1 := Lib.hid ((H.out.vals.keep ((((Below.refl w.heap.size w).alloc (Nat.le_refl _) _).drew).trans (hb1.mono (by simp)))).more (show w.heap.size ≤ w1.heap.size by have := hb1.size; simp at this; omega))
    have hsz := hb1.size
    (try simp at hsz)
    clear hw1 hb1
    go_simp
    exact (few2_any A n cap l w1 H.out.len hv1.out H.out.short).mono fun e w2 ⟨v, h1, h2, h3⟩ => ⟨v, [], h1, own_mono h2 hsz, (by simp), h3⟩
  rintro v F w1 hw1
  clear hw1
  simp only [Act.put, List.setIfInBounds_toArray, List.set_cons_zero, List.set_cons_succ]
  refine detL_val (by kernel_rfl) (yields_of rfl fun w1 hb1 => ?_) ?_
  · have hc1 := bcellD hb1
    clear hb1
    go_simp
    exact Det1_same
  simp only [Act.put, List.setIfInBounds_toArray, List.set_cons_zero, List.set_cons_succ]
  refine detL_val (by kernel_rfl) (yields_of rfl fun w1 hb1 => ?_) ?_
  · clear hb1
    go_simp
    exact Det1_enter (few_any _ _ _ _ HX.out.2)
  simp only [Act.put, List.setIfInBounds_toArray, List.set_cons_zero, List.set_cons_succ]
  refine detL_tail rfl (by kernel_rfl) fun w1 hw1 => ?_
  have ho : w1.ownsRow (w.heap.size + 1) 24 3 v (fewL l).length (cellsOf (fewL l)) := (hw1.ents _ List.mem_cons_self).1
  have hb1 := hw1.below
  clear hw1
  have hc1 := (bcell hb1).1
  have hf1 := (bcell hb1).2
  have hy1 := hb1.size
  (try simp at hy1)
  have hz1_0 : w.heap.size < w1.heap.size := by omega
  have a0 : At3 w1 w.heap.size k i s := At3.later (by repeat (first | (with_reducible assumption) | (with_reducible exact Box.of (by assumption)) | ((with_reducible refine At3.new ?_); simp) | (with_reducible refine At3.drew ?_) | (with_reducible refine At3.alloc ?_ _) | (with_reducible refine Box.drew ?_) | (with_reducible refine Box.alloc ?_ _) | (with_reducible refine Box.set ?_ _ _ _) | ((with_reducible refine At3.set_other' ?_ ?_ _ _ _); (· omega)) | ((with_reducible refine Box.set_other ?_ ?_ _ _ _); (· omega)))) hb1
  have HH := Lib.hid (And.intro a0 ho)
  clear a0 ho
  go_upto_region 2 with (fail)
  refine wp_gen (fun W => Below w.heap.size w W ∧ At3 W w.heap.size k i (fewS s) ∧ W.ownsRow (w.heap.size + 1) 24 3 v (fewL l).length (cellsOf (fewL l))) ⟨?_, ?_, ?_⟩ ?_
  · repeat (first | (with_reducible exact Below.refl _ _) | ((with_reducible refine cSet3 ?_ ?_ _ _ _); (· ((try simp) <;> omega))) | (with_reducible refine Below.drew ?_) | ((with_reducible refine cAlloc ?_ ?_ _); (· ((try simp) <;> omega))) | ((with_reducible refine cOn (by assumption) ?_ ?_); (· ((try simp) <;> omega))))
  · have a0 := HH.out.1
    repeat (first | (with_reducible assumption) | (with_reducible exact Box.of (by assumption)) | ((with_reducible refine At3.new ?_); simp) | (with_reducible refine At3.drew ?_) | (with_reducible refine At3.alloc ?_ _) | (with_reducible refine Box.drew ?_) | (with_reducible refine Box.alloc ?_ _) | (with_reducible refine Box.set ?_ _ _ _) | ((with_reducible refine At3.set_other' ?_ ?_ _ _ _); (· omega)) | ((with_reducible refine Box.set_other ?_ ?_ _ _ _); (· omega)))
  · exact own_set (own_set (own_set HH.out.2 (by omega)) (by omega)) (by omega)
  rintro W ⟨hB, A0, ho⟩
  clear hc1 hf1 hb1 hy1 hz1_0 HH
  obtain ⟨A1, c1, rfl, hv, -, -⟩ := Vals.of_own ho
  have HV := Lib.hid (And.intro hv (And.intro hB A0))
  have hl0 := A0.lt
  have hBs := hB.size
  clear hv ho hB A0
  go_upto_region 4 with (first
    | (go_at_call 10; refine (HROW.out A1 c1 _ HV.out.1).mono ?_; rintro e w2 ⟨rfl, hb2⟩; have HH2 := Lib.hid hb2; have hs2 := hb2.size; clear hb2)
    | (go_at_call 11; refine (HRROW.out A1 c1 _ ((HV.out.1.keep HH2.out).more hs2)).mono ?_; rintro e w3 ⟨rfl, hb3⟩; have HH3 := Lib.hid hb3; have hs3 := hb3.size; clear hb3))
  have A3 : At3 w3 w.heap.size k i (fewS s) := (HV.out.2.2.later HH2.out).later HH3.out
  have c0k := A3.k
  have c0i := A3.i
  have c0s := A3.s
  have l0 := A3.lt
  clear A3
  refine detL_begin [.val (.string (rowS (fewL l))), .val (.string (rowS (fewL l))), .val (.bool false), .val (.bool false), .val (.int .i64 1), .val (.bool false), .val (.bool false), .val (.bool false), .val (.bool false), .val (.bool false), .val (.bool false), .val (.bool true), .val (.bool true), .val (.int .i64 1), .val (.bool false), .val (.bool false), .val (.bool false), .val (.bool false), .val (.agg #[.int .i64 k, .int .i64 i, .string (fewS s)]), .val (.string ⟨(valO k i (fewS s)).toArray⟩), .val (.agg #[.int .i64 k, .int .i64 i, .string (fewS s)]), .val (.string ⟨(valO k i (fewS s)).toArray⟩), .val (.bool false), .val (.bool false)] 24 (by kernel_rfl) ?_
  refine detL_val (by kernel_rfl) (yields_of rfl fun w1 hb1 => ?_) ?_
  · have hc1 := bcellD hb1
    clear hb1
    go_simp
    exact Det1_same
  simp only [Act.put, List.setIfInBounds_toArray, List.set_cons_zero, List.set_cons_succ]
  refine detL_val (by kernel_rfl) (yields_of rfl fun w1 hb1 => ?_) ?_
  · have hc1 := bcellD hb1
    clear hb1
    go_simp
    exact Det1_same
  simp only [Act.put, List.setIfInBounds_toArray, List.set_cons_zero, List.set_cons_succ]
  refine detL_val (by kernel_rfl) (yields_of rfl fun w1 hb1 => ?_) ?_
  · have hc1 := bcellD hb1
    clear hb1
    go_simp
    exact Det1_same
  simp only [Act.put, List.setIfInBounds_toArray, List.set_cons_zero, List.set_cons_succ]
  refine detL_val (by kernel_rfl) (yields_of rfl fun w1 hb1 => ?_) ?_
  · have hc1 := bcellD hb1
    clear hb1
    go_simp
    exact Det1_same
  simp only [Act.put, List.setIfInBounds_toArray, List.set_cons_zero, List.set_cons_succ]
  refine detL_val (by kernel_rfl) (yields_of rfl fun w1 hb1 => ?_) ?_
  · have hc1 := bcellD hb1
    clear hb1
    go_simp
    exact Det1_same
  simp only [Act.put, List.setIfInBounds_toArray, List.set_cons_zero, List.set_cons_succ]
  refine detL_val (by kernel_rfl) (yields_of rfl fun w1 hb1 => ?_) ?_
  · have hc1 := bcellD hb1
    clear hb1
    go_simp
    exact Det1_same
  simp only [Act.put, List.setIfInBounds_toArray, List.set_cons_zero, List.set_cons_succ]
  refine detL_val (by kernel_rfl) (yields_of rfl fun w1 hb1 => ?_) ?_
  · have hc1 := bcellD hb1
    clear hb1
    go_simp
    exact Det1_same
  simp only [Act.put, List.setIfInBounds_toArray, List.set_cons_zero, List.set_cons_succ]
  refine detL_val (by kernel_rfl) (yields_of rfl fun w1 hb1 => ?_) ?_
  · have hc1 := bcellD hb1
    clear hb1
    go_simp
    exact Det1_same
  simp only [Act.put, List.setIfInBounds_toArray, List.set_cons_zero, List.set_cons_succ]
  refine detL_val (by kernel_rfl) (yields_of rfl fun w1 hb1 => ?_) ?_
  · have hc1 := bcellD hb1
    clear hb1
    go_simp
    exact Det1_same
  simp only [Act.put, List.setIfInBounds_toArray, List.set_cons_zero, List.set_cons_succ]
  refine detL_val (by kernel_rfl) (yields_of rfl fun w1 hb1 => ?_) ?_
  · have hc1 := bcellD hb1
    clear hb1
    go_simp
    exact Det1_same
  simp only [Act.put, List.setIfInBounds_toArray, List.set_cons_zero, List.set_cons_succ]
  refine detL_val (by kernel_rfl) (yields_of rfl fun w1 hb1 => ?_) ?_
  · have hc1 := bcellD hb1
    clear hb1
    go_simp
    exact Det1_same
  simp only [Act.put, List.setIfInBounds_toArray, List.set_cons_zero, List.set_cons_succ]
  refine detL_val (by kernel_rfl) (yields_of rfl fun w1 hb1 => ?_) ?_
  · have hc1 := bcellD hb1
    clear hb1
    go_simp
    exact Det1_same
  simp only [Act.put, List.setIfInBounds_toArray, List.set_cons_zero, List.set_cons_succ]
  refine detL_val (by kernel_rfl) (yields_of rfl fun w1 hb1 => ?_) ?_
  · have hc1 := bcellD hb1
    clear hb1
    go_simp
    exact Det1_same
  simp only [Act.put, List.setIfInBounds_toArray, List.set_cons_zero, List.set_cons_succ]
  refine detL_val (by kernel_rfl) (yields_of rfl fun w1 hb1 => ?_) ?_
  · have hc1 := bcellD hb1
    clear hb1
    go_simp
    exact Det1_same
  simp only [Act.put, List.setIfInBounds_toArray, List.set_cons_zero, List.set_cons_succ]
  refine detL_val (by kernel_rfl) (yields_of rfl fun w1 hb1 => ?_) ?_
  · have hc1 := bcellD hb1
    clear hb1
    go_simp
    exact Det1_same
  simp only [Act.put, List.setIfInBounds_toArray, List.set_cons_zero, List.set_cons_succ]
  refine detL_val (by kernel_rfl) (yields_of rfl fun w1 hb1 => ?_) ?_
  · have hc1 := bcellD hb1
    clear hb1
    go_simp
    exact Det1_same
  simp only [Act.put, List.setIfInBounds_toArray, List.set_cons_zero, List.set_cons_succ]
  refine detL_val (by kernel_rfl) (yields_of rfl fun w1 hb1 => ?_) ?_
  · have hc1 := bcellD hb1
    clear hb1
    go_simp
    exact Det1_same
  simp only [Act.put, List.setIfInBounds_toArray, List.set_cons_zero, List.set_cons_succ]
  refine detL_val (by kernel_rfl) (yields_of rfl fun w1 hb1 => ?_) ?_
  · have hc1 := bcellD hb1
    clear hb1
    go_simp
    exact Det1_same
  simp only [Act.put, List.setIfInBounds_toArray, List.set_cons_zero, List.set_cons_succ]
  refine detL_val (by kernel_rfl) (yields_of rfl fun w1 hb1 => ?_) ?_
  · have hc1 := bcellD hb1
    clear hb1
    go_simp
    exact Det1_same
  simp only [Act.put, List.setIfInBounds_toArray, List.set_cons_zero, List.set_cons_succ]
  refine detL_val (by kernel_rfl) (yields_of rfl fun w1 hb1 => ?_) ?_
  · have hc1 := bcellD hb1
    clear hb1
    go_simp
    exact Det1_enter (value_any _ _ _ _ HX.out.1)
  simp only [Act.put, List.setIfInBounds_toArray, List.set_cons_zero, List.set_cons_succ]
  refine detL_val (by kernel_rfl) (yields_of rfl fun w1 hb1 => ?_) ?_
  · have hc1 := bcellD hb1
    clear hb1
    go_simp
    exact Det1_same
  simp only [Act.put, List.setIfInBounds_toArray, List.set_cons_zero, List.set_cons_succ]
  refine detL_val (by kernel_rfl) (yields_of rfl fun w1 hb1 => ?_) ?_
  · have hc1 := bcellD hb1
    clear hb1
    go_simp
    exact Det1_enter (rvalue_any _ _ _ _ HX.out.1 (fewS_len _))
  simp only [Act.put, List.setIfInBounds_toArray, List.set_cons_zero, List.set_cons_succ]
  refine detL_val (by kernel_rfl) (yields_of rfl fun w1 hb1 => ?_) ?_
  · have hc1 := bcellD hb1
    clear hb1
    go_simp
    exact Det1_same
  simp only [Act.put, List.setIfInBounds_toArray, List.set_cons_zero, List.set_cons_succ]
  refine detL_val (by kernel_rfl) (yields_of rfl fun w1 hb1 => ?_) ?_
  · have hc1 := bcellD hb1
    clear hb1
    go_simp
    exact Det1_same
  simp only [Act.put, List.setIfInBounds_toArray, List.set_cons_zero, List.set_cons_succ]
  refine detL_done (by kernel_rfl) fun w4 hw4 => ?_
  have HH4 := Lib.hid hw4.below
  have hs4 : w3.heap.size ≤ w4.heap.size := hw4.below.size
  clear hw4 c0k c0i c0s l0
  go_wp2_with (first
    | (go_at_call 14; refine (HREAD.out _).mono ?_; rintro e w5 ⟨v5, rfl, ho5, hb5⟩; obtain ⟨A5, c5, rfl, hv5, hc5, hc6⟩ := Vals.of_own ho5; have HH5 := Lib.hid (And.intro hv5 hb5); have hs5 := hb5.size; clear hv5 hb5 ho5)
    | (go_at_call 16; refine (awake2_any _).mono ?_; rintro e w6 ⟨rfl, hb6⟩))
  go_ret
  refine ⟨rfl, ?_⟩
  exact (((((HV.out.2.1.trans (HH2.out.mono (by omega))).trans (HH3.out.mono (by omega))).drew.trans (HH4.out.mono (by simp; omega))).trans (HH5.out.2.mono (by omega)))).trans (hb6.mono (by omega))

set_option maxRecDepth 100000 in
set_option maxHeartbeats 2000000 in
theorem rows_t (A : Option Addr) (n cap : Nat) (l : List Vl) (k i : Int) (s : ByteArray) (w : World) (h : Inp w A n l) (hi : In64 i) (hs : s.size ≤ maxLen) (h1 : rowOk (fewL l) = true) :
    Calls Try.prog 3 #[.slice A n cap, .agg #[.int .i64 k, .int .i64 i, .string s]] w fun e w' => e = .returned (.bool true) ∧ Below w.heap.size w w' := by
  have H := Lib.hid h
  have HX := Lib.hid (And.intro hi hs)
  have HROW := Lib.hid (show ∀ (A1 : Option Addr) (c1 : Nat) (W : World), Vals W W.heap.size A1 (fewL l).length (fewL l) → Calls Try.prog 10 #[.slice A1 (fewL l).length c1] W fun e w' => e = .returned (.tuple #[.string (rowS (fewL l)), .int .i64 0]) ∧ Below W.heap.size W w' from fun A1 c1 W hv => by
    have h := row_any A1 (fewL l).length c1 (fewL l) W (by have := few_len l; omega) hv (few_i64 H.out.i64)
    rw [rowE_t h1] at h
    exact h)
  have HRROW := Lib.hid (show ∀ (A1 : Option Addr) (c1 : Nat) (W : World), Vals W W.heap.size A1 (fewL l).length (fewL l) → Calls Try.prog 11 #[.slice A1 (fewL l).length c1] W fun e w' => e = .returned (.tuple #[.string (rowS (fewL l)), .bool true]) ∧ Below W.heap.size W w' from fun A1 c1 W hv => by
    have h := rrow_any A1 (fewL l).length c1 (fewL l) W (by have := few_len l; omega) hv (few_i64 H.out.i64) (few_short l)
    rw [h1] at h
    exact h)
  have HREAD := Lib.hid (fun W => read_row (fewL l) (rowS (fewL l)) W (by rw [← toList_data, rowS_t h1]) (rowOk_may h1).1 (rowOk_may h1).2 (few_i64 H.out.i64))
  clear h h1 hi hs
  go_enter Try.func3, Try.ntmps3
  go_wp2
  refine detL_begin [.val (.slice A n cap), .rel (OwnR (w.heap.size + 1) (fewL l)), .val (.agg #[.int .i64 k, .int .i64 i, .string s]), .val (.agg #[.int .i64 k, .int .i64 i, .string (fewS s)])] 4 (by kernel_rfl) ?_
  refine detL_val (by kernel_rfl) (yields_of rfl fun w1 hb1 => ?_) ?_
  · clear hb1
    go_simp
    exact Det1_same
  simp only [Act.put, List.setIfInBounds_toArray, List.set_cons_zero, List.set_cons_succ]
  refine detL_rel (by kernel_rfl) (yields_rel (by rfl) (ownR_lasting _ _) fun w1 hw1 => ?_) ?_
  · have hb1 := hw1.below
    have hv1 := Lib.hid ((H.out.vals.keep ((((Below.refl w.heap.size w).alloc (Nat.le_refl _) _).drew).trans (hb1.mono (by simp)))).more (show w.heap.size ≤ w1.heap.size by have := hb1.size; simp at this; omega))
    have hsz := hb1.size
    (try simp at hsz)
    clear hw1 hb1
    go_simp
    exact (few2_any A n cap l w1 H.out.len hv1.out H.out.short).mono fun e w2 ⟨v, h1, h2, h3⟩ => ⟨v, [], h1, own_mono h2 hsz, (by simp), h3⟩
  rintro v F w1 hw1
  clear hw1
  simp only [Act.put, List.setIfInBounds_toArray, List.set_cons_zero, List.set_cons_succ]
  refine detL_val (by kernel_rfl) (yields_of rfl fun w1 hb1 => ?_) ?_
  · have hc1 := bcellD hb1
    clear hb1
    go_simp
    exact Det1_same
  simp only [Act.put, List.setIfInBounds_toArray, List.set_cons_zero, List.set_cons_succ]
  refine detL_val (by kernel_rfl) (yields_of rfl fun w1 hb1 => ?_) ?_
  · clear hb1
    go_simp
    exact Det1_enter (few_any _ _ _ _ HX.out.2)
  simp only [Act.put, List.setIfInBounds_toArray, List.set_cons_zero, List.set_cons_succ]
  refine detL_tail rfl (by kernel_rfl) fun w1 hw1 => ?_
  have ho : w1.ownsRow (w.heap.size + 1) 24 3 v (fewL l).length (cellsOf (fewL l)) := (hw1.ents _ List.mem_cons_self).1
  have hb1 := hw1.below
  clear hw1
  have hc1 := (bcell hb1).1
  have hf1 := (bcell hb1).2
  have hy1 := hb1.size
  (try simp at hy1)
  have hz1_0 : w.heap.size < w1.heap.size := by omega
  have a0 : At3 w1 w.heap.size k i s := At3.later (by repeat (first | (with_reducible assumption) | (with_reducible exact Box.of (by assumption)) | ((with_reducible refine At3.new ?_); simp) | (with_reducible refine At3.drew ?_) | (with_reducible refine At3.alloc ?_ _) | (with_reducible refine Box.drew ?_) | (with_reducible refine Box.alloc ?_ _) | (with_reducible refine Box.set ?_ _ _ _) | ((with_reducible refine At3.set_other' ?_ ?_ _ _ _); (· omega)) | ((with_reducible refine Box.set_other ?_ ?_ _ _ _); (· omega)))) hb1
  have HH := Lib.hid (And.intro a0 ho)
  clear a0 ho
  go_upto_region 2 with (fail)
  refine wp_gen (fun W => Below w.heap.size w W ∧ At3 W w.heap.size k i (fewS s) ∧ W.ownsRow (w.heap.size + 1) 24 3 v (fewL l).length (cellsOf (fewL l))) ⟨?_, ?_, ?_⟩ ?_
  · repeat (first | (with_reducible exact Below.refl _ _) | ((with_reducible refine cSet3 ?_ ?_ _ _ _); (· ((try simp) <;> omega))) | (with_reducible refine Below.drew ?_) | ((with_reducible refine cAlloc ?_ ?_ _); (· ((try simp) <;> omega))) | ((with_reducible refine cOn (by assumption) ?_ ?_); (· ((try simp) <;> omega))))
  · have a0 := HH.out.1
    repeat (first | (with_reducible assumption) | (with_reducible exact Box.of (by assumption)) | ((with_reducible refine At3.new ?_); simp) | (with_reducible refine At3.drew ?_) | (with_reducible refine At3.alloc ?_ _) | (with_reducible refine Box.drew ?_) | (with_reducible refine Box.alloc ?_ _) | (with_reducible refine Box.set ?_ _ _ _) | ((with_reducible refine At3.set_other' ?_ ?_ _ _ _); (· omega)) | ((with_reducible refine Box.set_other ?_ ?_ _ _ _); (· omega)))
  · exact own_set (own_set (own_set HH.out.2 (by omega)) (by omega)) (by omega)
  rintro W ⟨hB, A0, ho⟩
  clear hc1 hf1 hb1 hy1 hz1_0 HH
  obtain ⟨A1, c1, rfl, hv, -, -⟩ := Vals.of_own ho
  have HV := Lib.hid (And.intro hv (And.intro hB A0))
  have hl0 := A0.lt
  have hBs := hB.size
  clear hv ho hB A0
  go_upto_region 4 with (first
    | (go_at_call 10; refine (HROW.out A1 c1 _ HV.out.1).mono ?_; rintro e w2 ⟨rfl, hb2⟩; have HH2 := Lib.hid hb2; have hs2 := hb2.size; clear hb2)
    | (go_at_call 11; refine (HRROW.out A1 c1 _ ((HV.out.1.keep HH2.out).more hs2)).mono ?_; rintro e w3 ⟨rfl, hb3⟩; have HH3 := Lib.hid hb3; have hs3 := hb3.size; clear hb3))
  have A3 : At3 w3 w.heap.size k i (fewS s) := (HV.out.2.2.later HH2.out).later HH3.out
  have c0k := A3.k
  have c0i := A3.i
  have c0s := A3.s
  have l0 := A3.lt
  clear A3
  refine detL_begin [.val (.string (rowS (fewL l))), .val (.string (rowS (fewL l))), .val (.bool false), .val (.bool false), .val (.int .i64 0), .val (.bool true), .val (.bool true), .val (.bool false), .val (.bool false), .val (.bool false), .val (.bool true), .val (.bool false), .val (.bool false), .val (undef), .val (undef), .val (.bool false), .val (.bool false), .val (.bool false), .val (.agg #[.int .i64 k, .int .i64 i, .string (fewS s)]), .val (.string ⟨(valO k i (fewS s)).toArray⟩), .val (.agg #[.int .i64 k, .int .i64 i, .string (fewS s)]), .val (.string ⟨(valO k i (fewS s)).toArray⟩), .val (.bool false), .val (.bool false)] 24 (by kernel_rfl) ?_
  refine detL_val (by kernel_rfl) (yields_of rfl fun w1 hb1 => ?_) ?_
  · have hc1 := bcellD hb1
    clear hb1
    go_simp
    exact Det1_same
  simp only [Act.put, List.setIfInBounds_toArray, List.set_cons_zero, List.set_cons_succ]
  refine detL_val (by kernel_rfl) (yields_of rfl fun w1 hb1 => ?_) ?_
  · have hc1 := bcellD hb1
    clear hb1
    go_simp
    exact Det1_same
  simp only [Act.put, List.setIfInBounds_toArray, List.set_cons_zero, List.set_cons_succ]
  refine detL_val (by kernel_rfl) (yields_of rfl fun w1 hb1 => ?_) ?_
  · have hc1 := bcellD hb1
    clear hb1
    go_simp
    exact Det1_same
  simp only [Act.put, List.setIfInBounds_toArray, List.set_cons_zero, List.set_cons_succ]
  refine detL_val (by kernel_rfl) (yields_of rfl fun w1 hb1 => ?_) ?_
  · have hc1 := bcellD hb1
    clear hb1
    go_simp
    exact Det1_same
  simp only [Act.put, List.setIfInBounds_toArray, List.set_cons_zero, List.set_cons_succ]
  refine detL_val (by kernel_rfl) (yields_of rfl fun w1 hb1 => ?_) ?_
  · have hc1 := bcellD hb1
    clear hb1
    go_simp
    exact Det1_same
  simp only [Act.put, List.setIfInBounds_toArray, List.set_cons_zero, List.set_cons_succ]
  refine detL_val (by kernel_rfl) (yields_of rfl fun w1 hb1 => ?_) ?_
  · have hc1 := bcellD hb1
    clear hb1
    go_simp
    exact Det1_same
  simp only [Act.put, List.setIfInBounds_toArray, List.set_cons_zero, List.set_cons_succ]
  refine detL_val (by kernel_rfl) (yields_of rfl fun w1 hb1 => ?_) ?_
  · have hc1 := bcellD hb1
    clear hb1
    go_simp
    exact Det1_same
  simp only [Act.put, List.setIfInBounds_toArray, List.set_cons_zero, List.set_cons_succ]
  refine detL_val (by kernel_rfl) (yields_of rfl fun w1 hb1 => ?_) ?_
  · have hc1 := bcellD hb1
    clear hb1
    go_simp
    exact Det1_same
  simp only [Act.put, List.setIfInBounds_toArray, List.set_cons_zero, List.set_cons_succ]
  refine detL_val (by kernel_rfl) (yields_of rfl fun w1 hb1 => ?_) ?_
  · have hc1 := bcellD hb1
    clear hb1
    go_simp
    exact Det1_same
  simp only [Act.put, List.setIfInBounds_toArray, List.set_cons_zero, List.set_cons_succ]
  refine detL_val (by kernel_rfl) (yields_of rfl fun w1 hb1 => ?_) ?_
  · have hc1 := bcellD hb1
    clear hb1
    go_simp
    exact Det1_same
  simp only [Act.put, List.setIfInBounds_toArray, List.set_cons_zero, List.set_cons_succ]
  refine detL_val (by kernel_rfl) (yields_of rfl fun w1 hb1 => ?_) ?_
  · have hc1 := bcellD hb1
    clear hb1
    go_simp
    exact Det1_same
  simp only [Act.put, List.setIfInBounds_toArray, List.set_cons_zero, List.set_cons_succ]
  refine detL_val (by kernel_rfl) (yields_of rfl fun w1 hb1 => ?_) ?_
  · have hc1 := bcellD hb1
    clear hb1
    go_simp
    exact Det1_same
  simp only [Act.put, List.setIfInBounds_toArray, List.set_cons_zero, List.set_cons_succ]
  refine detL_val (by kernel_rfl) (yields_of rfl fun w1 hb1 => ?_) ?_
  · have hc1 := bcellD hb1
    clear hb1
    go_simp
    exact Det1_same
  simp only [Act.put, List.setIfInBounds_toArray, List.set_cons_zero, List.set_cons_succ]
  refine detL_val (by kernel_rfl) (yields_not rfl) ?_
  simp only [Act.put, List.setIfInBounds_toArray, List.set_cons_zero, List.set_cons_succ]
  refine detL_val (by kernel_rfl) (yields_not rfl) ?_
  simp only [Act.put, List.setIfInBounds_toArray, List.set_cons_zero, List.set_cons_succ]
  refine detL_val (by kernel_rfl) (yields_of rfl fun w1 hb1 => ?_) ?_
  · have hc1 := bcellD hb1
    clear hb1
    go_simp
    exact Det1_same
  simp only [Act.put, List.setIfInBounds_toArray, List.set_cons_zero, List.set_cons_succ]
  refine detL_val (by kernel_rfl) (yields_of rfl fun w1 hb1 => ?_) ?_
  · have hc1 := bcellD hb1
    clear hb1
    go_simp
    exact Det1_same
  simp only [Act.put, List.setIfInBounds_toArray, List.set_cons_zero, List.set_cons_succ]
  refine detL_val (by kernel_rfl) (yields_of rfl fun w1 hb1 => ?_) ?_
  · have hc1 := bcellD hb1
    clear hb1
    go_simp
    exact Det1_same
  simp only [Act.put, List.setIfInBounds_toArray, List.set_cons_zero, List.set_cons_succ]
  refine detL_val (by kernel_rfl) (yields_of rfl fun w1 hb1 => ?_) ?_
  · have hc1 := bcellD hb1
    clear hb1
    go_simp
    exact Det1_same
  simp only [Act.put, List.setIfInBounds_toArray, List.set_cons_zero, List.set_cons_succ]
  refine detL_val (by kernel_rfl) (yields_of rfl fun w1 hb1 => ?_) ?_
  · have hc1 := bcellD hb1
    clear hb1
    go_simp
    exact Det1_enter (value_any _ _ _ _ HX.out.1)
  simp only [Act.put, List.setIfInBounds_toArray, List.set_cons_zero, List.set_cons_succ]
  refine detL_val (by kernel_rfl) (yields_of rfl fun w1 hb1 => ?_) ?_
  · have hc1 := bcellD hb1
    clear hb1
    go_simp
    exact Det1_same
  simp only [Act.put, List.setIfInBounds_toArray, List.set_cons_zero, List.set_cons_succ]
  refine detL_val (by kernel_rfl) (yields_of rfl fun w1 hb1 => ?_) ?_
  · have hc1 := bcellD hb1
    clear hb1
    go_simp
    exact Det1_enter (rvalue_any _ _ _ _ HX.out.1 (fewS_len _))
  simp only [Act.put, List.setIfInBounds_toArray, List.set_cons_zero, List.set_cons_succ]
  refine detL_val (by kernel_rfl) (yields_of rfl fun w1 hb1 => ?_) ?_
  · have hc1 := bcellD hb1
    clear hb1
    go_simp
    exact Det1_same
  simp only [Act.put, List.setIfInBounds_toArray, List.set_cons_zero, List.set_cons_succ]
  refine detL_val (by kernel_rfl) (yields_of rfl fun w1 hb1 => ?_) ?_
  · have hc1 := bcellD hb1
    clear hb1
    go_simp
    exact Det1_same
  simp only [Act.put, List.setIfInBounds_toArray, List.set_cons_zero, List.set_cons_succ]
  refine detL_done (by kernel_rfl) fun w4 hw4 => ?_
  have HH4 := Lib.hid hw4.below
  have hs4 : w3.heap.size ≤ w4.heap.size := hw4.below.size
  clear hw4 c0k c0i c0s l0
  go_wp2_with (first
    | (go_at_call 14; refine (HREAD.out _).mono ?_; rintro e w5 ⟨v5, rfl, ho5, hb5⟩; obtain ⟨A5, c5, rfl, hv5, hc5, hc6⟩ := Vals.of_own ho5; have HH5 := Lib.hid (And.intro hv5 hb5); have hs5 := hb5.size; clear hv5 hb5 ho5)
    | (go_at_call 15; refine ((same_any A5 (fewL l).length c5 (fewL l) A1 (fewL l).length c1 (fewL l) _ (by have := few_len l; omega) (by have := few_len l; omega) HH5.out.1 (((((((HV.out.1.keep HH2.out).more hs2).keep HH3.out).more hs3).keep (Below.drew (Below.refl _ _)) ).keep HH4.out |>.more hs4).keep HH5.out.2 |>.more hs5)).mono (fun _ _ h => ((show sameL (fewL l) (fewL l) = true from (sameL_iff _ _).2 rfl) ▸ h : _ = Ending.returned (.bool true) ∧ _))).mono ?_; rintro e w7 ⟨rfl, hb7⟩; have HH7 := Lib.hid hb7; have hs7 := hb7.size; clear hb7)
    | (go_at_call 16; refine (awake2_any _).mono ?_; rintro e w6 ⟨rfl, hb6⟩))
  go_ret
  refine ⟨rfl, ?_⟩
  exact (((((HV.out.2.1.trans (HH2.out.mono (by omega))).trans (HH3.out.mono (by omega))).drew.trans (HH4.out.mono (by simp; omega))).trans (HH5.out.2.mono (by omega))).trans (HH7.out.mono (by omega))).trans (hb6.mono (by omega))

theorem law_rows (A : Option Addr) (n cap : Nat) (l : List Vl) (k i : Int) (s : ByteArray) (w : World) (h : Inp w A n l) (hi : In64 i) (hs : s.size ≤ maxLen) :
    Calls Try.prog 3 #[.slice A n cap, .agg #[.int .i64 k, .int .i64 i, .string s]] w fun e w' => e = .returned (.bool true) ∧ Below w.heap.size w w' := by
  cases h1 : rowOk (fewL l) with
  | false => exact rows_f A n cap l k i s w h hi hs h1
  | true => exact rows_t A n cap l k i s w h hi hs h1
end Go.Proofs.Ytggejkkpajpmkaa

import Derived.Test.YtggejkkpajpmkaaCp
/- The law CodeApart. -/
namespace Go.Proofs.Ytggejkkpajpmkaa
open Go.RowKit Go.Lib

/-- What comes in: a row of values. -/
structure Inp (w : World) (A : Option Addr) (n : Nat) (l : List Vl) : Prop where
  len : n ≤ maxLen
  vals : Vals w w.heap.size A n l
  short : Short l
  i64 : I64 l

set_option maxRecDepth 100000 in
set_option maxHeartbeats 8000000 in
theorem apart_1 (A : Option Addr) (n cap : Nat) (l : List Vl) (A' : Option Addr) (m cap' : Nat) (l' : List Vl) (w : World) (h : Inp w A n l) (h' : Inp w A' m l') (h1 : rowOk (fewL l) = false) :
    Calls Try.prog 7 #[.slice A n cap, .slice A' m cap'] w fun e w' => e = .returned (.bool true) ∧ Below w.heap.size w w' := by
  have H := Lib.hid h
  have H' := Lib.hid h'
  clear h h'
  have e1 := rowE_f h1
  clear h1
  go_enter Try.func7, Try.ntmps7
  go_wp2_with (first
    | (go_at_call_of 8 (Value.slice A n cap); refine (few2_any A n cap l _ H.out.len (H.out.vals) H.out.short).mono ?_; rintro e w1 ⟨v1, rfl, ho1, hb1⟩; obtain ⟨A1, c1, rfl, hv1, -, -⟩ := Vals.of_own ho1; have HH1 := Lib.hid (And.intro hv1 hb1); have hs1 := hb1.size; clear hv1 hb1 ho1)
    | (go_at_call_of 8 (Value.slice A' m cap'); refine (few2_any A' m cap' l' _ H'.out.len ((H'.out.vals.keep HH1.out.2).more hs1) H'.out.short).mono ?_; rintro e w2 ⟨v2, rfl, ho2, hb2⟩; obtain ⟨A2, c2, rfl, hv2, -, -⟩ := Vals.of_own ho2; have HH2 := Lib.hid (And.intro hv2 hb2); have hs2 := hb2.size; clear hv2 hb2 ho2)
    | (go_at_call_of 10 (Value.slice A1 (fewL l).length c1); refine (row_any A1 (fewL l).length c1 (fewL l) _ (by have := few_len l; omega) ((HH1.out.1.keep HH2.out.2).more hs2) (few_i64 H.out.i64)).mono ?_; rintro e w3 ⟨rfl, hb3⟩; have HH3 := Lib.hid hb3; have hs3 := hb3.size; clear hb3)
    | (go_at_call_of 10 (Value.slice A2 (fewL l').length c2); refine (row_any A2 (fewL l').length c2 (fewL l') _ (by have := few_len l'; omega) ((HH2.out.1.keep HH3.out).more hs3) (few_i64 H'.out.i64)).mono ?_; rintro e w4 ⟨rfl, hb4⟩; have HH4 := Lib.hid hb4; have hs4 := hb4.size; clear hb4)
    | (go_at_call 15; refine (same_any A1 (fewL l).length c1 (fewL l) A2 (fewL l').length c2 (fewL l') _ (by have := few_len l; omega) (by have := few_len l'; omega) ((((((HH1.out.1.keep HH2.out.2).more hs2).keep HH3.out).more hs3).keep HH4.out).more hs4) ((((HH2.out.1.keep HH3.out).more hs3).keep HH4.out).more hs4)).mono ?_; rintro e w5 ⟨rfl, hb5⟩; have HH5 := Lib.hid hb5; have hs5 := hb5.size; clear hb5)
    | (go_at_call 16; refine (awake2_any _).mono ?_; rintro e w6 ⟨rfl, hb6⟩))
  go_ret
  refine ⟨rfl, ?_⟩
  exact (((HH1.out.2.trans (HH2.out.2.mono (by omega))).trans (HH3.out.mono (by omega))).trans (HH4.out.mono (by omega))).trans (hb6.mono (by omega))

set_option maxRecDepth 100000 in
set_option maxHeartbeats 8000000 in
theorem apart_2 (A : Option Addr) (n cap : Nat) (l : List Vl) (A' : Option Addr) (m cap' : Nat) (l' : List Vl) (w : World) (h : Inp w A n l) (h' : Inp w A' m l') (h1 : rowOk (fewL l) = true) (h2 : rowOk (fewL l') = false) :
    Calls Try.prog 7 #[.slice A n cap, .slice A' m cap'] w fun e w' => e = .returned (.bool true) ∧ Below w.heap.size w w' := by
  have H := Lib.hid h
  have H' := Lib.hid h'
  clear h h'
  have e1 := rowE_t h1
  have e2 := rowE_f h2
  clear h1 h2
  go_enter Try.func7, Try.ntmps7
  go_wp2_with (first
    | (go_at_call_of 8 (Value.slice A n cap); refine (few2_any A n cap l _ H.out.len (H.out.vals) H.out.short).mono ?_; rintro e w1 ⟨v1, rfl, ho1, hb1⟩; obtain ⟨A1, c1, rfl, hv1, -, -⟩ := Vals.of_own ho1; have HH1 := Lib.hid (And.intro hv1 hb1); have hs1 := hb1.size; clear hv1 hb1 ho1)
    | (go_at_call_of 8 (Value.slice A' m cap'); refine (few2_any A' m cap' l' _ H'.out.len ((H'.out.vals.keep HH1.out.2).more hs1) H'.out.short).mono ?_; rintro e w2 ⟨v2, rfl, ho2, hb2⟩; obtain ⟨A2, c2, rfl, hv2, -, -⟩ := Vals.of_own ho2; have HH2 := Lib.hid (And.intro hv2 hb2); have hs2 := hb2.size; clear hv2 hb2 ho2)
    | (go_at_call_of 10 (Value.slice A1 (fewL l).length c1); refine (row_any A1 (fewL l).length c1 (fewL l) _ (by have := few_len l; omega) ((HH1.out.1.keep HH2.out.2).more hs2) (few_i64 H.out.i64)).mono ?_; rintro e w3 ⟨rfl, hb3⟩; have HH3 := Lib.hid hb3; have hs3 := hb3.size; clear hb3)
    | (go_at_call_of 10 (Value.slice A2 (fewL l').length c2); refine (row_any A2 (fewL l').length c2 (fewL l') _ (by have := few_len l'; omega) ((HH2.out.1.keep HH3.out).more hs3) (few_i64 H'.out.i64)).mono ?_; rintro e w4 ⟨rfl, hb4⟩; have HH4 := Lib.hid hb4; have hs4 := hb4.size; clear hb4)
    | (go_at_call 15; refine (same_any A1 (fewL l).length c1 (fewL l) A2 (fewL l').length c2 (fewL l') _ (by have := few_len l; omega) (by have := few_len l'; omega) ((((((HH1.out.1.keep HH2.out.2).more hs2).keep HH3.out).more hs3).keep HH4.out).more hs4) ((((HH2.out.1.keep HH3.out).more hs3).keep HH4.out).more hs4)).mono ?_; rintro e w5 ⟨rfl, hb5⟩; have HH5 := Lib.hid hb5; have hs5 := hb5.size; clear hb5)
    | (go_at_call 16; refine (awake2_any _).mono ?_; rintro e w6 ⟨rfl, hb6⟩))
  go_ret
  refine ⟨rfl, ?_⟩
  exact (((HH1.out.2.trans (HH2.out.2.mono (by omega))).trans (HH3.out.mono (by omega))).trans (HH4.out.mono (by omega))).trans (hb6.mono (by omega))

set_option maxRecDepth 100000 in
set_option maxHeartbeats 8000000 in
theorem apart_3t (A : Option Addr) (n cap : Nat) (l : List Vl) (A' : Option Addr) (m cap' : Nat) (l' : List Vl) (w : World) (h : Inp w A n l) (h' : Inp w A' m l') (h1 : rowOk (fewL l) = true) (h2 : rowOk (fewL l') = true) (h3 : sameL (fewL l) (fewL l') = true) :
    Calls Try.prog 7 #[.slice A n cap, .slice A' m cap'] w fun e w' => e = .returned (.bool true) ∧ Below w.heap.size w w' := by
  have H := Lib.hid h
  have H' := Lib.hid h'
  clear h h'
  have e1 := rowE_t h1
  have e2 := rowE_t h2
  have e3 : ((rowS (fewL l)).toList == (rowS (fewL l')).toList) = true := (row_same h1 h2 (few_i64 H.out.i64) (few_i64 H'.out.i64)).trans h3
  clear h1 h2
  go_enter Try.func7, Try.ntmps7
  go_wp2_with (first
    | (go_at_call_of 8 (Value.slice A n cap); refine (few2_any A n cap l _ H.out.len (H.out.vals) H.out.short).mono ?_; rintro e w1 ⟨v1, rfl, ho1, hb1⟩; obtain ⟨A1, c1, rfl, hv1, -, -⟩ := Vals.of_own ho1; have HH1 := Lib.hid (And.intro hv1 hb1); have hs1 := hb1.size; clear hv1 hb1 ho1)
    | (go_at_call_of 8 (Value.slice A' m cap'); refine (few2_any A' m cap' l' _ H'.out.len ((H'.out.vals.keep HH1.out.2).more hs1) H'.out.short).mono ?_; rintro e w2 ⟨v2, rfl, ho2, hb2⟩; obtain ⟨A2, c2, rfl, hv2, -, -⟩ := Vals.of_own ho2; have HH2 := Lib.hid (And.intro hv2 hb2); have hs2 := hb2.size; clear hv2 hb2 ho2)
    | (go_at_call_of 10 (Value.slice A1 (fewL l).length c1); refine (row_any A1 (fewL l).length c1 (fewL l) _ (by have := few_len l; omega) ((HH1.out.1.keep HH2.out.2).more hs2) (few_i64 H.out.i64)).mono ?_; rintro e w3 ⟨rfl, hb3⟩; have HH3 := Lib.hid hb3; have hs3 := hb3.size; clear hb3)
    | (go_at_call_of 10 (Value.slice A2 (fewL l').length c2); refine (row_any A2 (fewL l').length c2 (fewL l') _ (by have := few_len l'; omega) ((HH2.out.1.keep HH3.out).more hs3) (few_i64 H'.out.i64)).mono ?_; rintro e w4 ⟨rfl, hb4⟩; have HH4 := Lib.hid hb4; have hs4 := hb4.size; clear hb4)
    | (go_at_call 15; refine (same_any A1 (fewL l).length c1 (fewL l) A2 (fewL l').length c2 (fewL l') _ (by have := few_len l; omega) (by have := few_len l'; omega) ((((((HH1.out.1.keep HH2.out.2).more hs2).keep HH3.out).more hs3).keep HH4.out).more hs4) ((((HH2.out.1.keep HH3.out).more hs3).keep HH4.out).more hs4)).mono ?_; rintro e w5 ⟨rfl, hb5⟩; have HH5 := Lib.hid hb5; have hs5 := hb5.size; clear hb5)
    | (go_at_call 16; refine (awake2_any _).mono ?_; rintro e w6 ⟨rfl, hb6⟩))
  go_ret
  refine ⟨rfl, ?_⟩
  exact ((((HH1.out.2.trans (HH2.out.2.mono (by omega))).trans (HH3.out.mono (by omega))).trans (HH4.out.mono (by omega))).trans (HH5.out.mono (by omega))).trans (hb6.mono (by omega))

set_option maxRecDepth 100000 in
set_option maxHeartbeats 8000000 in
theorem apart_3f (A : Option Addr) (n cap : Nat) (l : List Vl) (A' : Option Addr) (m cap' : Nat) (l' : List Vl) (w : World) (h : Inp w A n l) (h' : Inp w A' m l') (h1 : rowOk (fewL l) = true) (h2 : rowOk (fewL l') = true) (h3 : sameL (fewL l) (fewL l') = false) :
    Calls Try.prog 7 #[.slice A n cap, .slice A' m cap'] w fun e w' => e = .returned (.bool true) ∧ Below w.heap.size w w' := by
  have H := Lib.hid h
  have H' := Lib.hid h'
  clear h h'
  have e1 := rowE_t h1
  have e2 := rowE_t h2
  have e3 : ((rowS (fewL l)).toList == (rowS (fewL l')).toList) = false := (row_same h1 h2 (few_i64 H.out.i64) (few_i64 H'.out.i64)).trans h3
  clear h1 h2
  go_enter Try.func7, Try.ntmps7
  go_wp2_with (first
    | (go_at_call_of 8 (Value.slice A n cap); refine (few2_any A n cap l _ H.out.len (H.out.vals) H.out.short).mono ?_; rintro e w1 ⟨v1, rfl, ho1, hb1⟩; obtain ⟨A1, c1, rfl, hv1, -, -⟩ := Vals.of_own ho1; have HH1 := Lib.hid (And.intro hv1 hb1); have hs1 := hb1.size; clear hv1 hb1 ho1)
    | (go_at_call_of 8 (Value.slice A' m cap'); refine (few2_any A' m cap' l' _ H'.out.len ((H'.out.vals.keep HH1.out.2).more hs1) H'.out.short).mono ?_; rintro e w2 ⟨v2, rfl, ho2, hb2⟩; obtain ⟨A2, c2, rfl, hv2, -, -⟩ := Vals.of_own ho2; have HH2 := Lib.hid (And.intro hv2 hb2); have hs2 := hb2.size; clear hv2 hb2 ho2)
    | (go_at_call_of 10 (Value.slice A1 (fewL l).length c1); refine (row_any A1 (fewL l).length c1 (fewL l) _ (by have := few_len l; omega) ((HH1.out.1.keep HH2.out.2).more hs2) (few_i64 H.out.i64)).mono ?_; rintro e w3 ⟨rfl, hb3⟩; have HH3 := Lib.hid hb3; have hs3 := hb3.size; clear hb3)
    | (go_at_call_of 10 (Value.slice A2 (fewL l').length c2); refine (row_any A2 (fewL l').length c2 (fewL l') _ (by have := few_len l'; omega) ((HH2.out.1.keep HH3.out).more hs3) (few_i64 H'.out.i64)).mono ?_; rintro e w4 ⟨rfl, hb4⟩; have HH4 := Lib.hid hb4; have hs4 := hb4.size; clear hb4)
    | (go_at_call 15; refine (same_any A1 (fewL l).length c1 (fewL l) A2 (fewL l').length c2 (fewL l') _ (by have := few_len l; omega) (by have := few_len l'; omega) ((((((HH1.out.1.keep HH2.out.2).more hs2).keep HH3.out).more hs3).keep HH4.out).more hs4) ((((HH2.out.1.keep HH3.out).more hs3).keep HH4.out).more hs4)).mono ?_; rintro e w5 ⟨rfl, hb5⟩; have HH5 := Lib.hid hb5; have hs5 := hb5.size; clear hb5)
    | (go_at_call 16; refine (awake2_any _).mono ?_; rintro e w6 ⟨rfl, hb6⟩))
  go_ret
  refine ⟨rfl, ?_⟩
  exact ((((HH1.out.2.trans (HH2.out.2.mono (by omega))).trans (HH3.out.mono (by omega))).trans (HH4.out.mono (by omega))).trans (HH5.out.mono (by omega))).trans (hb6.mono (by omega))

theorem law_apart (A : Option Addr) (n cap : Nat) (l : List Vl) (A' : Option Addr) (m cap' : Nat) (l' : List Vl) (w : World) (h : Inp w A n l) (h' : Inp w A' m l') :
    Calls Try.prog 7 #[.slice A n cap, .slice A' m cap'] w fun e w' => e = .returned (.bool true) ∧ Below w.heap.size w w' := by
  cases h1 : rowOk (fewL l) with
  | false => exact apart_1 A n cap l A' m cap' l' w h h' h1
  | true =>
    cases h2 : rowOk (fewL l') with
    | false => exact apart_2 A n cap l A' m cap' l' w h h' h1 h2
    | true =>
      cases h3 : sameL (fewL l) (fewL l') with
      | true => exact apart_3t A n cap l A' m cap' l' w h h' h1 h2 h3
      | false => exact apart_3f A n cap l A' m cap' l' w h h' h1 h2 h3
end Go.Proofs.Ytggejkkpajpmkaa

import Derived.Test.YtggejkkpajpmkaaCq
/- The law CodeShort. -/
namespace Go.Proofs.Ytggejkkpajpmkaa
open Go.RowKit Go.Lib

theorem extract_take (s : ByteArray) (n : Nat) : (s.extract 0 n).data.toList = s.data.toList.take n := by
  simp [ByteArray.extract, ByteArray.data_append, ByteArray.copySlice]
theorem rowO_last (l : List Vl) (x : Vl) : rowO (l ++ [x]) = rowO l ++ x.oct := rowO_snoc l x
theorem rowS_nil {l : List Vl} (h : l = []) : rowS l = ⟨#[]⟩ := by subst h; rfl
theorem Vals.take {W : World} {B : Nat} {A : Option Addr} {n m : Nat} {l : List Vl} (h : Vals W B A n l) (hm : m ≤ n) : Vals W B A m (l.take m) := by
  have hl := h.1
  refine ⟨by simp; omega, fun j hj => ?_⟩
  have hj' : j < l.length := by simp at hj; omega
  obtain ⟨a, e, h1, h2⟩ := h.2 j hj'
  exact ⟨a, e, by rw [List.getElem_take]; exact h1, h2⟩

set_option maxRecDepth 100000 in
set_option maxHeartbeats 600000 in
theorem short_1 (A : Option Addr) (n cap : Nat) (l : List Vl) (w : World) (h : Inp w A n l) (h1 : rowOk (fewL l) = false) :
    Calls Try.prog 6 #[.slice A n cap] w fun e w' => e = .returned (.bool true) ∧ Below w.heap.size w w' := by
  have H := Lib.hid h
  clear h
  have e1 := rowE_f h1
  clear h1
  go_enter Try.func6, Try.ntmps6
  go_wp2_with (first
    | (go_at_call 8; refine (few2_any A n cap l _ H.out.len H.out.vals H.out.short).mono ?_; rintro e w1 ⟨v1, rfl, ho1, hb1⟩; obtain ⟨A1, c1, rfl, hv1, hc1, hc2⟩ := Vals.of_own ho1; have HH1 := Lib.hid (And.intro hv1 hb1); have hs1 := hb1.size; clear hv1 hb1 ho1)
    | (go_at_call 10; refine (row_any A1 (fewL l).length c1 (fewL l) _ (by have := few_len l; omega) HH1.out.1 (few_i64 H.out.i64)).mono ?_; rintro e w2 ⟨rfl, hb2⟩; have HH2 := Lib.hid hb2; have hs2 := hb2.size; clear hb2)
    | (go_at_call 16; refine (awake2_any _).mono ?_; rintro e w6 ⟨rfl, hb6⟩))
  go_ret
  refine ⟨rfl, ?_⟩
  exact (HH1.out.2.trans (HH2.out.mono hs1)).trans (hb6.mono (by omega))

set_option maxRecDepth 100000 in
set_option maxHeartbeats 600000 in
theorem short_2 (A : Option Addr) (n cap : Nat) (l : List Vl) (w : World) (h : Inp w A n l) (h1 : rowOk (fewL l) = true) (h2 : fewL l = []) :
    Calls Try.prog 6 #[.slice A n cap] w fun e w' => e = .returned (.bool true) ∧ Below w.heap.size w w' := by
  have H := Lib.hid h
  clear h
  have e1 := rowE_t h1
  have e2 := rowS_nil h2
  clear h1 h2
  go_enter Try.func6, Try.ntmps6
  go_wp2_with (first
    | (go_at_call 8; refine (few2_any A n cap l _ H.out.len H.out.vals H.out.short).mono ?_; rintro e w1 ⟨v1, rfl, ho1, hb1⟩; obtain ⟨A1, c1, rfl, hv1, hc1, hc2⟩ := Vals.of_own ho1; have HH1 := Lib.hid (And.intro hv1 hb1); have hs1 := hb1.size; clear hv1 hb1 ho1)
    | (go_at_call 10; refine (row_any A1 (fewL l).length c1 (fewL l) _ (by have := few_len l; omega) HH1.out.1 (few_i64 H.out.i64)).mono ?_; rintro e w2 ⟨rfl, hb2⟩; have HH2 := Lib.hid hb2; have hs2 := hb2.size; clear hb2)
    | (go_at_call 16; refine (awake2_any _).mono ?_; rintro e w6 ⟨rfl, hb6⟩))
  go_ret
  refine ⟨rfl, ?_⟩
  exact (HH1.out.2.trans (HH2.out.mono hs1)).trans (hb6.mono (by omega))

set_option maxRecDepth 100000 in
set_option maxHeartbeats 600000 in
theorem short_3 (A : Option Addr) (n cap : Nat) (l : List Vl) (w : World) (h : Inp w A n l) (r : List Vl) (x : Vl) (h1 : rowOk (fewL l) = true) (h2 : fewL l = r ++ [x]) (h3 : 1 < x.oct.length) :
    Calls Try.prog 6 #[.slice A n cap] w fun e w' => e = .returned (.bool true) ∧ Below w.heap.size w w' := by
  have H := Lib.hid h
  clear h
  obtain ⟨S, hS⟩ : ∃ S : ByteArray, S = rowS (fewL l) := ⟨_, rfl⟩
  have hSl : S.data.toList = rowO r ++ x.oct := by rw [hS, ← toList_data, rowS_t h1, h2, rowO_last]
  have hxo := oct_pos x
  obtain ⟨q, hq⟩ : ∃ q, S.size = q + 1 := ⟨S.size - 1, by have := size_of_list hSl; simp at this; omega⟩
  have hql : q + 1 = (rowO r).length + x.oct.length := by rw [← hq, size_of_list hSl, List.length_append]
  have hcut : (S.extract 0 q).data.toList = rowO r ++ x.oct.take (x.oct.length - 1) := by
    rw [extract_take, hSl, List.take_append, List.take_of_length_le (by omega), show q - (rowO r).length = x.oct.length - 1 by omega]
  have hne : ¬ S.toList = [] := by
    rw [toList_data, hSl]
    intro h
    have := congrArg List.length h
    rw [List.length_append] at this
    simp only [List.length_nil] at this
    omega
  have hne2 : S.toList.isEmpty = false := by
    cases h : S.toList.isEmpty with
    | false => rfl
    | true => exact absurd (List.isEmpty_iff.1 h) hne
  have HROW := Lib.hid (show ∀ (A1 : Option Addr) (c1 : Nat) (W : World), Vals W W.heap.size A1 (fewL l).length (fewL l) → Calls Try.prog 10 #[.slice A1 (fewL l).length c1] W fun e w' => e = .returned (.tuple #[.string S, .int .i64 0]) ∧ Below W.heap.size W w' from fun A1 c1 W hv => by
    have h := row_any A1 (fewL l).length c1 (fewL l) W (by have := few_len l; omega) hv (few_i64 H.out.i64)
    rw [← hS, rowE_t h1] at h
    exact h)
  have hok := rowOk_may h1
  have hmay : ∀ y ∈ r, y.may = true := fun y hy => hok.2 y (by rw [h2]; exact List.mem_append_left _ hy)
  have hmx : x.may = true := hok.2 x (by rw [h2]; simp)
  have hi64 : I64 r := fun y hy => few_i64 H.out.i64 y (by rw [h2]; exact List.mem_append_left _ hy)
  have hlen : (fewL l).length = r.length + 1 := by rw [h2]; simp
  have hrl : r.length ≤ 12 := by have := hok.1; omega
  have hq0 : q ≤ 1000 := by have h := rowO_len r; have h' := valO_len x.k x.i x.s; have h'' : x.oct.length ≤ 42 := h'; omega
  have HR := Lib.hid (fun W => read_cut r x (x.oct.take (x.oct.length - 1)) (x.oct.drop (x.oct.length - 1)) (S.extract 0 q) W hcut hrl hmay hi64 hmx (List.take_append_drop _ _).symm (fun h => by have := congrArg List.length h; simp at this; omega) (fun h => by have := congrArg List.length h; simp at this; omega))
  have hrL : r.length < (fewL l).length := by omega
  have HLn := Lib.hid hlen
  clear hcut hmay hmx hi64 hok h1 h2 hSl hql hS hxo hlen
  clear h3
  go_enter Try.func6, Try.ntmps6
  go_wp2_with (first
    | (go_at_call 8; refine (few2_any A n cap l _ H.out.len H.out.vals H.out.short).mono ?_; rintro e w1 ⟨v1, rfl, ho1, hb1⟩; obtain ⟨A1, c1, rfl, hv1, hc1, hc2⟩ := Vals.of_own ho1; have HH1 := Lib.hid (And.intro hv1 hb1); have hs1 := hb1.size; clear hv1 hb1 ho1)
    | (go_at_call 10; refine (HROW.out A1 c1 _ HH1.out.1).mono ?_; rintro e w2 ⟨rfl, hb2⟩; have HH2 := Lib.hid hb2; have hs2 := hb2.size; clear hb2)
    | (go_at_call 14; refine (HR.out _).mono ?_; rintro e w3 ⟨rfl, hb3⟩; have HH3 := Lib.hid hb3; have hs3 := hb3.size; clear hb3)
    | (go_at_call 16; refine (awake2_any _).mono ?_; rintro e w6 ⟨rfl, hb6⟩))
  go_ret
  refine ⟨rfl, ?_⟩
  exact ((HH1.out.2.trans (HH2.out.mono hs1)).trans (HH3.out.mono (by omega))).trans (hb6.mono (by omega))

set_option maxRecDepth 100000 in
set_option maxHeartbeats 600000 in
theorem short_4 (A : Option Addr) (n cap : Nat) (l : List Vl) (w : World) (h : Inp w A n l) (r : List Vl) (x : Vl) (h1 : rowOk (fewL l) = true) (h2 : fewL l = r ++ [x]) (h3 : x.oct.length = 1) :
    Calls Try.prog 6 #[.slice A n cap] w fun e w' => e = .returned (.bool true) ∧ Below w.heap.size w w' := by
  have H := Lib.hid h
  clear h
  obtain ⟨S, hS⟩ : ∃ S : ByteArray, S = rowS (fewL l) := ⟨_, rfl⟩
  have hSl : S.data.toList = rowO r ++ x.oct := by rw [hS, ← toList_data, rowS_t h1, h2, rowO_last]
  have hxo := oct_pos x
  obtain ⟨q, hq⟩ : ∃ q, S.size = q + 1 := ⟨S.size - 1, by have := size_of_list hSl; simp at this; omega⟩
  have hql : q + 1 = (rowO r).length + x.oct.length := by rw [← hq, size_of_list hSl, List.length_append]
  have hcut : (S.extract 0 q).data.toList = rowO r ++ x.oct.take (x.oct.length - 1) := by
    rw [extract_take, hSl, List.take_append, List.take_of_length_le (by omega), show q - (rowO r).length = x.oct.length - 1 by omega]
  have hne : ¬ S.toList = [] := by
    rw [toList_data, hSl]
    intro h
    have := congrArg List.length h
    rw [List.length_append] at this
    simp only [List.length_nil] at this
    omega
  have hne2 : S.toList.isEmpty = false := by
    cases h : S.toList.isEmpty with
    | false => rfl
    | true => exact absurd (List.isEmpty_iff.1 h) hne
  have HROW := Lib.hid (show ∀ (A1 : Option Addr) (c1 : Nat) (W : World), Vals W W.heap.size A1 (fewL l).length (fewL l) → Calls Try.prog 10 #[.slice A1 (fewL l).length c1] W fun e w' => e = .returned (.tuple #[.string S, .int .i64 0]) ∧ Below W.heap.size W w' from fun A1 c1 W hv => by
    have h := row_any A1 (fewL l).length c1 (fewL l) W (by have := few_len l; omega) hv (few_i64 H.out.i64)
    rw [← hS, rowE_t h1] at h
    exact h)
  have hok := rowOk_may h1
  have hmay : ∀ y ∈ r, y.may = true := fun y hy => hok.2 y (by rw [h2]; exact List.mem_append_left _ hy)
  have hmx : x.may = true := hok.2 x (by rw [h2]; simp)
  have hi64 : I64 r := fun y hy => few_i64 H.out.i64 y (by rw [h2]; exact List.mem_append_left _ hy)
  have hlen : (fewL l).length = r.length + 1 := by rw [h2]; simp
  have hrl : r.length ≤ 12 := by have := hok.1; omega
  have hq0 : q ≤ 1000 := by have h := rowO_len r; have h' := valO_len x.k x.i x.s; have h'' : x.oct.length ≤ 42 := h'; omega
  have HR := Lib.hid (fun W => read_row r (S.extract 0 q) W (by rw [hcut, h3]; simp) hrl hmay hi64)
  have HE := Lib.hid (show r = (fewL l).take r.length by rw [h2]; simp)
  have hw : wrap64 (((fewL l).length : Int) - 1) = (r.length : Int) := by rw [hlen]; unfold wrap64; omega
  have hrL : r.length < (fewL l).length := by omega
  have HLn := Lib.hid hlen
  clear hcut hmay hmx hi64 hok h1 h2 hSl hql hS hxo hlen
  clear h3
  go_enter Try.func6, Try.ntmps6
  go_wp2_with (first
    | (go_at_call 8; refine (few2_any A n cap l _ H.out.len H.out.vals H.out.short).mono ?_; rintro e w1 ⟨v1, rfl, ho1, hb1⟩; obtain ⟨A1, c1, rfl, hv1, hc1, hc2⟩ := Vals.of_own ho1; have HH1 := Lib.hid (And.intro hv1 hb1); have hs1 := hb1.size; clear hv1 hb1 ho1)
    | (go_at_call 10; refine (HROW.out A1 c1 _ HH1.out.1).mono ?_; rintro e w2 ⟨rfl, hb2⟩; have HH2 := Lib.hid hb2; have hs2 := hb2.size; clear hb2)
    | (go_at_call 14; refine (HR.out _).mono ?_; rintro e w3 ⟨v3, rfl, ho3, hb3⟩; obtain ⟨A3, c3, rfl, hv3, hc3, hc4⟩ := Vals.of_own ho3; have HH3 := Lib.hid (And.intro hv3 hb3); have hs3 := hb3.size; clear hv3 hb3 ho3)
    | (go_at_call 15; refine ((same_any A3 r.length c3 r A1 r.length c1 ((fewL l).take r.length) _ (by omega) (by omega) HH3.out.1 ((((((HH1.out.1.keep HH2.out).more hs2).keep HH3.out.2).more hs3)).take (by omega))).mono (fun _ _ h => ((show sameL r ((fewL l).take r.length) = true from (sameL_iff _ _).2 HE.out) ▸ h : _ = Ending.returned (.bool true) ∧ _))).mono ?_; rintro e w4 ⟨rfl, hb4⟩; have HH4 := Lib.hid hb4; have hs4 := hb4.size; clear hb4)
    | (go_at_call 16; refine (awake2_any _).mono ?_; rintro e w6 ⟨rfl, hb6⟩))
  go_ret
  refine ⟨rfl, ?_⟩
  exact (((HH1.out.2.trans (HH2.out.mono hs1)).trans (HH3.out.2.mono (by omega))).trans (HH4.out.mono (by omega))).trans (hb6.mono (by omega))

theorem law_short (A : Option Addr) (n cap : Nat) (l : List Vl) (w : World) (h : Inp w A n l) :
    Calls Try.prog 6 #[.slice A n cap] w fun e w' => e = .returned (.bool true) ∧ Below w.heap.size w w' := by
  cases h1 : rowOk (fewL l) with
  | false => exact short_1 A n cap l w h h1
  | true =>
    rcases List.eq_nil_or_concat (fewL l) with h2 | ⟨r, x, h2'⟩
    · exact short_2 A n cap l w h h1 h2
    · have h2 : fewL l = r ++ [x] := by simpa using h2'
      have := oct_pos x
      by_cases h3 : x.oct.length = 1
      · exact short_4 A n cap l w h r x h1 h2 h3
      · exact short_3 A n cap l w h r x h1 h2 (by omega)
end Go.Proofs.Ytggejkkpajpmkaa

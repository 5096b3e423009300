import Derived.Test.YtnahejljelbbgaaDoorTj
import Derived.LoopTactic
import Derived.Outline
/- The document's own Parse. -/
namespace Go.Proofs.YtnahejljelbbgaaDoor
open Go.RowKit Go.Lib

theorem rtext_is (k i : Int) (S s : ByteArray) (w : World) (h : txtO k i S = s.data.toList) (hi : In64 i) (hS : S.size ≤ maxLen) :
    Calls Tryd.prog 10 #[.agg #[.int .i64 k, .int .i64 i, .string S]] w fun e w' => e = .returned (.string s) ∧ Below w.heap.size w w' :=
  (rtext_any k i S w hi hS).mono fun e w' ⟨h1, h2⟩ => ⟨by rw [h1, h], h2⟩
theorem rtext_not (k i : Int) (S s : ByteArray) (w : World) (h : txtO k i S ≠ s.data.toList) (hi : In64 i) (hS : S.size ≤ maxLen) :
    Calls Tryd.prog 10 #[.agg #[.int .i64 k, .int .i64 i, .string S]] w fun e w' => ∃ t, e = .returned (.string t) ∧ (t.toList == s.toList) = false ∧ Below w.heap.size w w' :=
  (rtext_any k i S w hi hS).mono fun e w' ⟨h1, h2⟩ => ⟨_, h1, beq_eq_false_iff_ne.2 (by rw [toList_data, toList_data]; exact fun e => h (by simpa using e)), h2⟩
theorem rtext_not0 (k i : Int) (s : ByteArray) (w : World) (h : txtO k i ⟨#[]⟩ ≠ s.data.toList) (hi : In64 i) :
    Calls Tryd.prog 10 #[.agg #[.int .i64 k, .int .i64 i, .string ⟨#[]⟩]] w fun e w' => ∃ t, e = .returned (.string t) ∧ (t.toList == s.toList) = false ∧ Below w.heap.size w w' :=
  rtext_not k i _ s w h hi (by unfold maxLen; simp [ByteArray.size])
theorem rtext_is0 (k i : Int) (s : ByteArray) (w : World) (h : txtO k i ⟨#[]⟩ = s.data.toList) (hi : In64 i) :
    Calls Tryd.prog 10 #[.agg #[.int .i64 k, .int .i64 i, .string ⟨#[]⟩]] w fun e w' => e = .returned (.string s) ∧ Below w.heap.size w w' :=
  rtext_is k i _ s w h hi (by unfold maxLen; simp [ByteArray.size])

theorem txt_null : txtO 0 0 ⟨#[]⟩ = [78, 85, 76, 76] := by simp [txtO, mayB, nilBytes]
theorem txt_no : txtO 3 0 ⟨#[]⟩ = [70, 65, 76, 83, 69] := by simp [txtO, mayB, nilBytes]
theorem txt_yes : txtO 3 1 ⟨#[]⟩ = [84, 82, 85, 69] := by simp [txtO, mayB, nilBytes]

/-- What a call has said of a text, once and for all: the value whose text it is; none. -/
structure RP (l : List UInt8) (k i : Int) (S : ByteArray) (b : Bool) : Prop where
  yes : b = true → In64 i ∧ mayB k i S = true ∧ txtO k i S = l
  no : b = false → ∀ k' i' S', In64 i' → mayB k' i' S' = true → txtO k' i' S' ≠ l

/-- What the world is like while the texts of the three are looked at: the result's box, the list's block. -/
structure W3 (w W : World) : Prop where
  below : Below w.heap.size w W
  size : w.heap.size + 1 < W.heap.size
  r : At3 W w.heap.size 0 0 ⟨#[]⟩
  f : ∀ o, W.frozen? ⟨w.heap.size, o, none⟩ = false
  a : At3 W (w.heap.size + 1) 0 0 ⟨#[]⟩
  b0 : W.cell? ⟨w.heap.size + 1, 3, none⟩ = some (.int .i64 3)
  b1 : W.cell? ⟨w.heap.size + 1, 4, none⟩ = some (.int .i64 0)
  b2 : W.cell? ⟨w.heap.size + 1, 5, none⟩ = some (.string ⟨#[]⟩)
  c0 : W.cell? ⟨w.heap.size + 1, 6, none⟩ = some (.int .i64 3)
  c1 : W.cell? ⟨w.heap.size + 1, 7, none⟩ = some (.int .i64 1)
  c2 : W.cell? ⟨w.heap.size + 1, 8, none⟩ = some (.string ⟨#[]⟩)
theorem W3.later {w W W' : World} (h : W3 w W) (hb : Below W.heap.size W W') : W3 w W' := by
  have h0 : w.heap.size < W.heap.size := by have := h.size; omega
  have h1 := h.size
  exact ⟨h.below.trans (hb.mono h.below.size), Nat.lt_of_lt_of_le h.size hb.size, h.r.later hb, fun o => (hb.frozen (p := ⟨_, o, none⟩) h0).trans (h.f o), h.a.later hb,
    (hb.cell (p := ⟨_, _, none⟩) h1).trans h.b0, (hb.cell (p := ⟨_, _, none⟩) h1).trans h.b1, (hb.cell (p := ⟨_, _, none⟩) h1).trans h.b2,
    (hb.cell (p := ⟨_, _, none⟩) h1).trans h.c0, (hb.cell (p := ⟨_, _, none⟩) h1).trans h.c1, (hb.cell (p := ⟨_, _, none⟩) h1).trans h.c2⟩
theorem W3.start (w : World) : W3 w ((w.alloc (.cells #[.int .i64 0, .int .i64 0, .string ⟨#[]⟩] 23)).alloc (.cells #[.int .i64 0, .int .i64 0, .string ⟨#[]⟩, .int .i64 3, .int .i64 0, .string ⟨#[]⟩, .int .i64 3, .int .i64 1, .string ⟨#[]⟩] 23)) := by
  refine ⟨((Below.refl _ _).alloc (Nat.le_refl _) _).alloc (by simp) _, by simp, (At3.new rfl).alloc _, fun o => ?_, ⟨?_, ?_, ?_⟩, ?_, ?_, ?_, ?_, ?_, ?_⟩ <;> simp [go_sem]

/-- A text that is none of the three. -/
structure N3 (l : List UInt8) : Prop where
  n0 : txtO 0 0 ⟨#[]⟩ ≠ l
  n1 : txtO 3 0 ⟨#[]⟩ ≠ l
  n2 : txtO 3 1 ⟨#[]⟩ ≠ l
set_option maxRecDepth 100000 in
set_option maxHeartbeats 800000 in
theorem rparse_0 (s : ByteArray) (w : World) (h : txtO 0 0 ⟨#[]⟩ = s.data.toList) :
    Calls Tryd.prog 9 #[.string s] w fun e w' => e = .returned (.tuple #[.agg #[.int .i64 0, .int .i64 0, .string ⟨#[]⟩], .bool true]) ∧ Below w.heap.size w w' := by
  have HT := Lib.hid h
  clear h
  go_enter Tryd.func9, Tryd.ntmps9
  go_wp2
  refine wp_gen (W3 w) (W3.start w) fun W hW => ?_
  have HW0 := Lib.hid hW
  clear hW
  go_loopw [5] (fun i wr => ∃ k : Nat, k ≤ 0 ∧ i = .int .i64 k ∧ W3 w wr) (fun i _ => 3 - (intOf i).toNat)
  case atStart => exact ⟨0, by omega, rfl, HW0.out⟩
  case round =>
    obtain ⟨k, hk, rfl, hW⟩ := hrel
    have HW := Lib.hid hW
    clear hW
    by_cases hk0 : k = 0
    · subst hk0
      have hr0 := HW.out.r.k
      have hr1 := HW.out.r.i
      have hr2 := HW.out.r.s
      have hf := HW.out.f
      have ha0 := HW.out.a.k
      have ha1 := HW.out.a.i
      have ha2 := HW.out.a.s
      have hb0 := HW.out.b0
      have hb1' := HW.out.b1
      have hb2 := HW.out.b2
      have hc0 := HW.out.c0
      have hc1 := HW.out.c1
      have hc2 := HW.out.c2
      go_wp2_with (go_at_call 10; refine (rtext_is0 0 0 s _ HT.out in64_0).mono ?_; rintro e w1 ⟨rfl, hb1⟩; have hW1 := HW.out.later hb1; have HW1 := Lib.hid hW1; clear hr0 hr1 hr2 hf ha0 ha1 ha2 hb0 hb1' hb2 hc0 hc1 hc2; clear hb1 hW1 HW; have hr0 := HW1.out.r.k; have hr1 := HW1.out.r.i; have hr2 := HW1.out.r.s; have hf := HW1.out.f; have ha0 := HW1.out.a.k; have ha1 := HW1.out.a.i; have ha2 := HW1.out.a.s; have hb0 := HW1.out.b0; have hb1' := HW1.out.b1; have hb2 := HW1.out.b2; have hc0 := HW1.out.c0; have hc1 := HW1.out.c1; have hc2 := HW1.out.c2)
      refine bodyPost_ret (v := .tuple #[.agg #[.int .i64 0, .int .i64 0, .string ⟨#[]⟩], .bool true]) ?_ rfl ⟨rfl, ?_⟩
      · (simp [results, Tryd.results9, go_sem, *]; done)
      · have hb1 := HW1.out.below
        repeat (first | (with_reducible exact Below.refl _ _) | ((with_reducible refine cSet3 ?_ ?_ _ _ _); (· ((try simp) <;> omega))) | (with_reducible refine Below.drew ?_) | ((with_reducible refine cAlloc ?_ ?_ _); (· ((try simp) <;> omega))) | ((with_reducible refine cOn (by assumption) ?_ ?_); (· ((try simp) <;> omega))))
    · skip
      omega

structure N3_1 (l : List UInt8) : Prop where
  n0 : txtO 0 0 ⟨#[]⟩ ≠ l
set_option maxRecDepth 100000 in
set_option maxHeartbeats 800000 in
theorem rparse_1 (s : ByteArray) (w : World) (h : txtO 3 0 ⟨#[]⟩ = s.data.toList) :
    Calls Tryd.prog 9 #[.string s] w fun e w' => e = .returned (.tuple #[.agg #[.int .i64 3, .int .i64 0, .string ⟨#[]⟩], .bool true]) ∧ Below w.heap.size w w' := by
  have HT := Lib.hid h
  have HN : Hid (N3_1 s.data.toList) := ⟨by rw [← h]; simp [txtO, mayB, nilBytes]⟩
  clear h
  go_enter Tryd.func9, Tryd.ntmps9
  go_wp2
  refine wp_gen (W3 w) (W3.start w) fun W hW => ?_
  have HW0 := Lib.hid hW
  clear hW
  go_loopw [5] (fun i wr => ∃ k : Nat, k ≤ 1 ∧ i = .int .i64 k ∧ W3 w wr) (fun i _ => 3 - (intOf i).toNat)
  case atStart => exact ⟨0, by omega, rfl, HW0.out⟩
  case round =>
    obtain ⟨k, hk, rfl, hW⟩ := hrel
    have HW := Lib.hid hW
    clear hW
    by_cases hk0 : k = 0
    · subst hk0
      have hr0 := HW.out.r.k
      have hr1 := HW.out.r.i
      have hr2 := HW.out.r.s
      have hf := HW.out.f
      have ha0 := HW.out.a.k
      have ha1 := HW.out.a.i
      have ha2 := HW.out.a.s
      have hb0 := HW.out.b0
      have hb1' := HW.out.b1
      have hb2 := HW.out.b2
      have hc0 := HW.out.c0
      have hc1 := HW.out.c1
      have hc2 := HW.out.c2
      go_wp2_with (go_at_call 10; refine (rtext_not0 0 0 s _ HN.out.n0 in64_0).mono ?_; rintro e w1 ⟨t1, rfl, hq1, hb1⟩; have hW1 := HW.out.later hb1)
      go_roundw
      case rel => exact ⟨0+1, by omega, by go_num, hW1⟩
      case measure => simp [intOf]; try omega
    · skip
      by_cases hk1 : k = 1
      · subst hk1
        have hr0 := HW.out.r.k
        have hr1 := HW.out.r.i
        have hr2 := HW.out.r.s
        have hf := HW.out.f
        have ha0 := HW.out.a.k
        have ha1 := HW.out.a.i
        have ha2 := HW.out.a.s
        have hb0 := HW.out.b0
        have hb1' := HW.out.b1
        have hb2 := HW.out.b2
        have hc0 := HW.out.c0
        have hc1 := HW.out.c1
        have hc2 := HW.out.c2
        go_wp2_with (go_at_call 10; refine (rtext_is0 3 0 s _ HT.out in64_0).mono ?_; rintro e w1 ⟨rfl, hb1⟩; have hW1 := HW.out.later hb1; have HW1 := Lib.hid hW1; clear hr0 hr1 hr2 hf ha0 ha1 ha2 hb0 hb1' hb2 hc0 hc1 hc2; clear hb1 hW1 HW; have hr0 := HW1.out.r.k; have hr1 := HW1.out.r.i; have hr2 := HW1.out.r.s; have hf := HW1.out.f; have ha0 := HW1.out.a.k; have ha1 := HW1.out.a.i; have ha2 := HW1.out.a.s; have hb0 := HW1.out.b0; have hb1' := HW1.out.b1; have hb2 := HW1.out.b2; have hc0 := HW1.out.c0; have hc1 := HW1.out.c1; have hc2 := HW1.out.c2)
        refine bodyPost_ret (v := .tuple #[.agg #[.int .i64 3, .int .i64 0, .string ⟨#[]⟩], .bool true]) ?_ rfl ⟨rfl, ?_⟩
        · (simp [results, Tryd.results9, go_sem, *]; done)
        · have hb1 := HW1.out.below
          repeat (first | (with_reducible exact Below.refl _ _) | ((with_reducible refine cSet3 ?_ ?_ _ _ _); (· ((try simp) <;> omega))) | (with_reducible refine Below.drew ?_) | ((with_reducible refine cAlloc ?_ ?_ _); (· ((try simp) <;> omega))) | ((with_reducible refine cOn (by assumption) ?_ ?_); (· ((try simp) <;> omega))))
      · skip
        omega

structure N3_2 (l : List UInt8) : Prop where
  n0 : txtO 0 0 ⟨#[]⟩ ≠ l
  n1 : txtO 3 0 ⟨#[]⟩ ≠ l
set_option maxRecDepth 100000 in
set_option maxHeartbeats 800000 in
theorem rparse_2 (s : ByteArray) (w : World) (h : txtO 3 1 ⟨#[]⟩ = s.data.toList) :
    Calls Tryd.prog 9 #[.string s] w fun e w' => e = .returned (.tuple #[.agg #[.int .i64 3, .int .i64 1, .string ⟨#[]⟩], .bool true]) ∧ Below w.heap.size w w' := by
  have HT := Lib.hid h
  have HN : Hid (N3_2 s.data.toList) := ⟨by rw [← h]; simp [txtO, mayB, nilBytes], by rw [← h]; simp [txtO, mayB, nilBytes]⟩
  clear h
  go_enter Tryd.func9, Tryd.ntmps9
  go_wp2
  refine wp_gen (W3 w) (W3.start w) fun W hW => ?_
  have HW0 := Lib.hid hW
  clear hW
  go_loopw [5] (fun i wr => ∃ k : Nat, k ≤ 2 ∧ i = .int .i64 k ∧ W3 w wr) (fun i _ => 3 - (intOf i).toNat)
  case atStart => exact ⟨0, by omega, rfl, HW0.out⟩
  case round =>
    obtain ⟨k, hk, rfl, hW⟩ := hrel
    have HW := Lib.hid hW
    clear hW
    by_cases hk0 : k = 0
    · subst hk0
      have hr0 := HW.out.r.k
      have hr1 := HW.out.r.i
      have hr2 := HW.out.r.s
      have hf := HW.out.f
      have ha0 := HW.out.a.k
      have ha1 := HW.out.a.i
      have ha2 := HW.out.a.s
      have hb0 := HW.out.b0
      have hb1' := HW.out.b1
      have hb2 := HW.out.b2
      have hc0 := HW.out.c0
      have hc1 := HW.out.c1
      have hc2 := HW.out.c2
      go_wp2_with (go_at_call 10; refine (rtext_not0 0 0 s _ HN.out.n0 in64_0).mono ?_; rintro e w1 ⟨t1, rfl, hq1, hb1⟩; have hW1 := HW.out.later hb1)
      go_roundw
      case rel => exact ⟨0+1, by omega, by go_num, hW1⟩
      case measure => simp [intOf]; try omega
    · skip
      by_cases hk1 : k = 1
      · subst hk1
        have hr0 := HW.out.r.k
        have hr1 := HW.out.r.i
        have hr2 := HW.out.r.s
        have hf := HW.out.f
        have ha0 := HW.out.a.k
        have ha1 := HW.out.a.i
        have ha2 := HW.out.a.s
        have hb0 := HW.out.b0
        have hb1' := HW.out.b1
        have hb2 := HW.out.b2
        have hc0 := HW.out.c0
        have hc1 := HW.out.c1
        have hc2 := HW.out.c2
        go_wp2_with (go_at_call 10; refine (rtext_not0 3 0 s _ HN.out.n1 in64_0).mono ?_; rintro e w1 ⟨t1, rfl, hq1, hb1⟩; have hW1 := HW.out.later hb1)
        go_roundw
        case rel => exact ⟨1+1, by omega, by go_num, hW1⟩
        case measure => simp [intOf]; try omega
      · skip
        by_cases hk2 : k = 2
        · subst hk2
          have hr0 := HW.out.r.k
          have hr1 := HW.out.r.i
          have hr2 := HW.out.r.s
          have hf := HW.out.f
          have ha0 := HW.out.a.k
          have ha1 := HW.out.a.i
          have ha2 := HW.out.a.s
          have hb0 := HW.out.b0
          have hb1' := HW.out.b1
          have hb2 := HW.out.b2
          have hc0 := HW.out.c0
          have hc1 := HW.out.c1
          have hc2 := HW.out.c2
          go_wp2_with (go_at_call 10; refine (rtext_is0 3 1 s _ HT.out in64_1).mono ?_; rintro e w1 ⟨rfl, hb1⟩; have hW1 := HW.out.later hb1; have HW1 := Lib.hid hW1; clear hr0 hr1 hr2 hf ha0 ha1 ha2 hb0 hb1' hb2 hc0 hc1 hc2; clear hb1 hW1 HW; have hr0 := HW1.out.r.k; have hr1 := HW1.out.r.i; have hr2 := HW1.out.r.s; have hf := HW1.out.f; have ha0 := HW1.out.a.k; have ha1 := HW1.out.a.i; have ha2 := HW1.out.a.s; have hb0 := HW1.out.b0; have hb1' := HW1.out.b1; have hb2 := HW1.out.b2; have hc0 := HW1.out.c0; have hc1 := HW1.out.c1; have hc2 := HW1.out.c2)
          refine bodyPost_ret (v := .tuple #[.agg #[.int .i64 3, .int .i64 1, .string ⟨#[]⟩], .bool true]) ?_ rfl ⟨rfl, ?_⟩
          · (simp [results, Tryd.results9, go_sem, *]; done)
          · have hb1 := HW1.out.below
            repeat (first | (with_reducible exact Below.refl _ _) | ((with_reducible refine cSet3 ?_ ?_ _ _ _); (· ((try simp) <;> omega))) | (with_reducible refine Below.drew ?_) | ((with_reducible refine cAlloc ?_ ?_ _); (· ((try simp) <;> omega))) | ((with_reducible refine cOn (by assumption) ?_ ?_); (· ((try simp) <;> omega))))
        · skip
          omega

end Go.Proofs.YtnahejljelbbgaaDoor

import Derived.Test.YtnahejljelbbgaaGreatDoorTi
/- What a text is guessed to be, and parsed as: value.Parse. -/
namespace Go.Proofs.YtnahejljelbbgaaGreatDoor
open Go.RowKit Go.Lib

/-- What a text is guessed to be: the only value whose text it may be. -/
structure Guess (l : List UInt8) (k i : Int) (S : ByteArray) : Prop where
  in64 : In64 i
  ok : mayB k i S = true ∨ l ≠ []
  only : ∀ k' i' S', In64 i' → mayB k' i' S' = true → txtO k' i' S' = l → k = k' ∧ i = i' ∧ S = S'

theorem in64_0 : In64 0 := by unfold In64; omega
theorem in64_1 : In64 1 := by unfold In64; omega
theorem head_ne {c d : UInt8} {l m : List UInt8} (h : c ≠ d) : c :: l ≠ d :: m := fun e => h (List.cons.inj e).1
theorem itoa_no {n : Int} {c : UInt8} {l : List UInt8} (hc : c ≠ 45) (hd : c.toNat < 48 ∨ 57 < c.toNat) : itoa n ≠ c :: l := by
  intro e
  obtain ⟨d, r, e1, h, _⟩ := itoa_head n
  rw [e1] at e
  obtain rfl := (List.cons.inj e).1
  rcases h with h | h
  · exact hc h
  · omega
theorem toList_of {s : ByteArray} {l : List UInt8} : (s.toList == l) = false ↔ s.data.toList ≠ l := by rw [beq_eq_false_iff_ne, toList_data]
theorem get_head {s : ByteArray} {c : UInt8} {l : List UInt8} (h : s.data.toList = c :: l) (h0 : 0 < s.size) : s[0] = c := by
  have h2 : 0 < s.data.toList.length := by simpa using h0
  have : s.data.toList[0] = c := by simp [h]
  exact this
theorem mid_of {s : ByteArray} {m : List UInt8} (h : s.data.toList = 39 :: (m ++ [39])) : (s.extract 1 (s.size - 1)).data.toList = m := by
  have hs : s.size = m.length + 2 := by
    have := congrArg List.length h
    simp at this
    omega
  have e : (s.extract 1 (s.size - 1)).data.toList = (s.data.toList.drop 1).take (s.size - 1 - 1) := by
    simp [ByteArray.extract, ByteArray.data_append, ByteArray.copySlice]
  rw [e, h, hs]
  simp

theorem guess_any (s : ByteArray) (w : World) (hs : s.size ≤ 100000) (hl : LibE w) :
    Calls Tryz.prog 69 #[.string s] w fun e w' => (∃ k i S, e = .returned (.agg #[.int .i64 k, .int .i64 i, .string S]) ∧ Guess s.data.toList k i S) ∧ Below w.heap.size w w' := by
  by_cases h1 : s.data.toList = [84, 82, 85, 69]
  · refine (guess_t s w (bs_eq h1)).mono fun e w' ⟨h, hb⟩ => ⟨⟨_, _, _, h, ?_⟩, hb⟩
    rw [h1]
    have hm : mayB 3 1 ⟨#[]⟩ = true := by simp [mayB, nilBytes]
    exact ⟨in64_1, .inl hm, fun k' i' S' _ h' e => txt_inj hm h' (by rw [e]; simp [txtO, mayB, nilBytes])⟩
  · by_cases h2 : s.data.toList = [70, 65, 76, 83, 69]
    · refine (guess_f s w (bs_eq h2)).mono fun e w' ⟨h, hb⟩ => ⟨⟨_, _, _, h, ?_⟩, hb⟩
      rw [h2]
      have hm : mayB 3 0 ⟨#[]⟩ = true := by simp [mayB, nilBytes]
      exact ⟨in64_0, .inl hm, fun k' i' S' _ h' e => txt_inj hm h' (by rw [e]; simp [txtO, mayB, nilBytes])⟩
    · by_cases hq : ∃ h : 2 ≤ s.size, (s[0].toNat : Int) = 39
      · obtain ⟨h3, h0⟩ := hq
        refine (guess_q s w (toList_of.2 h1) (toList_of.2 h2) h3 h0 hs hl.libs).mono fun e w' ⟨h, hb⟩ => ⟨⟨_, _, _, h, in64_0, .inr ?_, fun k' i' S' hi' h' e => ?_⟩, hb⟩
        · intro e
          have : s.size = 0 := by rw [Lib.size_eq, e]; rfl
          omega
        · have hhd : ∀ c l, s.data.toList = c :: l → c = 39 := fun c l e => by
            have := get_head e (by omega)
            rw [this] at h0
            exact UInt8.toNat_inj.1 (by show c.toNat = 39; omega)
          cases four k' i' S' h' with
          | null hk hi hs ht => exact absurd (hhd _ _ (e.symm.trans ht)) (by decide)
          | num hk hs ht =>
            obtain ⟨c, l, e1, hc, _⟩ := itoa_head i'
            have := hhd _ _ (e.symm.trans (ht.trans e1))
            subst this
            rcases hc with hc | hc
            · exact absurd hc (by decide)
            · exact absurd hc.1 (by decide)
          | text hk hi hz hc ht =>
            refine ⟨hk.symm, hi.symm, ?_⟩
            have hm := mid_of (e.symm.trans ht)
            rw [hm, undbl]
          | no hk hi hs ht => exact absurd (hhd _ _ (e.symm.trans ht)) (by decide)
          | yes hk hi hs ht => exact absurd (hhd _ _ (e.symm.trans ht)) (by decide)
      · have hnq : ∀ l, s.data.toList ≠ 39 :: (l ++ [39]) := fun l e => hq ⟨by
          have := congrArg List.length e
          simp at this
          omega, by
          rw [get_head e (by
            have := congrArg List.length e
            simp at this
            omega)]
          rfl⟩
        have cases_ : ∀ k i, mayB k i ⟨#[]⟩ = true → (∀ i', In64 i' → itoa i' = s.data.toList → k = 1 ∧ i = i') → (s.data.toList = [78, 85, 76, 76] → k = 0 ∧ i = 0) → ∀ k' i' S', In64 i' → mayB k' i' S' = true → txtO k' i' S' = s.data.toList → k = k' ∧ i = i' ∧ (⟨#[]⟩ : ByteArray) = S' := by
          intro k i hm H1 H0 k' i' S' hi' h' e
          cases four k' i' S' h' with
          | null hk hi hs ht => have := H0 (e.symm.trans ht); exact ⟨this.1.trans hk.symm, this.2.trans hi.symm, hs.symm⟩
          | num hk hs ht => have := H1 i' hi' (ht.symm.trans e); exact ⟨this.1.trans hk.symm, this.2, hs.symm⟩
          | text hk hi hz hc ht => exact absurd (e.symm.trans ht) (hnq _)
          | no hk hi hs ht => exact absurd (e.symm.trans ht) h2
          | yes hk hi hs ht => exact absurd (e.symm.trans ht) h1
        by_cases hv : ∃ v, parseIntB 64 s.data.toList = .ok v
        · obtain ⟨v, hv⟩ := hv
          have hb64 := parseIntB_bounds hv
          have hi64 : In64 v := by unfold In64; omega
          have hm : mayB 1 v ⟨#[]⟩ = true := by simp [mayB, nilBytes]
          have hg : Guess s.data.toList 1 v ⟨#[]⟩ := ⟨hi64, .inl hm, cases_ 1 v hm (fun i' hi' e => ⟨rfl, by rw [← e, parse_itoa i' hi'] at hv; injection hv with hv; exact hv.symm⟩) (fun e => by rw [e] at hv; exact absurd hv (by simp [parseIntB, parseUintB, parseUintM]))⟩
          by_cases h3 : 2 ≤ s.size
          · exact (guess_nb s w (toList_of.2 h1) (toList_of.2 h2) h3 (fun h0 => hq ⟨h3, h0⟩) v hv hs).mono fun e w' ⟨h, hb⟩ => ⟨⟨_, _, _, h, hg⟩, hb⟩
          · exact (guess_na s w (toList_of.2 h1) (toList_of.2 h2) (by omega) v hv hs).mono fun e w' ⟨h, hb⟩ => ⟨⟨_, _, _, h, hg⟩, hb⟩
        · have hv' : ∀ v, parseIntB 64 s.data.toList ≠ .ok v := fun v h => hv ⟨v, h⟩
          have hm : mayB 0 0 ⟨#[]⟩ = true := by simp [mayB, nilBytes]
          have hg : Guess s.data.toList 0 0 ⟨#[]⟩ := ⟨in64_0, .inl hm, cases_ 0 0 hm (fun i' hi' e => absurd (by rw [← e]; exact parse_itoa i' hi') (hv' i')) (fun _ => ⟨rfl, rfl⟩)⟩
          by_cases h3 : 2 ≤ s.size
          · exact (guess_0b s w (toList_of.2 h1) (toList_of.2 h2) h3 (fun h0 => hq ⟨h3, h0⟩) hv' hs hl.errs).mono fun e w' ⟨h, hb⟩ => ⟨⟨_, _, _, h, hg⟩, hb⟩
          · exact (guess_0a s w (toList_of.2 h1) (toList_of.2 h2) (by omega) hv' hs hl.errs).mono fun e w' ⟨h, hb⟩ => ⟨⟨_, _, _, h, hg⟩, hb⟩

theorem text_is (k i : Int) (S s : ByteArray) (w : World) (h : txtO k i S = s.data.toList) (hl : Libs w) (hi : In64 i) :
    Calls Tryz.prog 30 #[.agg #[.int .i64 k, .int .i64 i, .string S]] w fun e w' => e = .returned (.string s) ∧ Below w.heap.size w w' :=
  (text_any k i S w hl hi).mono fun e w' ⟨h1, h2⟩ => ⟨by rw [h1, h], h2⟩
theorem text_not (k i : Int) (S s : ByteArray) (w : World) (h : txtO k i S ≠ s.data.toList) (hl : Libs w) (hi : In64 i) :
    Calls Tryz.prog 30 #[.agg #[.int .i64 k, .int .i64 i, .string S]] w fun e w' => ∃ t, e = .returned (.string t) ∧ (t.toList == s.toList) = false ∧ Below w.heap.size w w' :=
  (text_any k i S w hl hi).mono fun e w' ⟨h1, h2⟩ => ⟨_, h1, beq_eq_false_iff_ne.2 (by rw [toList_data, toList_data]; exact fun e => h (by simpa using e)), h2⟩
theorem guess_is (k i : Int) (S s : ByteArray) (w : World) (hm : mayB k i S = true) (ht : txtO k i S = s.data.toList) (hi : In64 i) (hs : s.size ≤ 100000) (hl : LibE w) :
    Calls Tryz.prog 69 #[.string s] w fun e w' => e = .returned (.agg #[.int .i64 k, .int .i64 i, .string S]) ∧ Below w.heap.size w w' :=
  (guess_any s w hs hl).mono fun e w' ⟨⟨k', i', S', h, hg⟩, hb⟩ => ⟨by obtain ⟨rfl, rfl, rfl⟩ := hg.only k i S hi hm ht; exact h, hb⟩
theorem guess_not (s : ByteArray) (w : World) (hn : ∀ k i S, In64 i → mayB k i S = true → txtO k i S ≠ s.data.toList) (hs : s.size ≤ 100000) (hl : LibE w) :
    Calls Tryz.prog 69 #[.string s] w fun e w' => ∃ k i S, e = .returned (.agg #[.int .i64 k, .int .i64 i, .string S]) ∧ Hid (txtO k i S ≠ s.data.toList ∧ In64 i) ∧ Below w.heap.size w w' :=
  (guess_any s w hs hl).mono fun e w' ⟨⟨k, i, S, h, hg⟩, hb⟩ => ⟨k, i, S, h, ⟨fun e => by
    cases hm : mayB k i S with
    | true => exact hn k i S hg.in64 hm e
    | false =>
      rcases hg.ok with h | h
      · rw [hm] at h; cases h
      · unfold txtO at e
        rw [hm] at e
        exact h e.symm, hg.in64⟩, hb⟩

set_option maxRecDepth 100000 in
set_option maxHeartbeats 800000 in
theorem vparse_ok (k i : Int) (S s : ByteArray) (w : World) (hm : mayB k i S = true) (ht : txtO k i S = s.data.toList) (hi : In64 i) (hs : s.size ≤ 100000) (hl : LibE w) :
    Calls Tryz.prog 55 #[.string s] w fun e w' => e = .returned (.tuple #[.agg #[.int .i64 k, .int .i64 i, .string S], .int .i64 0]) ∧ Below w.heap.size w w' := by
  have HG := Lib.hid (fun (W : World) (h : LibE W) => guess_is k i S s W hm ht hi hs h)
  have HT := Lib.hid (fun (W : World) (h : Libs W) => text_is k i S s W ht h hi)
  have HL := Lib.hid hl
  clear hm ht hi hl
  go_enter Tryz.func55, Tryz.ntmps55
  go_wp2_with (first
    | (go_at_call 69; refine (HG.out _ (HL.out.keep (by repeat (first | (with_reducible exact Below.refl _ _) | ((with_reducible refine cSet3 ?_ ?_ _ _ _); (· ((try simp) <;> omega))) | (with_reducible refine Below.drew ?_) | ((with_reducible refine cAlloc ?_ ?_ _); (· ((try simp) <;> omega))) | ((with_reducible refine cOn (by assumption) ?_ ?_); (· ((try simp) <;> omega))))) (Nat.le_refl _))).mono ?_; rintro e w1 ⟨rfl, hb1⟩; have hc1 := (bcell hb1).1; have hf1 := (bcell hb1).2; have hy1 := hb1.size; (try simp at hy1); have hz1_0 : w.heap.size < w1.heap.size := (by omega); have hx1 : w.heap.size < w1.heap.size + 1 := (by omega); have hx2 : ¬ w.heap.size = w1.heap.size := (by omega))
    | (go_at_call 30; refine (HT.out _ (HL.out.keep (by repeat (first | (with_reducible exact Below.refl _ _) | ((with_reducible refine cSet3 ?_ ?_ _ _ _); (· ((try simp) <;> omega))) | (with_reducible refine Below.drew ?_) | ((with_reducible refine cAlloc ?_ ?_ _); (· ((try simp) <;> omega))) | ((with_reducible refine cOn (by assumption) ?_ ?_); (· ((try simp) <;> omega))))) (Nat.le_refl _)).libs).mono ?_; rintro e w2 ⟨rfl, hb2⟩; have hc2 := (bcell hb2).1; have hf2 := (bcell hb2).2; have hy2 := hb2.size; (try simp at hy2); have hz2_0 : w.heap.size < w2.heap.size := (by omega)))
  refine bodyPost_ret (v := .tuple #[.agg #[.int .i64 k, .int .i64 i, .string S], .int .i64 0]) ?_ rfl ⟨rfl, ?_⟩
  · (simp [results, Tryz.results55, go_sem, *]; done)
  repeat (first | (with_reducible exact Below.refl _ _) | ((with_reducible refine cSet3 ?_ ?_ _ _ _); (· ((try simp) <;> omega))) | (with_reducible refine Below.drew ?_) | ((with_reducible refine cAlloc ?_ ?_ _); (· ((try simp) <;> omega))) | ((with_reducible refine cOn (by assumption) ?_ ?_); (· ((try simp) <;> omega))))

set_option maxRecDepth 100000 in
set_option maxHeartbeats 800000 in
theorem vparse_no (s : ByteArray) (w : World) (hn : ∀ k i S, In64 i → mayB k i S = true → txtO k i S ≠ s.data.toList) (hs : s.size ≤ 100000) (hl : LibE w) :
    Calls Tryz.prog 55 #[.string s] w fun e w' => e = .returned (.tuple #[.agg #[.int .i64 0, .int .i64 0, .string ⟨#[]⟩], .int .i64 3]) ∧ Below w.heap.size w w' := by
  have HG := Lib.hid (fun (W : World) (h : LibE W) => guess_not s W hn hs h)
  have HL := Lib.hid hl
  clear hn hl
  go_enter Tryz.func55, Tryz.ntmps55
  go_wp2_with (first
    | (go_at_call 69; refine (HG.out _ (HL.out.keep (by repeat (first | (with_reducible exact Below.refl _ _) | ((with_reducible refine cSet3 ?_ ?_ _ _ _); (· ((try simp) <;> omega))) | (with_reducible refine Below.drew ?_) | ((with_reducible refine cAlloc ?_ ?_ _); (· ((try simp) <;> omega))) | ((with_reducible refine cOn (by assumption) ?_ ?_); (· ((try simp) <;> omega))))) (Nat.le_refl _))).mono ?_; rintro e w1 ⟨k, i, S, rfl, HQ, hb1⟩; have hc1 := (bcell hb1).1; have hf1 := (bcell hb1).2; have hy1 := hb1.size; (try simp at hy1); have hz1_0 : w.heap.size < w1.heap.size := (by omega); have hx1 : w.heap.size < w1.heap.size + 1 := (by omega); have hx2 : ¬ w.heap.size = w1.heap.size := (by omega))
    | (go_at_call 30; refine (text_not k i S s _ HQ.out.1 (HL.out.keep (by repeat (first | (with_reducible exact Below.refl _ _) | ((with_reducible refine cSet3 ?_ ?_ _ _ _); (· ((try simp) <;> omega))) | (with_reducible refine Below.drew ?_) | ((with_reducible refine cAlloc ?_ ?_ _); (· ((try simp) <;> omega))) | ((with_reducible refine cOn (by assumption) ?_ ?_); (· ((try simp) <;> omega))))) (Nat.le_refl _)).libs HQ.out.2).mono ?_; rintro e w2 ⟨t2, rfl, hq2, hb2⟩; have hc2 := (bcell hb2).1; have hf2 := (bcell hb2).2; have hy2 := hb2.size; (try simp at hy2); have hz2_0 : w.heap.size < w2.heap.size := (by omega)))
  refine bodyPost_ret (v := .tuple #[.agg #[.int .i64 0, .int .i64 0, .string ⟨#[]⟩], .int .i64 3]) ?_ rfl ⟨rfl, ?_⟩
  · (simp [results, Tryz.results55, go_sem, *]; done)
  repeat (first | (with_reducible exact Below.refl _ _) | ((with_reducible refine cSet3 ?_ ?_ _ _ _); (· ((try simp) <;> omega))) | (with_reducible refine Below.drew ?_) | ((with_reducible refine cAlloc ?_ ?_ _); (· ((try simp) <;> omega))) | ((with_reducible refine cOn (by assumption) ?_ ?_); (· ((try simp) <;> omega))))
end Go.Proofs.YtnahejljelbbgaaGreatDoor
